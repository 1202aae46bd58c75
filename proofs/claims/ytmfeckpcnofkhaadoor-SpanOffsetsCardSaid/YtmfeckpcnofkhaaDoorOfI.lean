/- SpanOffsets: every input. -/
import Derived.Test.YtmfeckpcnofkhaaDoorOfH
namespace Go.Proofs.YtmfeckpcnofkhaaDoor
open Go.RowKit Go.Lib

set_option maxHeartbeats 4000000 in
theorem walk_out (ms minutes : Int) (w : World) (hU : Units w) (h : minutes < -1439 ∨ 1439 < minutes ∨ ms < -62167219200000 ∨ 253402300799999 < ms) :
    Calls Tryd.prog 6 #[.int .i64 ms, .int .i64 minutes] w fun e w' => e = .returned (.bool true) ∧ Below w.heap.size w w' := by
  have k0 := first_off w hU
  by_cases c1 : minutes < -1439
  · clear h
    go_enter Tryd.func6, Tryd.ntmps6
    go_wp2_with fail
    go_fit k0
    rintro e w1 ⟨rfl, b1⟩
    go_wp2
    go_ret
    exact ⟨rfl, b1⟩
  by_cases c2 : 1439 < minutes
  · clear h
    go_enter Tryd.func6, Tryd.ntmps6
    go_wp2_with fail
    go_fit k0
    rintro e w1 ⟨rfl, b1⟩
    go_wp2
    go_ret
    exact ⟨rfl, b1⟩
  by_cases c3 : ms < -62167219200000
  · clear h
    go_enter Tryd.func6, Tryd.ntmps6
    go_wp2_with fail
    go_fit k0
    rintro e w1 ⟨rfl, b1⟩
    go_wp2
    go_ret
    exact ⟨rfl, b1⟩
  · have c4 : 253402300799999 < ms := by omega
    clear h
    go_enter Tryd.func6, Tryd.ntmps6
    go_wp2_with fail
    go_fit k0
    rintro e w1 ⟨rfl, b1⟩
    go_wp2
    go_ret
    exact ⟨rfl, b1⟩

theorem offsets_any (ms minutes : Int) (w : World) (hU : Units w) (hT : Tab w) :
    Calls Tryd.prog 6 #[.int .i64 ms, .int .i64 minutes] w fun e w' => e = .returned (.bool true) ∧ Below w.heap.size w w' := by
  by_cases c : minutes < -1439 ∨ 1439 < minutes ∨ ms < -62167219200000 ∨ 253402300799999 < ms
  · exact walk_out ms minutes w hU c
  have i0 : -1439 ≤ minutes := by omega
  have i1 : minutes ≤ 1439 := by omega
  have j0 : -62167219200000 ≤ ms := by omega
  have j1 : ms ≤ 253402300799999 := by omega
  clear c
  obtain ⟨days, rest, cyc, inC, y, m, H⟩ := civR_ex ms
  obtain ⟨Y, M, D, h, mi, s, ml, x1, x2, x3, hv, P⟩ := parts_of H j0 j1
  have hmd := md_bd (Y : Int) (M : Int)
  have pd2 := P.pd.2
  have pm2 := P.pm.2
  have kC : ∀ w, Units w → Calls Tryd.prog 8 #[.int .i64 ms] w fun e w' => e = .returned (ag Y M D h mi s ml x1 x2 x3) ∧ Below w.heap.size w w' := fun w hU => by
    have := civil_any ms days rest cyc inC y m H w hU (by omega) (by omega)
    rwa [hv] at this
  have kD := fun w hU hT => date_walk ms Y M D h mi s ml x1 x2 x3 w hU hT j0 j1 (by have := P.py; omega) (by omega) (by omega) (by have := P.ph; omega) (by have := P.pmi; omega) (by have := P.ps; omega) P.pml kC
  have hz : (mk (dt19 Y M D h mi s ++ (dtml ml ++ [90]))).size = 20 ∨ (mk (dt19 Y M D h mi s ++ (dtml ml ++ [90]))).size = 24 := by
    rw [mk_size, List.length_append, dt_len, List.length_append]
    by_cases e : ml = 0
    · left; simp [dtml, e]
    · right; simp [dtml, e, p3]
  have hx : (mk (dt19 Y M D h mi s ++ (dtml ml ++ [90]))).extract 0 ((mk (dt19 Y M D h mi s ++ (dtml ml ++ [90]))).size - 1) = mk (dt19 Y M D h mi s ++ dtml ml) := by
    have := pre_mk (dt19 Y M D h mi s ++ dtml ml) [90]
    rw [List.append_assoc] at this
    have e : (mk (dt19 Y M D h mi s ++ (dtml ml ++ [90]))).size - 1 = (dt19 Y M D h mi s ++ dtml ml).length := by
      rw [mk_size, ← List.append_assoc, List.length_append]
      simp
    rw [e]
    exact this
  by_cases hm : minutes < 0
  · obtain ⟨Hh, hH⟩ : ∃ Hh : Nat, (-minutes) / 60 = (Hh : Int) := ⟨((-minutes) / 60).toNat, by omega⟩
    obtain ⟨MI, hMI⟩ : ∃ MI : Nat, (-minutes) % 60 = (MI : Int) := ⟨((-minutes) % 60).toNat, by omega⟩
    have hTx : (((mk (dt19 Y M D h mi s ++ dtml ml) ++ ⟨#[45]⟩) ++ mk (p2 Hh)) ++ ⟨#[58]⟩) ++ mk (p2 MI) = mk (dt19 Y M D h mi s ++ (dtml ml ++ 45 :: cl Hh MI)) := by
      apply Go.WideShapes.bytes_inj
      simp [cl]
    refine walk_neg ms minutes _ _ _ Hh MI w hU hT i0 i1 hm j0 j1 hz hx (by omega) (by omega) (by rw [Int.tdiv_eq_ediv_of_nonneg (by omega)]; exact hH) (by rw [Int.tmod_eq_emod_of_nonneg (by omega)]; exact hMI) hTx kD (fun w hU => ?_)
    have := stamp_text Y M D h mi s ml 45 (cl Hh MI) (-((Hh : Int) * 3600000 + MI * 60000)) P.py P.pm P.pd P.ph P.pmi P.ps P.pml (by decide) (by decide) (by show 5 ≤ 10; omega) (by omega) (by omega) (fun w hU => by have z := zone_any 45 true Hh MI (by omega) (by omega) (.inl ⟨rfl, rfl⟩) w hU; rw [if_pos rfl] at z; exact z) w hU
    rwa [P.pv, show ms - -((Hh : Int) * 3600000 + MI * 60000) = ms - minutes * 60000 by omega] at this
  · obtain ⟨Hh, hH⟩ : ∃ Hh : Nat, minutes / 60 = (Hh : Int) := ⟨(minutes / 60).toNat, by omega⟩
    obtain ⟨MI, hMI⟩ : ∃ MI : Nat, minutes % 60 = (MI : Int) := ⟨(minutes % 60).toNat, by omega⟩
    have hTx : (((mk (dt19 Y M D h mi s ++ dtml ml) ++ ⟨#[43]⟩) ++ mk (p2 Hh)) ++ ⟨#[58]⟩) ++ mk (p2 MI) = mk (dt19 Y M D h mi s ++ (dtml ml ++ 43 :: cl Hh MI)) := by
      apply Go.WideShapes.bytes_inj
      simp [cl]
    refine walk_pos ms minutes _ _ _ Hh MI w hU hT i0 i1 hm j0 j1 hz hx (by omega) (by omega) (by rw [Int.tdiv_eq_ediv_of_nonneg (by omega)]; exact hH) (by rw [Int.tmod_eq_emod_of_nonneg (by omega)]; exact hMI) hTx kD (fun w hU => ?_)
    have := stamp_text Y M D h mi s ml 43 (cl Hh MI) ((Hh : Int) * 3600000 + MI * 60000) P.py P.pm P.pd P.ph P.pmi P.ps P.pml (by decide) (by decide) (by show 5 ≤ 10; omega) (by omega) (by omega) (fun w hU => by have z := zone_any 43 false Hh MI (by omega) (by omega) (.inr ⟨rfl, rfl⟩) w hU; rw [if_neg (by decide)] at z; exact z) w hU
    rwa [P.pv, show ms - ((Hh : Int) * 3600000 + MI * 60000) = ms - minutes * 60000 by omega] at this
end Go.Proofs.YtmfeckpcnofkhaaDoor
