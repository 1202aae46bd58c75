/- SpanOffsets: a time's parts; the law's two; the zone. -/
import Derived.Test.YtmfeckpcnofkhaaDoorMom
import Derived.Test.YtmfeckpcnofkhaaDoorOfC
import Derived.Laws.BytesArg
import Derived.Test.YtmfeckpcnofkhaaDoorOfD
namespace Go.Proofs.YtmfeckpcnofkhaaDoor
open Go.RowKit Go.Lib

theorem lpN_cyc (c y : Int) : lpN (c * 400 + y) = lpN y := by
  have := lp_cyc c y
  unfold lpN
  by_cases h : lp y
  · rw [if_pos h, if_pos (this.2 h)]
  · rw [if_neg h, if_neg (fun q => h (this.1 q))]
theorem dB_cyc (c y : Int) : dB (c * 400 + y) = c * 146097 + dB y := by unfold dB; omega
theorem cum_cyc (c y m : Int) : cum (c * 400 + y) m = cum y m := by unfold cum; rw [lpN_cyc]
theorem md_cyc (c y m : Int) : md (c * 400 + y) m = md y m := by unfold md; rw [lpN_cyc]

/-- A time within the range, as plain numbers. -/
structure Parts (ms : Int) (Y M D h mi s ml : Nat) : Prop where
  py : Y ≤ 9999
  pm : 1 ≤ M ∧ M ≤ 12
  pd : 1 ≤ D ∧ (D : Int) ≤ md Y M
  ph : h ≤ 23
  pmi : mi ≤ 59
  ps : s ≤ 59
  pml : ml < 1000
  pv : momV Y M D h mi s ml = ms

theorem parts_of {ms days rest cyc inC y m : Int} (H : CivR ms days rest cyc inC y m) (m0 : -62167219200000 ≤ ms) (m1 : ms ≤ 253402300799999) :
    ∃ (Y M D h mi s ml : Nat) (x1 x2 x3 : Int), civV days rest cyc inC y m = #[.int .i64 Y, .int .i64 M, .int .i64 D, .int .i64 h, .int .i64 mi, .int .i64 s, .int .i64 ml, .int .i64 x1, .int .i64 x2, .int .i64 x3] ∧ Parts ms Y M D h mi s ml := by
  obtain ⟨e1, r0, r1, e2, c0, c1, y0, y1, b0, b1, q0, q1, q2, q3⟩ := H
  have hs := cum_succ y m q0 q1
  have hY : 0 ≤ cyc * 400 + y ∧ cyc * 400 + y ≤ 9999 := by omega
  obtain ⟨Y, hYe⟩ : ∃ Y : Nat, cyc * 400 + y = (Y : Int) := ⟨(cyc * 400 + y).toNat, by omega⟩
  obtain ⟨M, hMe⟩ : ∃ M : Nat, m = (M : Int) := ⟨m.toNat, by omega⟩
  obtain ⟨D, hDe⟩ : ∃ D : Nat, inC - dB y - cum y m + 1 = (D : Int) := ⟨(inC - dB y - cum y m + 1).toNat, by omega⟩
  obtain ⟨h, hhe⟩ : ∃ h : Nat, rest / 3600000 = (h : Int) := ⟨(rest / 3600000).toNat, by omega⟩
  obtain ⟨mi, hmie⟩ : ∃ mi : Nat, rest % 3600000 / 60000 = (mi : Int) := ⟨(rest % 3600000 / 60000).toNat, by omega⟩
  obtain ⟨s, hse⟩ : ∃ s : Nat, rest % 60000 / 1000 = (s : Int) := ⟨(rest % 60000 / 1000).toNat, by omega⟩
  obtain ⟨ml, hmle⟩ : ∃ ml : Nat, rest % 1000 = (ml : Int) := ⟨(rest % 1000).toNat, by omega⟩
  have hdB : dB (Y : Int) = cyc * 146097 + dB y := by rw [← hYe, dB_cyc]
  have hcum : cum (Y : Int) m = cum y m := by rw [← hYe, cum_cyc]
  have hmd : md (Y : Int) m = md y m := by rw [← hYe, md_cyc]
  rw [hMe] at hcum hmd hs hDe q0 q1 q2 q3
  refine ⟨Y, M, D, h, mi, s, ml, (days + 4) % 7, inC - dB y + 1, md y m, ?_, ⟨by omega, by omega, ⟨by omega, by omega⟩, by omega, by omega, by omega, by omega, ?_⟩⟩
  · unfold civV
    rw [hYe, hMe, hDe, hhe, hmie, hse, hmle]
  · unfold momV
    rw [hdB, hcum]
    omega

theorem two_str (n : Nat) : strOfNums [48 + ((n / 10 : Nat) : Int), 48 + ((n % 10 : Nat) : Int)] = mk (p2 n) := by
  apply Go.WideShapes.bytes_inj
  have e1 : (48 + ((n / 10 : Nat) : Int)).toNat = 48 + n / 10 := by omega
  have e2 : (48 + ((n % 10 : Nat) : Int)).toNat = 48 + n % 10 := by omega
  simp only [strOfNums, p2, List.map_cons, List.map_nil, e1, e2]

set_option maxHeartbeats 1000000 in
theorem two_any (n : Nat) (hn : n < 100) (w : World) : Calls Tryd.prog 17 #[.int .i64 n] w fun e w' => e = .returned (.string (mk (p2 n))) ∧ Below w.heap.size w w' := by
  have hcv := run_convert_bytes_arg (P := Tryd.prog) (w.alloc (.cells #[.int .u8 (48 + ((n / 10 : Nat) : Int)), .int .u8 (48 + ((n % 10 : Nat) : Int))] 5)) 58 5 Tryd.underlying58 Tryd.underlying5 w.heap.size 0 2 2 [48 + ((n / 10 : Nat) : Int), 48 + ((n % 10 : Nat) : Int)] rfl
    (fun i hi => by
      rw [Nat.zero_add, cell_of_row _ _ i _ 5 (0, 0) (heap_alloc_new w _)]
      match i, hi with
      | 0, _ => rfl
      | 1, _ => rfl) 9 Tryd.underlying9
  rw [two_str] at hcv
  have t1 : (n : Int).tdiv 10 = ((n / 10 : Nat) : Int) := by rw [Int.tdiv_eq_ediv_of_nonneg (by omega)]; omega
  have t2 : (n : Int).tmod 10 = ((n % 10 : Nat) : Int) := by rw [Int.tmod_eq_emod_of_nonneg (by omega)]; omega
  have v1 : ((n / 10 : Nat) : Int) ≤ 9 := by omega
  have v2 : ((n % 10 : Nat) : Int) ≤ 9 := by omega
  have v3 : (0 : Int) ≤ ((n / 10 : Nat) : Int) := by omega
  have v4 : (0 : Int) ≤ ((n % 10 : Nat) : Int) := by omega
  have hni : (n : Int) < 100 := by omega
  generalize mk (p2 n) = T at *
  generalize ((n / 10 : Nat) : Int) = a at *
  generalize ((n % 10 : Nat) : Int) = b at *
  generalize (n : Int) = N at *
  go_enter Tryd.func17, Tryd.ntmps17
  go_wp2
  go_ret
  exact ⟨rfl, (Below.refl _ _).alloc (Nat.le_refl _) _⟩

/-- The clock of a zone. -/
def cl (H MI : Nat) : List UInt8 := p2 H ++ 58 :: p2 MI
theorem cl_at (H MI : Nat) (h1 : H ≤ 23) (h2 : MI ≤ 59) : (mk (cl H MI)).size = 5 ∧ isD (mk (cl H MI)) 0 ∧ isD (mk (cl H MI)) 1 ∧ bt (mk (cl H MI)) 2 = 58 ∧ isD (mk (cl H MI)) 3 ∧ isD (mk (cl H MI)) 4 ∧ d2 (mk (cl H MI)) 0 = H ∧ d2 (mk (cl H MI)) 3 = MI := by
  have hz : (mk (cl H MI)).size = 5 := by rw [mk_size]; rfl
  have hl : (cl H MI).length = 5 := rfl
  have b0 : bt (mk (cl H MI)) 0 = 48 + ((H / 10 : Nat) : Int) := by rw [bt_mk _ _ (by omega)]; exact u8v _ (by omega)
  have b1 : bt (mk (cl H MI)) 1 = 48 + ((H % 10 : Nat) : Int) := by rw [bt_mk _ _ (by omega)]; exact u8v _ (by omega)
  have b2 : bt (mk (cl H MI)) 2 = 58 := by rw [bt_mk _ _ (by omega)]; rfl
  have b3 : bt (mk (cl H MI)) 3 = 48 + ((MI / 10 : Nat) : Int) := by rw [bt_mk _ _ (by omega)]; exact u8v _ (by omega)
  have b4 : bt (mk (cl H MI)) 4 = 48 + ((MI % 10 : Nat) : Int) := by rw [bt_mk _ _ (by omega)]; exact u8v _ (by omega)
  refine ⟨hz, digit_of (by omega) b0 (by omega), digit_of (by omega) b1 (by omega), b2, digit_of (by omega) b3 (by omega), digit_of (by omega) b4 (by omega), ?_, ?_⟩
  · unfold d2; rw [b0, b1]; omega
  · unfold d2; rw [b3, b4]; omega

theorem zone_any (sg : UInt8) (m : Bool) (H MI : Nat) (h1 : H ≤ 23) (h2 : MI ≤ 59) (hs : sg = 45 ∧ m = true ∨ sg = 43 ∧ m = false) (w : World) (hU : Units w) :
    Calls Tryd.prog 52 #[.string (mk (sg :: cl H MI))] w fun r w' => r = .returned (.tuple #[.int .i64 (if m = true then -((H : Int) * 3600000 + MI * 60000) else (H : Int) * 3600000 + MI * 60000), .bool true]) ∧ Below w.heap.size w w' := by
  obtain ⟨hz, c0, c1, c2, c3, c4, e0, e3⟩ := cl_at H MI h1 h2
  have hzz : (mk (sg :: cl H MI)).size = 6 := by rw [mk_size]; rfl
  have hb0 : bt (mk (sg :: cl H MI)) 0 = (sg.toNat : Int) := by rw [bt_mk _ _ (by simp)]; rfl
  have hsa : sa (mk (sg :: cl H MI)) = 1 := by
    unfold sa
    rw [if_pos]
    rcases hs with ⟨rfl, _⟩ | ⟨rfl, _⟩
    · exact .inl ⟨by omega, by rw [hb0]⟩
    · exact .inr ⟨by omega, by rw [hb0]⟩
  have hmn : mn (mk (sg :: cl H MI)) = m := by
    unfold mn
    rcases hs with ⟨rfl, rfl⟩ | ⟨rfl, rfl⟩
    · exact decide_eq_true ⟨by omega, by rw [hb0]⟩
    · exact decide_eq_false (fun q => by have := q.2; rw [hb0] at this; simp at this)
  have k1 := fun w => cutSign_any (mk (sg :: cl H MI)) w
  rw [hsa, hmn, show (mk (sg :: cl H MI)).extract 1 (mk (sg :: cl H MI)).size = mk (cl H MI) from ext_mk [sg] (cl H MI)] at k1
  have k2 := fun w => kH5 (mk (cl H MI)) (by omega) w
  rw [decide_eq_true (show form5 (mk (cl H MI)) from ⟨hz, c0, c1, c2, c3, c4⟩)] at k2
  have k3 := num2 (mk (cl H MI)) 0 (by omega) c0 c1
  have k4 := num2 (mk (cl H MI)) 3 (by omega) c3 c4
  rw [e0] at k3
  rw [e3] at k4
  obtain ⟨n, e, he, kM, hy, _⟩ := mom_hm H MI (by omega) (by omega)
  obtain ⟨rfl, rfl⟩ := hy (by omega)
  have hz90 : ¬ (mk (sg :: cl H MI)).toList = [90] := by
    intro q
    have := congrArg List.length q
    rw [ByteArray.toList_eq] at this
    simp [cl, p2] at this
  have := offset_mom (mk (sg :: cl H MI)) (mk (cl H MI)) m H MI _ 0 w hU hz90 (by omega) (by omega) (by omega) (by omega) (by omega) k1 k2 k3 k4 kM
  rwa [decide_eq_true rfl] at this

theorem first_off (w : World) (hU : Units w) : Calls Tryd.prog 15 #[.string ⟨#[49, 57, 55, 48, 45, 48, 49, 45, 48, 49, 84, 48, 48, 58, 48, 48, 58, 48, 48, 45, 48, 48, 58, 51, 48]⟩] w fun e w' => e = .returned (.tuple #[.int .i64 1800000, .int .i64 0]) ∧ Below w.heap.size w w' := by
  have := stamp_text 1970 1 1 0 0 0 0 45 (cl 0 30) (-1800000) (by omega) (by omega) ⟨by omega, by decide⟩ (by omega) (by omega) (by omega) (by omega) (by decide) (by decide) (by decide) (by omega) (by omega) (fun w hU => zone_any 45 true 0 30 (by omega) (by omega) (.inl ⟨rfl, rfl⟩) w hU) w hU
  have e1 : mk (dt19 1970 1 1 0 0 0 ++ (dtml 0 ++ 45 :: cl 0 30)) = ⟨#[49, 57, 55, 48, 45, 48, 49, 45, 48, 49, 84, 48, 48, 58, 48, 48, 58, 48, 48, 45, 48, 48, 58, 51, 48]⟩ := by decide +kernel
  have e2 : tmR (momV 1970 1 1 0 0 0 0 - -1800000) = (1800000, 0) := by decide +kernel
  rw [e1] at this
  rw [show tmR (momV ((1970 : Nat) : Int) ((1 : Nat) : Int) ((1 : Nat) : Int) ((0 : Nat) : Int) ((0 : Nat) : Int) ((0 : Nat) : Int) ((0 : Nat) : Int) - -1800000) = (1800000, 0) from e2] at this
  exact this
end Go.Proofs.YtmfeckpcnofkhaaDoor
