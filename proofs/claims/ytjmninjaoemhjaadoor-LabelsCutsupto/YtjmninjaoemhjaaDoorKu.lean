/- slices.Insert at the end; With. -/
import Derived.Test.YtjmninjaoemhjaaDoorKt
namespace Go.Proofs.YtjmninjaoemhjaaDoor.K
open Go.RowKit Go.Lib

attribute [local go_sem] Oper.semAt_some

theorem fits_lb (w : World) (S g cap vb : Nat) (ks : List Lb) (x : Lb) (hroom : ks.length + 1 ≤ cap) (hv : w.heap[vb]? = some (lbX x)) (hrow : w.ownsRow S 26 2 (.slice (some ⟨g, 0, none⟩) ks.length cap) ks.length (lcL ks)) :
    ∃ w', (Builtin.append_ #[22, 22] 22 #[.slice (some ⟨g, 0, none⟩) ks.length cap, .slice (some ⟨vb, 0, none⟩) 1 1]).run Tryd.prog w = .ok (.slice (some ⟨g, 0, none⟩) (ks.length + 1) cap) w' ∧ w'.ownsRow S 26 2 (.slice (some ⟨g, 0, none⟩) (ks.length + 1) cap) (ks.length + 1) (lcL (ks ++ [x])) ∧ Kp (· = g) w w' := by
  obtain ⟨i0, hi, hz0, hz1, hz2⟩ := info_parts infL
  obtain ⟨w', r, o, gr⟩ := run_append_fits (P := Tryd.prog) w S 22 22 26 i0 2 Tryd.underlying22 hi hz1 g ks.length cap (lcL ks) hrow ⟨vb, 0, none⟩ 1 1 (l2 x) rfl (fun j u hj => by
    rw [Go.WideShapes.add_plain, Nat.zero_add]
    unfold World.cell?
    rw [hv]
    simpa [l2] using hj) (by intro u hu; simp [l2] at hu; rcases hu with rfl | rfl <;> rfl) hroom
  refine ⟨w', r, ?_, (Kp.refl _ w).grown gr (fun k e _ => (Option.some.inj e).symm)⟩
  have e1 : lcL (ks ++ [x]) = lcL ks ++ l2 x := by simp [lcL]
  rw [e1]
  exact o
set_option maxHeartbeats 4000000 in
set_option maxRecDepth 100000 in
theorem insert_end (w : World) (S g cap vb : Nat) (ks : List Lb) (x : Lb) (hroom : ks.length + 1 ≤ cap) (hn : cap ≤ 2199023255552) (hv : w.heap[vb]? = some (lbX x)) (hrow : w.ownsRow S 26 2 (.slice (some ⟨g, 0, none⟩) ks.length cap) ks.length (lcL ks)) :
    Calls Tryd.prog 34 #[.slice (some ⟨g, 0, none⟩) ks.length cap, .int .i64 (ks.length : Int), .slice (some ⟨vb, 0, none⟩) 1 1] w fun e w' => e = .returned (.slice (some ⟨g, 0, none⟩) (ks.length + 1) cap) ∧ w'.ownsRow S 26 2 (.slice (some ⟨g, 0, none⟩) (ks.length + 1) cap) (ks.length + 1) (lcL (ks ++ [x])) ∧ Kp (· = g) w w' := by
  obtain ⟨w', r, o, k⟩ := fits_lb w S g cap vb ks x hroom hv hrow
  have HE : Hid (w'.ownsRow S 26 2 (.slice (some ⟨g, 0, none⟩) (ks.length + 1) cap) (ks.length + 1) (lcL (ks ++ [x])) ∧ Kp (· = g) w w') := ⟨o, k⟩
  obtain ⟨n, hnl⟩ : ∃ n, n = ks.length := ⟨_, rfl⟩
  rw [← hnl] at r HE hroom ⊢
  have hcI : (n : Int) + 1 ≤ cap := by omega
  have hnI : (cap : Int) ≤ 2199023255552 := by omega
  clear o k hv hrow hnl
  go_enter Tryd.func34, Tryd.ntmps34
  go_wp2_with (at_builtin; refine wpList_append_run rfl (.tmp 23) (.tmp 24) 22 22 rfl _ _ rfl rfl r ?_)
  go_ret
  exact ⟨rfl, HE.out⟩
/-- The labels of other names. -/
def dropL (f : Nat → Lb) (nm : ByteArray) (n : Nat) : List Lb := (ll f n).filter fun l => !(l.1.toList == nm.toList)
theorem dropL_succ (f : Nat → Lb) (nm : ByteArray) (n : Nat) : dropL f nm (n + 1) = dropL f nm n ++ if (f n).1.toList == nm.toList then [] else [f n] := by
  unfold dropL
  rw [ll_succ, List.filter_append]
  congr 1
  split <;> rename_i h <;> simp [h]
theorem dropL_le (f : Nat → Lb) (nm : ByteArray) (n : Nat) : (dropL f nm n).length ≤ n := by
  have := List.length_filter_le (fun l : Lb => !(l.1.toList == nm.toList)) (ll f n)
  rw [ll_len] at this
  exact this
/-- A label put in its place. -/
def insL (nm vl : ByteArray) (ks : List Lb) : List Lb := (ks.takeWhile fun l => !gtB l.1 nm) ++ (nm, vl) :: ks.dropWhile fun l => !gtB l.1 nm
def wthL (f : Nat → Lb) (nm vl : ByteArray) (n : Nat) : List Lb := if vl.toList.isEmpty then dropL f nm n else insL nm vl (dropL f nm n)
end Go.Proofs.YtjmninjaoemhjaaDoor.K
