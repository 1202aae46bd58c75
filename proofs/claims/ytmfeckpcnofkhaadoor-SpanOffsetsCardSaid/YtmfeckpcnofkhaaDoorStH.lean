/- Step on both sides. -/
import Derived.Test.YtmfeckpcnofkhaaDoorStG
namespace Go.Proofs.YtmfeckpcnofkhaaDoor
open Go.RowKit

/-- One value, or both too far on the same side. -/
def far3 (x y : Int) : Prop := x = y ∨ (315360000000000 < x ∧ 315360000000000 < y) ∨ (x < -315360000000000 ∧ y < -315360000000000)
theorem sec_rel (m : Bool) (F : ByteArray) (n k : Int) (h0 : 0 ≤ n) (hk : k = n ∨ 100000000000000 ≤ k ∧ 100000000000000 ≤ n) (t0 : 0 ≤ thV F) : far3 (secV m (min n 315360000001 * 1000) F) (secV m (k * 1000) F) := by
  unfold far3 secV
  generalize thV F = th at *
  generalize hfV F = hf at *
  by_cases c : n ≤ 315360000000
  · have e : k = n := by omega
    subst e
    rw [show min k 315360000001 = k by omega]
    exact .inl rfl
  · rw [show min n 315360000001 = 315360000001 by omega]
    cases m with
    | true =>
      simp only [true_and, if_true]
      refine .inr (.inr ?_)
      split <;> omega
    | false =>
      simp only [Bool.false_eq_true, false_and, if_false]
      refine .inr (.inl ?_)
      split <;> omega
theorem stR_far (x y : Int) (h : far3 x y) : stR x = stR y := by
  unfold far3 at h
  rcases h with h | ⟨h1, h2⟩ | ⟨h1, h2⟩
  · rw [h]
  · unfold stR; rw [if_neg (by omega), if_pos h1, if_neg (by omega), if_pos h2]
  · unfold stR; rw [if_pos (by omega), if_pos (by omega)]
/-- The reference's seconds and near, together. -/
theorem rsec_val (s : ByteArray) (hs : s.size ≤ 64) (h : okS s) : ∃ (W F : ByteArray) (v : Int), (∀ w, Calls Tryd.prog 38 #[.string s] w fun e w' => e = .returned (.tuple #[.bool (mn s), .string W, .string F, .bool true]) ∧ Below w.heap.size w w') ∧
    (∀ w, Calls Tryd.prog 39 #[.bool (mn s), .string W, .string F] w fun e w' => e = .returned (.int .i64 v) ∧ Below w.heap.size w w') ∧ far3 (secV (mn s) (min (nmS s) 315360000001 * 1000) (frS s)) v := by
  have hfd := frS_digits s h
  have hwd := all_digits (sT s)
  have hT : (sT s).size ≤ 64 := by unfold sT; rw [ByteArray.size_extract]; omega
  have hWs : ((sT s).extract 0 (rn (sT s) 0)).size ≤ 64 := by rw [ByteArray.size_extract]; omega
  have hfs : (frS s).size ≤ 64 := by
    unfold frS
    split
    · show 0 ≤ 64; omega
    · unfold sU sR
      rw [ByteArray.size_extract, ByteArray.size_extract]; omega
  have ht := thV_bd _ hfd
  refine ⟨(sT s).extract 0 (rn (sT s) 0), frS s, secV (mn s) (wN ((sT s).extract 0 (rn (sT s) 0)) * 1000) (frS s), fun w => ?_, fun w => ?_, ?_⟩
  · have := rseconds_any s w hs
    rwa [if_pos h] at this
  · exact rnear_any (mn s) _ (frS s) (thV (frS s)) (hfV (frS s)) _ w hWs hwd ht.1 ht.2 (hfV_bd _) rfl (fun w => rthousandths_any (frS s) w hfs hfd)
  · exact sec_rel (mn s) (frS s) (nmS s) _ (vl_nn _ hwd _ (Nat.le_refl _)) (wN_rel _ hwd).2 ht.1
theorem step_both (s : ByteArray) : ∃ n e : Int, (∀ w, Units w → Calls Tryd.prog 18 #[.string s] w fun r w' => r = .returned (.tuple #[.int .i64 n, .int .i64 e]) ∧ Below w.heap.size w w') ∧
    (∀ w, Calls Tryd.prog 20 #[.string s] w fun r w' => r = .returned (.tuple #[.int .i64 n, .int .i64 e]) ∧ Below w.heap.size w w') := by
  by_cases l : 64 < s.size
  · exact ⟨0, 1, fun w _ => step_long s w l, fun w => rstep_long s w l⟩
  · have h1 := hdG_fst (V1 s) (V2 s) s 7 0 0 0 0
    have h2 := hdG_snd s 7 0 0 0 0 (by omega) (by omega) (by omega) (.inl rfl)
    have k1 := fun w hU => duration_any s w hU (by omega)
    have k2 := fun w => rparse_any s w
    unfold far2 at h2
    generalize hdG (V1 s) s 7 0 0 0 = A at *
    generalize hdG (V2 s) s 7 0 0 0 = B at *
    obtain ⟨a1, a2⟩ := A
    obtain ⟨b1, b2⟩ := B
    simp only at h1 h2
    subst h1
    by_cases d : 0 < a1 ∧ a1 = s.size
    · rw [decide_eq_true (show 0 < (a1, a2).1 ∧ (a1, a2).1 = s.size from d)] at k1
      by_cases f : 315360000000000 < b2
      · rw [show paR s.size (a1, b2) = (0, 31) by unfold paR; rw [if_neg l, if_neg (not_not_intro d), if_pos f]] at k2
        refine ⟨0, 31, fun w hU => ?_, fun w => rstep_far s _ w l k2⟩
        have := step_dur s a2 w l k1 hU
        rwa [show stR a2 = (0, 31) by unfold stR; rw [if_neg (by omega), if_pos (by omega)]] at this
      · rw [show paR s.size (a1, b2) = (b2, 0) by unfold paR; rw [if_neg l, if_neg (not_not_intro d), if_neg f]] at k2
        have e : a2 = b2 := by omega
        subst e
        exact ⟨_, _, fun w hU => step_dur s a2 w l k1 hU, fun w => rstep_dur s a2 w l (by omega) k2⟩
    · rw [decide_eq_false (show ¬ (0 < (a1, a2).1 ∧ (a1, a2).1 = s.size) from d)] at k1
      rw [show paR s.size (a1, b2) = (0, 30) by unfold paR; rw [if_neg l, if_pos d]] at k2
      by_cases o : okS s
      · obtain ⟨W, F, v, q1, q2, q3⟩ := rsec_val s (by omega) o
        refine ⟨(stR v).1, (stR v).2, fun w hU => ?_, fun w => rstep_sec s W F (mn s) v w l k2 q1 q2⟩
        have := step_sec s a2 _ w l k1 (fun w hU => seconds_ok s w hU (by omega) o) hU
        rwa [stR_far _ _ q3] at this
      · refine ⟨0, 30, fun w hU => step_no s a2 w l k1 (fun w => seconds_no s w (by omega) o) hU, fun w => rstep_no s w l k2 (fun w => ?_)⟩
        have := rseconds_any s w (by omega)
        rwa [if_neg o] at this
end Go.Proofs.YtmfeckpcnofkhaaDoor
