/- Step on both sides. -/
import Derived.Test.YtmfeckpcnofkhabDoorStG
namespace Go.Proofs.YtmfeckpcnofkhabDoor
open Go.RowKit

/-- One value, or both too far on the same side. -/
def far3 (x y : Int) : Prop := x = y ∨ (315360000000000 < x ∧ 315360000000000 < y) ∨ (x < -315360000000000 ∧ y < -315360000000000)
theorem sec_rel (m : Bool) (F : ByteArray) (n k : Int) (h0 : 0 ≤ n) (hk : k = n ∨ 100000000000000 ≤ k ∧ 100000000000000 ≤ n) (t0 : 0 ≤ thV F) : far3 (secV m (min n 315360000001 * 1000) F) (secV m (k * 1000) F) := by
  unfold far3 secV
  generalize thV F = th at *
  generalize hfV F = hf at *
  by_cases c : n ≤ 315360000000
  · have e : k = n := by omega
    subst e
    rw [show min k 315360000001 = k by omega]
    exact .inl rfl
  · rw [show min n 315360000001 = 315360000001 by omega]
    cases m with
    | true =>
      simp only [true_and, if_true]
      refine .inr (.inr ?_)
      split <;> omega
    | false =>
      simp only [Bool.false_eq_true, false_and, if_false]
      refine .inr (.inl ?_)
      split <;> omega
theorem stR_far (x y : Int) (h : far3 x y) : stR x = stR y := by
  unfold far3 at h
  rcases h with h | ⟨h1, h2⟩ | ⟨h1, h2⟩
  · rw [h]
  · unfold stR; rw [if_neg (by omega), if_pos h1, if_neg (by omega), if_pos h2]
  · unfold stR; rw [if_pos (by omega), if_pos (by omega)]
end Go.Proofs.YtmfeckpcnofkhabDoor
