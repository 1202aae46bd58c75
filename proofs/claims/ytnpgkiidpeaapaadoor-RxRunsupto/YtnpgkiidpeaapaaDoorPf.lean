/- The reference's stands and inside. -/
import Derived.Test.YtnpgkiidpeaapaaDoorPe
namespace Go.Proofs.YtnpgkiidpeaapaaDoor
open Go.RowKit

theorem rword_any (s : ByteArray) (i : Int) (hs : s.size ≤ 9223372036854775807) (w : World) : Calls Tryd.prog 24 #[.string s, .int .i64 i] w fun r w' => r = .returned (.bool (wrB s i)) ∧ Below w.heap.size w w' := by
  by_cases h : i < 0 ∨ (s.size : Int) ≤ i
  · exact rword_out s i hs h w
  · obtain ⟨k, rfl⟩ : ∃ k : Nat, i = (k : Int) := ⟨i.toNat, by omega⟩
    exact rword_in s k hs (by omega) w
set_option maxHeartbeats 2000000 in
set_option maxRecDepth 100000 in
theorem rstands_any (w : World) (op arg : Int) (s : ByteArray) (a : Nat) (hs : s.size ≤ 9223372036854775807) (ha : a ≤ s.size) (hop : 5 ≤ op ∨ op = 1 ∨ op < 1) :
    Calls Tryd.prog 16 #[.int .i64 op, .int .i64 arg, .string s, .int .i64 (a : Int)] w fun r w' => r = .returned (.bool (stB op arg s a)) ∧ Below w.heap.size w w' := by
  have hsb : (s.size : Int) ≤ 9223372036854775807 := by omega
  have hB := Below.refl w.heap.size w
  rcases (show op = 5 ∨ op = 6 ∨ op = 7 ∨ op = 8 ∨ op = 9 ∨ (op ≠ 5 ∧ op ≠ 6 ∧ op ≠ 7 ∧ op ≠ 8 ∧ op ≠ 9) by omega) with rfl | rfl | rfl | rfl | rfl | ⟨n5, n6, n7, n8, n9⟩
  · have E : stB 5 arg s a = ((a : Int) == 0) := by
      show decide (a = 0) = _
      rw [Bool.eq_iff_iff, decide_eq_true_iff, beq_iff_eq]
      omega
    rw [E]
    go_enter Tryd.func16, Tryd.ntmps16
    go_wp2
    go_ret
    exact ⟨rfl, hB⟩
  · have E : stB 6 arg s a = ((a : Int) == (s.size : Int)) := by
      show decide (a = s.size) = _
      rw [Bool.eq_iff_iff, decide_eq_true_iff, beq_iff_eq]
      omega
    rw [E]
    go_enter Tryd.func16, Tryd.ntmps16
    go_wp2
    go_ret
    exact ⟨rfl, hB⟩
  · cases a with
    | zero =>
      have E : stB 7 arg s 0 = true := by
        show decide (0 = 0 ∨ bt s (0 - 1) = 10) = true
        simp
      rw [E]
      go_enter Tryd.func16, Tryd.ntmps16
      go_wp2
      go_ret
      exact ⟨rfl, hB⟩
    | succ k =>
      have hk : k < s.size := by omega
      have hk' : (k : Int) < s.size := by omega
      have E : stB 7 arg s (k + 1) = ((((s[k]'hk).toNat : Nat) : Int) == 10) := by
        show decide (k + 1 = 0 ∨ bt s (k + 1 - 1) = 10) = _
        rw [Nat.add_sub_cancel, bt_get s k hk, Bool.eq_iff_iff, decide_eq_true_iff, beq_iff_eq]
        omega
      rw [E]
      have hne : ((k : Int) + 1 == 0) = false := beq_eq_false_iff_ne.2 (by omega)
      have hne' : ¬ (k : Int) + 1 = 0 := by omega
      go_enter Tryd.func16, Tryd.ntmps16
      go_wp2
      go_ret
      exact ⟨rfl, hB⟩
  · by_cases e : a = s.size
    · have E : stB 8 arg s a = true := by
        show decide (a = s.size ∨ bt s a = 10) = true
        simp [e]
      rw [E]
      have e' : (a : Int) = (s.size : Int) := by omega
      have e'' : ((a : Int) == (s.size : Int)) = true := by rw [beq_iff_eq]; exact e'
      go_enter Tryd.func16, Tryd.ntmps16
      go_wp2
      go_ret
      exact ⟨rfl, hB⟩
    · have hk : a < s.size := by omega
      have hk' : (a : Int) < s.size := by omega
      have E : stB 8 arg s a = ((((s[a]'hk).toNat : Nat) : Int) == 10) := by
        show decide (a = s.size ∨ bt s a = 10) = _
        rw [bt_get s a hk, Bool.eq_iff_iff, decide_eq_true_iff, beq_iff_eq]
        omega
      rw [E]
      have hne : ((a : Int) == (s.size : Int)) = false := beq_eq_false_iff_ne.2 (by omega)
      have hne' : ¬ (a : Int) = (s.size : Int) := by omega
      go_enter Tryd.func16, Tryd.ntmps16
      go_wp2
      go_ret
      exact ⟨rfl, hB⟩
  · have k1 := rword_any s ((a : Int) - 1) hs
    have k2 := rword_any s (a : Int) hs
    have E : stB 9 arg s a = ((wrB s ((a : Int) - 1) != wrB s (a : Int)) == (arg == 0)) := by
      show (edB s a == decide (arg = 0)) = _
      congr 1
    rw [E]
    have hw : wrap64 ((a : Int) - 1) = (a : Int) - 1 := by
      unfold wrap64
      omega
    generalize wrB s ((a : Int) - 1) = B at *
    generalize wrB s (a : Int) = D at *
    go_enter Tryd.func16, Tryd.ntmps16
    go_wp2_with fail
    go_fit (k1 _)
    rintro r w1 ⟨rfl, b1⟩
    go_wp2_with fail
    go_fit (k2 _)
    rintro r w2 ⟨rfl, b2⟩
    go_wp2
    go_ret
    exact ⟨rfl, b1.trans (b2.mono b1.size)⟩
  · have E : stB op arg s a = (op == 10) := by
      unfold stB
      rw [if_neg n5, if_neg n6, if_neg n7, if_neg n8, if_neg n9]
      rw [Bool.eq_iff_iff, decide_eq_true_iff, beq_iff_eq]
    rw [E]
    go_enter Tryd.func16, Tryd.ntmps16
    go_wp2
    go_ret
    exact ⟨rfl, hB⟩
end Go.Proofs.YtnpgkiidpeaapaaDoor
