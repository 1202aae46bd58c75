/- isPlace; the reference's word and stands. -/
import Derived.Test.YtnpgkiidpeaapaaDoorPc
import Derived.Deep.RegionWith
import Derived.BigRegion
namespace Go.Proofs.YtnpgkiidpeaapaaDoor
open Go.RowKit

/-- May an instruction that looks about itself be passed at a place? -/
def stB (op arg : Int) (s : ByteArray) (a : Nat) : Bool :=
  if op = 5 then decide (a = 0) else if op = 6 then decide (a = s.size) else if op = 7 then decide (a = 0 ∨ bt s (a - 1) = 10) else if op = 8 then decide (a = s.size ∨ bt s a = 10) else if op = 9 then edB s a == decide (arg = 0) else decide (op = 10)
set_option maxHeartbeats 2000000 in
set_option maxRecDepth 100000 in
theorem place_any (w : World) (g o : Nat) (op arg : Int) (s : ByteArray) (a : Nat) (hs : s.size ≤ 9223372036854775807) (ha : a ≤ s.size) (h0 : w.cell? ⟨g, o, none⟩ = some (.int .i64 op)) (h3 : w.cell? ⟨g, o + 3, none⟩ = some (.int .i64 arg)) (hop : 5 ≤ op ∧ op ≤ 10) :
    Calls Tryd.prog 40 #[.pointer (some ⟨g, o, none⟩), .string s, .int .i64 (a : Int)] w fun r w' => r = .returned (.bool (stB op arg s a)) ∧ Below w.heap.size w w' := by
  have hsb : (s.size : Int) ≤ 9223372036854775807 := by omega
  have hB := Below.refl w.heap.size w
  rcases (show op = 5 ∨ op = 6 ∨ op = 7 ∨ op = 8 ∨ op = 9 ∨ op = 10 by omega) with rfl | rfl | rfl | rfl | rfl | rfl
  · have E : stB 5 arg s a = ((a : Int) == 0) := by
      show decide (a = 0) = _
      rw [Bool.eq_iff_iff, decide_eq_true_iff, beq_iff_eq]
      omega
    rw [E]
    go_enter Tryd.func40, Tryd.ntmps40
    go_wp2
    go_ret
    exact ⟨rfl, hB⟩
  · have E : stB 6 arg s a = ((a : Int) == (s.size : Int)) := by
      show decide (a = s.size) = _
      rw [Bool.eq_iff_iff, decide_eq_true_iff, beq_iff_eq]
      omega
    rw [E]
    go_enter Tryd.func40, Tryd.ntmps40
    go_wp2
    go_ret
    exact ⟨rfl, hB⟩
  · cases a with
    | zero =>
      have E : stB 7 arg s 0 = true := by
        show decide (0 = 0 ∨ bt s (0 - 1) = 10) = true
        simp
      rw [E]
      go_enter Tryd.func40, Tryd.ntmps40
      go_wp2
      go_ret
      exact ⟨rfl, hB⟩
    | succ k =>
      have hk : k < s.size := by omega
      have hk' : (k : Int) < s.size := by omega
      have E : stB 7 arg s (k + 1) = ((((s[k]'hk).toNat : Nat) : Int) == 10) := by
        show decide (k + 1 = 0 ∨ bt s (k + 1 - 1) = 10) = _
        rw [Nat.add_sub_cancel, bt_get s k hk, Bool.eq_iff_iff, decide_eq_true_iff, beq_iff_eq]
        omega
      rw [E]
      have hne : ((k : Int) + 1 == 0) = false := beq_eq_false_iff_ne.2 (by omega)
      have hne' : ¬ (k : Int) + 1 = 0 := by omega
      go_enter Tryd.func40, Tryd.ntmps40
      go_wp2
      go_ret
      exact ⟨rfl, hB⟩
  · by_cases e : a = s.size
    · have E : stB 8 arg s a = true := by
        show decide (a = s.size ∨ bt s a = 10) = true
        simp [e]
      rw [E]
      have e' : (a : Int) = (s.size : Int) := by omega
      have e'' : ((a : Int) == (s.size : Int)) = true := by rw [beq_iff_eq]; exact e'
      go_enter Tryd.func40, Tryd.ntmps40
      go_wp2
      go_ret
      exact ⟨rfl, hB⟩
    · have hk : a < s.size := by omega
      have hk' : (a : Int) < s.size := by omega
      have E : stB 8 arg s a = ((((s[a]'hk).toNat : Nat) : Int) == 10) := by
        show decide (a = s.size ∨ bt s a = 10) = _
        rw [bt_get s a hk, Bool.eq_iff_iff, decide_eq_true_iff, beq_iff_eq]
        omega
      rw [E]
      have hne : ((a : Int) == (s.size : Int)) = false := beq_eq_false_iff_ne.2 (by omega)
      have hne' : ¬ (a : Int) = (s.size : Int) := by omega
      go_enter Tryd.func40, Tryd.ntmps40
      go_wp2
      go_ret
      exact ⟨rfl, hB⟩
  · have kE := isEdge_any s a hs ha
    have E : stB 9 arg s a = (edB s a == (arg == 0)) := by
      show (edB s a == decide (arg = 0)) = _
      congr 1
    rw [E]
    generalize edB s a = B at *
    go_enter Tryd.func40, Tryd.ntmps40
    go_wp2_with fail
    go_region_with (go_at_call 45; refine (kE _).mono ?_; rintro r w ⟨rfl, rfl⟩)
    all_goals go_wp2
    all_goals go_ret
    all_goals exact ⟨rfl, hB.drew⟩
  · have E : stB 10 arg s a = true := rfl
    rw [E]
    go_enter Tryd.func40, Tryd.ntmps40
    go_wp2
    go_ret
    exact ⟨rfl, hB⟩
end Go.Proofs.YtnpgkiidpeaapaaDoor
