
/- emptied. -/
import Derived.Test.YtcgpjmpppajfdabRt
namespace Go.Proofs.Ytcgpjmpppajfdab
open Go.RowKit

theorem out_sorted {K : It → Int} {A : Rk → Rk → Bool} (hA : Is K A) {B : List Rk} {n m : Nat} {f : Nat → Rk} (h : Bk K B n f m) {ys : List It} (hr : RS K (B.map (·.1)) ys) : outL A n f = ys := by
  obtain ⟨R, e, s⟩ := hr B h.up rfl
  have s2 := outR_st hA n f h.heap
  have s3 : St K B (outR A n f) := ⟨s2.1.trans h.perm, s2.2⟩
  rw [← outR_map, ← e, s.uniq s3 h.up.dst]
theorem lk_drop (ys : List It) (i : Nat) (x : It) (r : List It) (h : ys.drop i = x :: r) : lk ys i = x ∧ ys.drop (i + 1) = r ∧ i < ys.length := by
  have hi : i < ys.length := by
    rcases Nat.lt_or_ge i ys.length with h1 | h1
    · exact h1
    · rw [List.drop_eq_nil_of_le h1] at h; cases h
  rw [List.drop_eq_getElem_cons hi] at h
  injection h with h1 h2
  exact ⟨by simp [lk, List.getD, hi, h1], h2, hi⟩

end Go.Proofs.Ytcgpjmpppajfdab
