
/- Rows of things that are made and stored into. -/
import Derived.Test.YtcgpjmpppajfdaaJm
import Derived.Laws.OwnMore
namespace Go.Proofs.Ytcgpjmpppajfdaa
open Go.RowKit

theorem made_i (k : Nat) : (madeCells #[Value.int .i64 0, Value.int .i64 0] (k * 2)).toList = ic (fun _ => (0, 0)) k := by
  apply List.ext_getElem?
  intro j
  by_cases hj : j < k * 2
  · have e : j = (j / 2) * 2 + j % 2 := by omega
    have h2 : (ic (fun _ => ((0 : Int), (0 : Int))) k)[j]? = some (.int .i64 0) := by
      rw [e, ic_get _ k (j / 2) (j % 2) (by omega) (by omega)]
      have : j % 2 = 0 ∨ j % 2 = 1 := by omega
      rcases this with h | h <;> rw [h] <;> rfl
    rw [h2]
    simp [madeCells, hj]
    have : j % 2 = 0 ∨ j % 2 = 1 := by omega
    rcases this with h | h <;> rw [h] <;> rfl
  · rw [List.getElem?_eq_none (by simp [madeCells]; omega), List.getElem?_eq_none (by rw [ic_len]; omega)]
theorem make_i (w : World) (S k : Nat) (hS : S ≤ w.heap.size) (hk : k * 16 ≤ 281474976710656) : ∃ w', (Instr.makeSlice 22 (.int .i64 (k : Int)) (.int .i64 (k : Int))).run Try.prog w = .ok (.slice (some ⟨w.heap.size, 0, none⟩) k k) w' ∧ Ir w' S (.slice (some ⟨w.heap.size, 0, none⟩) k k) k (fun _ => (0, 0)) ∧ Below w.heap.size w w' := by
  obtain ⟨i0, hi, hz0, hz1, hz2⟩ := info_parts infI
  obtain ⟨w1, r, o, g⟩ := run_make_full (P := Try.prog) w S 22 24 i0 (.agg #[.int .i64 0, .int .i64 0]) 2 Try.underlying22 hi hz0 hz1 .i64 .i64 k (by rw [hz2]; omega) (by unfold maxLen; omega) hS
  refine ⟨w1, r, ?_, (Below.refl _ w).grown g (Nat.le_refl _) (fun k hk => by cases hk)⟩
  unfold Ir
  rw [← made_i k]
  exact o
theorem ic_set (f : Nat → It) (j : Nat) (u : It) : ∀ n, j < n → ((ic f n).set (j * 2) (.int .i64 u.1)).set (j * 2 + 1) (.int .i64 u.2) = ic (up f j u) n
  | 0, h => by omega
  | n + 1, h => by
    rw [ic_succ, ic_succ]
    by_cases hj : j < n
    · rw [List.set_append_left _ _ (by rw [ic_len]; omega), List.set_append_left _ _ (by rw [List.length_set, ic_len]; omega), ic_set f j u n hj]
      congr 1
      congr 1
      exact (if_neg (by omega)).symm
    · obtain rfl : j = n := by omega
      rw [List.set_append_right _ _ (by rw [ic_len]; omega), List.set_append_right _ _ (by rw [ic_len]; omega), ic_len, Nat.sub_self, show j * 2 + 1 - j * 2 = 1 by omega]
      congr 1
      · exact ic_congr _ _ _ fun i hi => (if_neg (by omega)).symm
      · have : up f j u j = u := if_pos rfl
        rw [this]
        rfl
theorem Ir.set {w : World} {S g c n : Nat} {f : Nat → It} (h : Ir w S (.slice (some ⟨g, 0, none⟩) n c) n f) (j : Nat) (hj : j < n) (u : It) : Ir ((w.setCell ⟨g, j * 2, none⟩ (.int .i64 u.1)).setCell ⟨g, j * 2 + 1, none⟩ (.int .i64 u.2)) S (.slice (some ⟨g, 0, none⟩) n c) n (up f j u) := by
  unfold Ir
  rw [← ic_set f j u n hj]
  exact (World.ownsRow.stored (World.ownsRow.stored h (j * 2) (.int .i64 u.1)).1 (j * 2 + 1) (.int .i64 u.2)).1
theorem Ir.cells {w : World} {S g c n : Nat} {f : Nat → It} (h : Ir w S (.slice (some ⟨g, 0, none⟩) n c) n f) (j : Nat) (hj : j < n) : w.cell? ⟨g, j * 2, none⟩ = some (.int .i64 (f j).1) ∧ w.cell? ⟨g, j * 2 + 1, none⟩ = some (.int .i64 (f j).2) ∧ w.frozen? ⟨g, j * 2, none⟩ = false ∧ w.frozen? ⟨g, j * 2 + 1, none⟩ = false := by
  obtain ⟨a, c', e, im, _⟩ := h.iml
  cases e
  rcases im with h0 | ⟨g', o', e, _, hat⟩
  · omega
  · cases e
    have := hat j hj
    rw [Nat.zero_add] at this
    exact ⟨this.1, this.2, World.ownsRow.frozenAt h _, World.ownsRow.frozenAt h _⟩
theorem inF_bk {K : It → Int} {A : Rk → Rk → Bool} (hA : Is K A) (f0 : Nat → Rk) (xs : Nat → It) : ∀ n, Bk K (Rv.zs xs n) n (inF A f0 xs n) n
  | 0 => Bk.nil _ _
  | n + 1 => by
    rw [Rv.zs_succ]
    exact (inF_bk hA f0 xs n).push hA (xs n)
/-- What Sorted answers is what the reference's Sorted answers. -/
theorem out_is {K : It → Int} {A : Rk → Rk → Bool} (hA : Is K A) (f0 : Nat → Rk) (xs : Nat → It) (n : Nat) {ys : List It} (hr : RS K (il xs n) ys) : outL A n (inF A f0 xs n) = ys := out_sorted hA (inF_bk hA f0 xs n) (by rw [Rv.zs_map]; exact hr)
theorem lk_rev (T : List It) (j : Nat) (h : j < T.length) : lk T.reverse j = lk T (T.length - 1 - j) := by
  unfold lk
  have h1 : T.length - 1 - j < T.length := by omega
  simp [List.getD, List.getElem?_reverse h]

end Go.Proofs.Ytcgpjmpppajfdaa
