/- pop, isEmpty. -/
import Derived.Test.YtnpgkiidpeaapaaDoorKd
import Derived.Laws.Rows
namespace Go.Proofs.YtnpgkiidpeaapaaDoor
open Go.RowKit

theorem Tr.shrink {w : World} {S n m : Nat} {a : Option Addr} {c : Nat} {f : Nat → It} (h : Tr w S (.slice a n c) n f) (hm : m ≤ n) : Tr w S (.slice a m c) m f := by
  refine ⟨tc_len f m, ?_⟩
  rcases h.2 with ⟨h0, h1⟩ | ⟨g', cap, cur, hv, hB, hg, h1, h2, h3, h4⟩
  · cases h0
    obtain rfl : m = 0 := by omega
    exact .inl ⟨rfl, rfl⟩
  · cases hv
    refine .inr ⟨g', c, cur, rfl, hB, hg, Nat.le_trans hm h1, h2, h3, ?_⟩
    rw [← tc_take f n m hm, ← h4, List.take_take]
    congr 1
    omega
theorem full_shrink {w : World} {S n m : Nat} {a : Option Addr} {c : Nat} {f : Nat → Value} (h : w.ownsRow S 72 1 (.slice a n c) n (sc f n)) (hm : m ≤ n) : w.ownsRow S 72 1 (.slice a m c) m (sc f m) := by
  refine ⟨by rw [sc_len, Nat.mul_one], ?_⟩
  rcases h.2 with ⟨h0, h1⟩ | ⟨g', cap, cur, hv, hB, hg, h1, h2, h3, h4⟩
  · cases h0
    obtain rfl : m = 0 := by omega
    exact .inl ⟨rfl, rfl⟩
  · cases hv
    refine .inr ⟨g', c, cur, rfl, hB, hg, Nat.le_trans hm h1, h2, h3, ?_⟩
    rw [← sc_take f n m hm, ← h4, Nat.mul_one, Nat.mul_one, List.take_take]
    congr 1
    omega
theorem ownB (a : Option Addr) (n m c c' : Nat) : (Value.slice a n c).ownBlock = (Value.slice a m c').ownBlock := by cases a <;> rfl
section
variable {w w' : World} {S b : Nat} {L : Nat → Prop} {τ : Nat → It} {N nf nt : Nat} {fv tv sv : Value} {fs : Nat → Value}
/-- The top's last task is taken. -/
theorem Stk.less {ta : Option Addr} {tcp : Nat} (h : Stk w S b L τ (N + 1) nf (nt + 1) fv (.slice ta (nt + 1) tcp) sv fs) :
    Stk (w.setCell ⟨b, 6, none⟩ (.slice ta nt tcp)) S b L τ N nf nt fv (.slice ta nt tcp) sv fs ∧ Kp (· = b) w (w.setCell ⟨b, 6, none⟩ (.slice ta nt tcp)) ∧ Fld b w (w.setCell ⟨b, 6, none⟩ (.slice ta nt tcp)) := by
  have kk : Kp (· = b) w (w.setCell ⟨b, 6, none⟩ (.slice ta nt tcp)) := (Kp.refl (· = b) w).setCell (p := ⟨b, 6, none⟩) rfl _
  have hbl : bl fv (.slice ta nt tcp) sv fs nf = bl fv (.slice ta (nt + 1) tcp) sv fs nf := by
    funext i
    match i with
    | 0 => rfl
    | 1 => exact ownB _ _ _ _ _
    | 2 => rfl
    | j + 3 => rfl
  have nb : ∀ i k, bl fv (.slice ta (nt + 1) tcp) sv fs nf i = some k → ¬ k = b := fun i k e => (h.inL i k e).2
  refine ⟨⟨by have := h.eN; omega, by have := h.hnt; omega, ?_, ?_, ?_, ?_, ?_, ?_, kk.row h.full (fun k e => nb 0 k e), ?_, kk.row h.spare (fun k e => nb 2 k e), ?_, by rw [hbl]; exact h.apart, by rw [hbl]; exact h.inL, ?_⟩, kk, Fld.set 6 (by decide) _⟩
  · rw [World.cell?_setCell_other _ _ _ _ (by simp)]; exact h.c5
  · exact World.cell?_setCell_same' _ _ _ (by rw [h.c6]; rfl)
  · rw [World.cell?_setCell_other _ _ _ _ (by simp)]; exact h.c7
  · rw [World.frozen?_setCell]; exact h.z5
  · rw [World.frozen?_setCell]; exact h.z6
  · rw [World.frozen?_setCell]; exact h.z7
  · exact (kk.row (h.top.shrink (Nat.le_succ nt)) (fun k e => nb 1 k ((ownB _ _ _ _ _).trans e)) : Tr _ S _ nt _)
  · intro j hj
    exact ⟨kk.row (h.each j hj).1 (fun k e => nb (j + 3) k (by show (if j < nf then _ else _) = _; rw [if_pos hj]; exact e)), (h.each j hj).2⟩
  · intro k hk
    have e : (w.setCell ⟨b, 6, none⟩ (.slice ta nt tcp)).heap.size = w.heap.size := by simp [World.setCell]
    rw [e]
    exact h.lt k hk
/-- An empty top becomes the spare one; the last full one becomes the top. -/
theorem Stk.open' {fa : Option Addr} {fcp : Nat} (h : Stk w S b L τ N (nf + 1) 0 (.slice fa (nf + 1) fcp) tv sv fs) :
    Stk (((w.setCell ⟨b, 7, none⟩ tv).setCell ⟨b, 6, none⟩ (fs nf)).setCell ⟨b, 5, none⟩ (.slice fa nf fcp)) S b L τ N nf bq (.slice fa nf fcp) (fs nf) tv fs ∧
      Kp (· = b) w (((w.setCell ⟨b, 7, none⟩ tv).setCell ⟨b, 6, none⟩ (fs nf)).setCell ⟨b, 5, none⟩ (.slice fa nf fcp)) ∧ Fld b w (((w.setCell ⟨b, 7, none⟩ tv).setCell ⟨b, 6, none⟩ (fs nf)).setCell ⟨b, 5, none⟩ (.slice fa nf fcp)) := by
  obtain ⟨W, hW⟩ : ∃ W, W = ((w.setCell ⟨b, 7, none⟩ tv).setCell ⟨b, 6, none⟩ (fs nf)).setCell ⟨b, 5, none⟩ (.slice fa nf fcp) := ⟨_, rfl⟩
  have kk : Kp (· = b) w W := by
    rw [hW]
    exact (((Kp.refl (· = b) w).setCell (p := ⟨b, 7, none⟩) rfl _).setCell (p := ⟨b, 6, none⟩) rfl _).setCell (p := ⟨b, 5, none⟩) rfl _
  have hWs : W.heap.size = w.heap.size := by rw [hW]; simp [World.setCell]
  have fl : Fld b w W := by
    rw [hW]
    exact ((Fld.set 7 (by decide) _).trans (Fld.set 6 (by decide) _)).trans (Fld.set 5 (by decide) _)
  have hms : bq * (nf + 1) = bq * nf + bq := Nat.mul_succ _ _
  have heN := h.eN
  have nb : ∀ i k, bl (.slice fa (nf + 1) fcp) tv sv fs (nf + 1) i = some k → ¬ k = b := fun i k e => (h.inL i k e).2
  have l3 : ∀ j, j < nf + 1 → bl (.slice fa (nf + 1) fcp) tv sv fs (nf + 1) (j + 3) = (fs j).ownBlock := fun j hj => by
    show (if j < nf + 1 then _ else _) = _
    rw [if_pos hj]
  have oth : ∀ i k, bl (.slice fa nf fcp) (fs nf) tv fs nf i = some k → bl (.slice fa (nf + 1) fcp) tv sv fs (nf + 1) (if i = 1 then nf + 3 else if i = 2 then 1 else i) = some k ∧ (3 ≤ i → i < nf + 3) := fun i k e => by
    match i with
    | 0 =>
      rw [if_neg (by decide), if_neg (by decide)]
      exact ⟨(ownB _ _ _ _ _).trans e, by omega⟩
    | 1 =>
      rw [if_pos rfl]
      exact ⟨by rw [l3 nf (by omega)]; exact e, by omega⟩
    | 2 =>
      rw [if_neg (by decide), if_pos rfl]
      exact ⟨e, by omega⟩
    | j + 3 =>
      rw [if_neg (by omega), if_neg (by omega)]
      have e' : (if j < nf then (fs j).ownBlock else none) = some k := e
      by_cases hj : j < nf
      · rw [if_pos hj] at e'
        exact ⟨by rw [l3 j (by omega)]; exact e', by omega⟩
      · rw [if_neg hj] at e'; cases e'
  rw [← hW]
  refine ⟨⟨by rw [heN, hms]; rfl, Nat.le_refl _, ?_, ?_, ?_, ?_, ?_, ?_, kk.row (full_shrink h.full (Nat.le_succ nf)) (fun k e => nb 0 k ((ownB _ _ _ _ _).trans e)), ?_, ?_, ?_, ?_, ?_, ?_⟩, kk, fl⟩
  · rw [hW]
    exact World.cell?_setCell_same' _ _ _ (by rw [World.cell?_setCell_other _ _ _ _ (by simp), World.cell?_setCell_other _ _ _ _ (by simp), h.c5]; rfl)
  · rw [hW, World.cell?_setCell_other _ _ _ _ (by simp)]
    exact World.cell?_setCell_same' _ _ _ (by rw [World.cell?_setCell_other _ _ _ _ (by simp), h.c6]; rfl)
  · rw [hW, World.cell?_setCell_other _ _ _ _ (by simp), World.cell?_setCell_other _ _ _ _ (by simp)]
    exact World.cell?_setCell_same' _ _ _ (by rw [h.c7]; rfl)
  · rw [hW, World.frozen?_setCell, World.frozen?_setCell, World.frozen?_setCell]; exact h.z5
  · rw [hW, World.frozen?_setCell, World.frozen?_setCell, World.frozen?_setCell]; exact h.z6
  · rw [hW, World.frozen?_setCell, World.frozen?_setCell, World.frozen?_setCell]; exact h.z7
  · exact kk.row (h.each nf (by omega)).1 (fun k e => nb (nf + 3) k (by rw [l3 nf (by omega)]; exact e))
  · exact Tr.congr (f := fun j => τ (bq * (nf + 1) + j)) (kk.row h.top (fun k e => nb 1 k e)) (fun j hj => by omega)
  · intro j hj
    exact ⟨kk.row (h.each j (by omega)).1 (fun k e => nb (j + 3) k (by rw [l3 j (by omega)]; exact e)), (h.each j (by omega)).2⟩
  · intro i j k hi hj
    obtain ⟨e1, r1⟩ := oth i k hi
    obtain ⟨e2, r2⟩ := oth j k hj
    have e3 := h.apart _ _ k e1 e2
    split at e3 <;> split at e3 <;> (try split at e3) <;> (try split at e3) <;> omega
  · intro i k e
    exact h.inL _ k (oth i k e).1
  · intro k hk
    rw [hWs]
    exact h.lt k hk
end
end Go.Proofs.YtnpgkiidpeaapaaDoor
