/- push. -/
import Derived.Test.YtnpgkiidpeaapaaDoorKb
namespace Go.Proofs.YtnpgkiidpeaapaaDoor
open Go.RowKit

/-- Where a block stood ahead of the turn. -/
def oldP (nf : Nat) : Nat → Nat
  | 0 => 0
  | 1 => 2
  | 2 => 2
  | j + 3 => if j = nf then 1 else j + 3
section
variable {w w' : World} {S b : Nat} {L : Nat → Prop} {τ : Nat → It} {N nf nt : Nat} {fv tv sv : Value} {fs : Nat → Value}
/-- A full top goes among the full ones; the spare one takes its place. -/
theorem Stk.turn (h : Stk w S b L τ N nf bq fv tv sv fs) (hS : S ≤ w.heap.size) (hN : (N + 1) * 16 ≤ 140737488355328) :
    ∃ g c w2, (Builtin.append_ #[71, 71] 71 #[fv, .slice (some ⟨w.heap.size, 0, none⟩) 1 1]).run Tryd.prog (w.alloc (.cells #[tv] 72)) = .ok (.slice (some ⟨g, 0, none⟩) (nf + 1) c) w2 ∧
      Stk (((w2.setCell ⟨b, 5, none⟩ (.slice (some ⟨g, 0, none⟩) (nf + 1) c)).setCell ⟨b, 6, none⟩ sv).setCell ⟨b, 7, none⟩ (.slice none 0 0)) S b (more L w w2) τ N (nf + 1) 0 (.slice (some ⟨g, 0, none⟩) (nf + 1) c) sv (.slice none 0 0) (up fs nf tv) ∧
      Kp (fun k => k = b ∨ L k) w (((w2.setCell ⟨b, 5, none⟩ (.slice (some ⟨g, 0, none⟩) (nf + 1) c)).setCell ⟨b, 6, none⟩ sv).setCell ⟨b, 7, none⟩ (.slice none 0 0)) ∧
      Fld b w (((w2.setCell ⟨b, 5, none⟩ (.slice (some ⟨g, 0, none⟩) (nf + 1) c)).setCell ⟨b, 6, none⟩ sv).setCell ⟨b, 7, none⟩ (.slice none 0 0)) ∧ w2.cell? ⟨b, 5, none⟩ = some fv ∧ w2.frozen? ⟨b, 5, none⟩ = false ∧ w2.cell? ⟨b, 6, none⟩ = some tv ∧ w2.frozen? ⟨b, 6, none⟩ = false ∧ w2.cell? ⟨b, 7, none⟩ = some sv ∧ w2.frozen? ⟨b, 7, none⟩ = false := by
  obtain ⟨ta, tcp, htv⟩ := slice_of h.top
  have hone : tv.oneCell' = true := by rw [htv]; rfl
  have heN := h.eN
  have hqe := bq_eq
  have hms : bq * (nf + 1) = bq * nf + bq := Nat.mul_succ _ _
  have hnq : 2 * nf ≤ bq * nf := Nat.mul_le_mul_right _ (by rw [bq_eq]; decide)
  obtain ⟨g, c, w2, r, o2, k2, hg⟩ := append_f w S fv nf fs tv hone hS (by omega) h.full
  have hbt : ∀ k, fv.ownBlock = some k → L k ∧ k ≠ b := fun k e => h.inL 0 k e
  have nb : ¬ fv.ownBlock = some b := fun e => (hbt b e).2 rfl
  have hgb : g ≠ b := fun e => by
    rcases hg with hg | hg
    · exact nb (by rw [hg, e])
    · have := h.blt; omega
  have hglt := (row_lt o2 g rfl).2
  have q5 := k2.cell h.c5 nb
  have f5 := k2.frozen h.c5 h.z5 nb
  have q6 := k2.cell h.c6 nb
  have f6 := k2.frozen h.c6 h.z6 nb
  have q7 := k2.cell h.c7 nb
  have f7 := k2.frozen h.c7 h.z7 nb
  refine ⟨g, c, w2, r, ?_⟩
  obtain ⟨tw, htw⟩ : ∃ tw, tw = Value.slice (some ⟨g, 0, none⟩) (nf + 1) c := ⟨_, rfl⟩
  have htb : tw.ownBlock = some g := by rw [htw]; rfl
  rw [← htw] at o2 ⊢
  obtain ⟨W, hW⟩ : ∃ W, W = ((w2.setCell ⟨b, 5, none⟩ tw).setCell ⟨b, 6, none⟩ sv).setCell ⟨b, 7, none⟩ (.slice none 0 0) := ⟨_, rfl⟩
  rw [← hW]
  have kk : Kp (· = b) w2 W := by
    rw [hW]
    exact (((Kp.refl (· = b) w2).setCell (p := ⟨b, 5, none⟩) rfl _).setCell (p := ⟨b, 6, none⟩) rfl _).setCell (p := ⟨b, 7, none⟩) rfl _
  have hWs : W.heap.size = w2.heap.size := by rw [hW]; simp [World.setCell]
  -- old places of the new blocks
  have oth : ∀ i k, i ≠ 0 → bl tw sv (.slice none 0 0) (up fs nf tv) (nf + 1) i = some k → i ≠ 2 ∧ oldP nf i ≠ 0 ∧ bl fv tv sv fs nf (oldP nf i) = some k := fun i k hi e => by
    match i with
    | 0 => exact absurd rfl hi
    | 1 => exact ⟨by decide, (by show (2 : Nat) ≠ 0; decide), e⟩
    | 2 => cases e
    | j + 3 =>
      refine ⟨by omega, ?_, ?_⟩
      · show (if j = nf then 1 else j + 3) ≠ 0
        split <;> omega
      · have e' : (if j < nf + 1 then (up fs nf tv j).ownBlock else none) = some k := e
        show bl fv tv sv fs nf (if j = nf then 1 else j + 3) = some k
        by_cases hj : j = nf
        · subst hj
          rw [if_pos (by omega), up_same] at e'
          rw [if_pos rfl]
          exact e'
        · rw [if_neg hj]
          by_cases hlt : j < nf + 1
          · rw [if_pos hlt, up_other _ _ _ _ hj] at e'
            show (if j < nf then _ else _) = _
            rw [if_pos (by omega)]
            exact e'
          · rw [if_neg hlt] at e'; cases e'
  have row2 : ∀ {e s n : Nat} {v : Value} {xs : List Value}, w.ownsRow S e s v n xs → (∃ i, i ≠ 0 ∧ bl fv tv sv fs nf i = v.ownBlock) → W.ownsRow S e s v n xs := fun {e s n v xs} o ⟨i, hi, e'⟩ => by
    refine kk.row (k2.row o (fun k ek e2 => hi (h.apart i 0 k (by rw [e', ek]) e2))) (fun k ek (x : k = b) => ?_)
    exact (h.inL i k (by rw [e', ek])).2 x
  refine ⟨⟨by rw [hms, Nat.add_zero]; exact heN, Nat.zero_le _, ?_, ?_, ?_, ?_, ?_, ?_, ?_, ?_, ?_, ?_, ?_, ?_, ?_⟩, ?_, ?_, q5, f5, q6, f6, q7, f7⟩
  · rw [hW, World.cell?_setCell_other _ _ _ _ (by simp), World.cell?_setCell_other _ _ _ _ (by simp)]
    exact World.cell?_setCell_same' _ _ _ (by rw [q5]; rfl)
  · rw [hW, World.cell?_setCell_other _ _ _ _ (by simp)]
    exact World.cell?_setCell_same' _ _ _ (by rw [World.cell?_setCell_other _ _ _ _ (by simp), q6]; rfl)
  · rw [hW]
    exact World.cell?_setCell_same' _ _ _ (by rw [World.cell?_setCell_other _ _ _ _ (by simp), World.cell?_setCell_other _ _ _ _ (by simp), q7]; rfl)
  · rw [hW, World.frozen?_setCell, World.frozen?_setCell, World.frozen?_setCell]; exact f5
  · rw [hW, World.frozen?_setCell, World.frozen?_setCell, World.frozen?_setCell]; exact f6
  · rw [hW, World.frozen?_setCell, World.frozen?_setCell, World.frozen?_setCell]; exact f7
  · exact kk.row o2 (fun k e (x : k = b) => by rw [htb] at e; cases e; exact hgb x)
  · exact Tr.congr (f := τ) (row2 h.spare ⟨2, by decide, rfl⟩) (fun j hj => by omega)
  · exact ⟨rfl, .inl ⟨rfl, rfl⟩⟩
  · intro j hj
    by_cases e : j = nf
    · subst e
      rw [up_same]
      exact ⟨row2 h.top ⟨1, by decide, rfl⟩, hone⟩
    · rw [up_other _ _ _ _ e]
      have hj' : j < nf := by omega
      exact ⟨row2 (h.each j hj').1 ⟨j + 3, by omega, by show (if j < nf then _ else _) = _; rw [if_pos hj']⟩, (h.each j hj').2⟩
  · intro i j k hi hj
    have fresh : ∀ i, i ≠ 0 → ¬ bl tw sv (.slice none 0 0) (up fs nf tv) (nf + 1) i = some g := fun i hi e => by
      obtain ⟨_, e0, e1⟩ := oth i g hi e
      rcases hg with hg | hg
      · exact e0 (h.apart _ 0 g e1 hg)
      · have := h.lt g (h.inL _ g e1).1; omega
    by_cases h1 : i = 0
    · by_cases h2 : j = 0
      · omega
      · subst h1
        have : k = g := by have e : tw.ownBlock = some k := hi; rw [htb] at e; exact (Option.some.inj e).symm
        subst this
        exact absurd hj (fresh j h2)
    · by_cases h2 : j = 0
      · subst h2
        have : k = g := by have e : tw.ownBlock = some k := hj; rw [htb] at e; exact (Option.some.inj e).symm
        subst this
        exact absurd hi (fresh i h1)
      · obtain ⟨i2, _, e1⟩ := oth i k h1 hi
        obtain ⟨j2, _, e2⟩ := oth j k h2 hj
        have e3 := h.apart _ _ k e1 e2
        -- the old places tell the new ones apart
        match i, j with
        | 0, _ => exact absurd rfl h1
        | _, 0 => exact absurd rfl h2
        | 2, _ => exact absurd rfl i2
        | _, 2 => exact absurd rfl j2
        | 1, 1 => rfl
        | 1, m + 3 =>
          have : (2 : Nat) = if m = nf then 1 else m + 3 := e3
          split at this <;> omega
        | m + 3, 1 =>
          have : (if m = nf then 1 else m + 3) = 2 := e3
          split at this <;> omega
        | m + 3, n + 3 =>
          have : (if m = nf then 1 else m + 3) = (if n = nf then 1 else n + 3) := e3
          split at this <;> split at this <;> omega
  · intro i k e
    by_cases h1 : i = 0
    · subst h1
      have : k = g := by have e : tw.ownBlock = some k := e; rw [htb] at e; exact (Option.some.inj e).symm
      subst this
      refine ⟨?_, hgb⟩
      rcases hg with hg | hg
      · exact .inl (hbt k hg).1
      · exact .inr ⟨hg, hglt⟩
    · obtain ⟨_, _, e1⟩ := oth i k h1 e
      have e2 := h.inL _ k e1
      exact ⟨.inl e2.1, e2.2⟩
  · intro k hk
    rw [hWs]
    rcases hk with hk | hk
    · exact Nat.lt_of_lt_of_le (h.lt k hk) k2.size
    · exact hk.2
  · exact (k2.mono (fun i _ e => .inr (hbt i e).1)).trans (kk.mono (fun i _ e => .inl e))
  · rw [hW]
    exact (((Fld.kp k2 nb).trans (Fld.set 5 (by decide) _)).trans (Fld.set 6 (by decide) _)).trans (Fld.set 7 (by decide) _)
end
end Go.Proofs.YtnpgkiidpeaapaaDoor
