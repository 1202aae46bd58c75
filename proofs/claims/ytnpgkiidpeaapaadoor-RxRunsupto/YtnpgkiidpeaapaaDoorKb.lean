/- The stack of tasks, in blocks. -/
import Derived.Test.YtnpgkiidpeaapaaDoorKa
namespace Go.Proofs.YtnpgkiidpeaapaaDoor
open Go.RowKit

/-- So many tasks fill a block. -/
def bq : Nat := 65536
theorem bq_eq : bq = 65536 := rfl
theorem bq_mul (j n : Nat) (h : j < n) : bq * j + bq ≤ bq * n := by
  have := Nat.mul_le_mul_left bq (show j + 1 ≤ n from h)
  rw [Nat.mul_succ] at this
  exact this
/-- The blocks that a stack stands in. -/
def bl (fv tv sv : Value) (fs : Nat → Value) (nf : Nat) : Nat → Option Nat
  | 0 => fv.ownBlock
  | 1 => tv.ownBlock
  | 2 => sv.ownBlock
  | j + 3 => if j < nf then (fs j).ownBlock else none
/-- All of them apart. -/
def Ap (l : Nat → Option Nat) : Prop := ∀ i j k, l i = some k → l j = some k → i = j
structure Stk (w : World) (S b : Nat) (L : Nat → Prop) (τ : Nat → It) (N nf nt : Nat) (fv tv sv : Value) (fs : Nat → Value) : Prop where
  eN : N = bq * nf + nt
  hnt : nt ≤ bq
  c5 : w.cell? ⟨b, 5, none⟩ = some fv
  c6 : w.cell? ⟨b, 6, none⟩ = some tv
  c7 : w.cell? ⟨b, 7, none⟩ = some sv
  z5 : w.frozen? ⟨b, 5, none⟩ = false
  z6 : w.frozen? ⟨b, 6, none⟩ = false
  z7 : w.frozen? ⟨b, 7, none⟩ = false
  full : w.ownsRow S 72 1 fv nf (sc fs nf)
  top : Tr w S tv nt (fun j => τ (bq * nf + j))
  spare : Tr w S sv 0 τ
  each : ∀ j, j < nf → Tr w S (fs j) bq (fun t => τ (bq * j + t)) ∧ (fs j).oneCell' = true
  apart : Ap (bl fv tv sv fs nf)
  inL : ∀ i k, bl fv tv sv fs nf i = some k → L k ∧ k ≠ b
  lt : ∀ k, L k → k < w.heap.size
/-- But for the stack's cells the search's block is as it was. -/
def Fld (b : Nat) (w w' : World) : Prop := ∀ j u, j < 5 → w.cell? ⟨b, j, none⟩ = some u → w.frozen? ⟨b, j, none⟩ = false → w'.cell? ⟨b, j, none⟩ = some u ∧ w'.frozen? ⟨b, j, none⟩ = false
theorem Fld.kp {b : Nat} {M : Nat → Prop} {w w' : World} (k : Kp M w w') (h : ¬ M b) : Fld b w w' := fun _ _ _ hc hf => ⟨k.cell hc h, k.frozen hc hf h⟩
theorem Fld.trans {b : Nat} {a c d : World} (h : Fld b a c) (k : Fld b c d) : Fld b a d := fun j u hj hc hf => k j u hj (h j u hj hc hf).1 (h j u hj hc hf).2
theorem Fld.set {b : Nat} {w : World} (i : Nat) (hi : 5 ≤ i) (v : Value) : Fld b w (w.setCell ⟨b, i, none⟩ v) := fun j u hj hc hf => ⟨by rw [World.cell?_setCell_other _ _ _ _ (fun e => by have e2 := congrArg Addr.off e; have e3 : i = j := e2; omega)]; exact hc, by rw [World.frozen?_setCell]; exact hf⟩
theorem row_lt {w : World} {S e s n : Nat} {v : Value} {xs : List Value} (h : w.ownsRow S e s v n xs) (k : Nat) (hk : v.ownBlock = some k) : S ≤ k ∧ k < w.heap.size := World.ownsRow.lt h k hk
theorem slice_of {w : World} {S e s n : Nat} {v : Value} {xs : List Value} (h : w.ownsRow S e s v n xs) : ∃ a cc, v = .slice a n cc := by
  rcases h.2 with ⟨e, e2⟩ | ⟨G, C, _, e, _⟩
  · exact ⟨none, 0, by rw [e, e2]⟩
  · exact ⟨_, _, e⟩
section
variable {w w' : World} {S b : Nat} {L : Nat → Prop} {τ : Nat → It} {N nf nt : Nat} {fv tv sv : Value} {fs : Nat → Value}
theorem Stk.kp {M : Nat → Prop} (h : Stk w S b L τ N nf nt fv tv sv fs) (k : Kp M w w') (h1 : ¬ M b) (h2 : ∀ i, L i → ¬ M i) : Stk w' S b L τ N nf nt fv tv sv fs := by
  have hb : ∀ i k, bl fv tv sv fs nf i = some k → ¬ M k := fun i k e => h2 k (h.inL i k e).1
  exact ⟨h.eN, h.hnt, k.cell h.c5 h1, k.cell h.c6 h1, k.cell h.c7 h1, k.frozen h.c5 h.z5 h1, k.frozen h.c6 h.z6 h1, k.frozen h.c7 h.z7 h1,
    k.row h.full (fun i e => hb 0 i e), k.row h.top (fun i e => hb 1 i e), k.row h.spare (fun i e => hb 2 i e),
    fun j hj => ⟨k.row (h.each j hj).1 (fun i e => hb (j + 3) i (by show (if j < nf then _ else _) = _; rw [if_pos hj]; exact e)), (h.each j hj).2⟩, h.apart, h.inL, fun i hi => Nat.lt_of_lt_of_le (h.lt i hi) k.size⟩
theorem Stk.below (h : Stk w S b L τ N nf nt fv tv sv fs) (k : Below w.heap.size w w') : Stk w' S b L τ N nf nt fv tv sv fs := h.kp (Kp.of (M := fun _ => False) k) id (fun _ _ => id)
theorem Stk.blt (h : Stk w S b L τ N nf nt fv tv sv fs) : b < w.heap.size := World.block_lt_of_cell? w _ h.c5
/-- What a call may add to the stack's blocks. -/
def more (L : Nat → Prop) (w w' : World) : Nat → Prop := fun k => L k ∨ (w.heap.size ≤ k ∧ k < w'.heap.size)
/-- A task upon the top. -/
theorem Stk.last (h : Stk w S b L τ N nf nt fv tv sv fs) (hS : S ≤ w.heap.size) (hl : nt < bq) (x : It) :
    ∃ g c w2, (Builtin.append_ #[72, 72] 72 #[tv, .slice (some ⟨w.heap.size, 0, none⟩) 1 1]).run Tryd.prog (w.alloc (iX x)) = .ok (.slice (some ⟨g, 0, none⟩) (nt + 1) c) w2 ∧
      Stk (w2.setCell ⟨b, 6, none⟩ (.slice (some ⟨g, 0, none⟩) (nt + 1) c)) S b (more L w w2) (up τ N x) (N + 1) nf (nt + 1) fv (.slice (some ⟨g, 0, none⟩) (nt + 1) c) sv fs ∧
      Kp (fun k => k = b ∨ L k) w (w2.setCell ⟨b, 6, none⟩ (.slice (some ⟨g, 0, none⟩) (nt + 1) c)) ∧ Fld b w (w2.setCell ⟨b, 6, none⟩ (.slice (some ⟨g, 0, none⟩) (nt + 1) c)) ∧ w2.cell? ⟨b, 6, none⟩ = some tv ∧ w2.frozen? ⟨b, 6, none⟩ = false := by
  obtain ⟨g, c, w2, r, o2, k2, hg⟩ := append_t w S tv nt _ x hS (by have := bq_eq; omega) h.top
  have hbt : ∀ k, tv.ownBlock = some k → L k ∧ k ≠ b := fun k e => h.inL 1 k e
  have nb : ¬ tv.ownBlock = some b := fun e => (hbt b e).2 rfl
  have hgb : g ≠ b := fun e => by
    rcases hg with hg | hg
    · exact nb (by rw [hg, e])
    · have := h.blt; omega
  have hglt := (row_lt o2 g rfl).2
  have q6 := k2.cell h.c6 nb
  have f6 := k2.frozen h.c6 h.z6 nb
  obtain ⟨tw, htw⟩ : ∃ tw, tw = Value.slice (some ⟨g, 0, none⟩) (nt + 1) c := ⟨_, rfl⟩
  have htb : tw.ownBlock = some g := by rw [htw]; rfl
  rw [← htw] at o2 r
  refine ⟨g, c, w2, ?_⟩
  rw [← htw]
  have kk : Kp (· = b) w2 (w2.setCell ⟨b, 6, none⟩ tw) := (Kp.refl (· = b) w2).setCell (p := ⟨b, 6, none⟩) rfl _
  have lt2 : ∀ k, (∃ i, i ≠ 1 ∧ bl fv tv sv fs nf i = some k) → ¬ tv.ownBlock = some k := fun k ⟨i, hi, e⟩ e' => hi (h.apart i 1 k e e')
  have oth : ∀ i k, i ≠ 1 → bl fv tw sv fs nf i = some k → bl fv tv sv fs nf i = some k := fun i k hi e => by
    match i with
    | 0 => exact e
    | 1 => exact absurd rfl hi
    | 2 => exact e
    | j + 3 => exact e
  have row2 : ∀ {e s n : Nat} {v : Value} {xs : List Value}, w.ownsRow S e s v n xs → (∃ i, i ≠ 1 ∧ bl fv tv sv fs nf i = v.ownBlock) → (w2.setCell ⟨b, 6, none⟩ tw).ownsRow S e s v n xs := fun {e s n v xs} o ⟨i, hi, e'⟩ => by
    refine kk.row (k2.row o (fun k ek => lt2 k ⟨i, hi, by rw [e', ek]⟩)) (fun k ek (x : k = b) => ?_)
    exact (h.inL i k (by rw [e', ek])).2 x
  refine ⟨r, ⟨by have := h.eN; omega, by omega, ?_, ?_, ?_, ?_, ?_, ?_, row2 h.full ⟨0, by decide, rfl⟩, ?_, ?_, ?_, ?_, ?_, ?_⟩, ?_, ?_, q6, f6⟩
  · rw [World.cell?_setCell_other _ _ _ _ (by simp)]; exact k2.cell h.c5 nb
  · exact World.cell?_setCell_same' _ _ _ (by rw [q6]; rfl)
  · rw [World.cell?_setCell_other _ _ _ _ (by simp)]; exact k2.cell h.c7 nb
  · rw [World.frozen?_setCell]; exact k2.frozen h.c5 h.z5 nb
  · rw [World.frozen?_setCell]; exact f6
  · rw [World.frozen?_setCell]; exact k2.frozen h.c7 h.z7 nb
  · refine Tr.congr (kk.row o2 (fun k e (x : k = b) => ?_)) (fun j hj => ?_)
    · rw [htb] at e; cases e; exact hgb x
    · have := h.eN
      unfold up
      by_cases e : j = nt
      · rw [if_pos e, if_pos (by omega)]
      · rw [if_neg e, if_neg (by omega)]
  · exact (row2 h.spare ⟨2, by decide, rfl⟩ : Tr _ S sv 0 _)
  · intro j hj
    refine ⟨Tr.congr (row2 (h.each j hj).1 ⟨j + 3, by omega, by show (if j < nf then _ else _) = _; rw [if_pos hj]⟩) (fun t ht => ?_), (h.each j hj).2⟩
    have := h.eN
    unfold up
    rw [if_neg (by have := bq_mul j nf hj; omega)]
  · intro i j k hi hj
    have fresh : ∀ i, i ≠ 1 → ¬ bl fv tw sv fs nf i = some g := fun i hi e => by
      have e1 := oth i g hi e
      rcases hg with hg | hg
      · exact hi (h.apart i 1 g e1 hg)
      · have := h.lt g (h.inL i g e1).1; omega
    by_cases h1 : i = 1
    · by_cases h2 : j = 1
      · omega
      · subst h1
        have : k = g := by have e : tw.ownBlock = some k := hi; rw [htb] at e; exact (Option.some.inj e).symm
        subst this
        exact absurd hj (fresh j h2)
    · by_cases h2 : j = 1
      · subst h2
        have : k = g := by have e : tw.ownBlock = some k := hj; rw [htb] at e; exact (Option.some.inj e).symm
        subst this
        exact absurd hi (fresh i h1)
      · exact h.apart i j k (oth i k h1 hi) (oth j k h2 hj)
  · intro i k e
    by_cases h1 : i = 1
    · subst h1
      have : k = g := by have e : tw.ownBlock = some k := e; rw [htb] at e; exact (Option.some.inj e).symm
      subst this
      refine ⟨?_, hgb⟩
      rcases hg with hg | hg
      · exact .inl (hbt k hg).1
      · exact .inr ⟨hg, hglt⟩
    · have e1 := h.inL i k (oth i k h1 e)
      exact ⟨.inl e1.1, e1.2⟩
  · intro k hk
    show k < (w2.setCell _ _).heap.size
    have e : (w2.setCell ⟨b, 6, none⟩ tw).heap.size = w2.heap.size := by simp [World.setCell]
    rw [e]
    rcases hk with hk | hk
    · exact Nat.lt_of_lt_of_le (h.lt k hk) k2.size
    · exact hk.2
  · exact (k2.mono (fun i _ e => .inr (hbt i e).1)).setCell (p := ⟨b, 6, none⟩) (.inl rfl) _
  · exact (Fld.kp k2 nb).trans (Fld.set 6 (by decide) _)
end
end Go.Proofs.YtnpgkiidpeaapaaDoor
