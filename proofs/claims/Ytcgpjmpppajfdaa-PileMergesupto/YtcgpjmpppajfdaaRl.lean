/- Sorted lists of ranked things. -/
import Derived.Test.YtcgpjmpppajfdaaMa
namespace Go.Proofs.Ytcgpjmpppajfdaa

section
variable {K : It → Int}
/-- The least first. -/
def Srt (K : It → Int) (R : List Rk) : Prop := R.Pairwise (fun x y => ¬ Lx K y x)
/-- R is B in order. -/
def St (K : It → Int) (B R : List Rk) : Prop := R.Perm B ∧ Srt K R
/-- No two ranks are one. -/
def Dst (B : List Rk) : Prop := B.Pairwise (fun x y => x.2 ≠ y.2)
theorem Dst.perm {B R : List Rk} (h : Dst B) (p : R.Perm B) : Dst R := List.Pairwise.perm h p.symm (fun hxy => Ne.symm hxy)
theorem Dst.eq {B : List Rk} (h : Dst B) {x y : Rk} (hx : x ∈ B) (hy : y ∈ B) (e : x.2 = y.2) : x = y := by
  induction B with
  | nil => cases hx
  | cons z B ih =>
    have h' := List.pairwise_cons.1 h
    rcases List.mem_cons.1 hx with e1 | hx'
    · rcases List.mem_cons.1 hy with e2 | hy'
      · rw [e1, e2]
      · exact absurd e (by rw [e1]; exact h'.1 y hy')
    · rcases List.mem_cons.1 hy with e2 | hy'
      · exact absurd e.symm (by rw [e2]; exact h'.1 x hx')
      · exact ih h'.2 hx' hy'
theorem St.uniq : ∀ {R B R' : List Rk}, St K B R → St K B R' → Dst B → R = R'
  | [], B, R', h, h', _ => by
    have : R'.Perm [] := h'.1.trans h.1.symm
    exact this.eq_nil.symm
  | x :: R, B, R', h, h', hd => by
    have hp : R'.Perm (x :: R) := h'.1.trans h.1.symm
    cases R' with
    | nil => exact absurd hp.symm.eq_nil (by simp)
    | cons y R' =>
      have s1 := List.pairwise_cons.1 h.2
      have s2 := List.pairwise_cons.1 h'.2
      have hy : y ∈ x :: R := hp.subset (List.mem_cons_self ..)
      have hx : x ∈ y :: R' := hp.symm.subset (List.mem_cons_self ..)
      have e : x = y := by
        rcases List.mem_cons.1 hy with e | hy'
        · exact e.symm
        · rcases List.mem_cons.1 hx with e | hx'
          · exact e
          · have h1 := s1.1 y hy'
            have h2 := s2.1 x hx'
            exact (hd.perm h.1).eq (List.mem_cons_self ..) (List.mem_cons_of_mem _ hy') (Lx.eq h2 h1).2
      subst e
      have hp' := hp.cons_inv
      have hd' : Dst R := (List.pairwise_cons.1 (hd.perm h.1)).2
      rw [St.uniq (B := R) ⟨List.Perm.refl _, s1.2⟩ ⟨hp', s2.2⟩ hd']
/-- What comes out, with its ranks. -/
def outR (A : Rk → Rk → Bool) : Nat → (Nat → Rk) → List Rk
  | 0, _ => []
  | p + 1, f => f 0 :: outR A p (sinkF A p (up f 0 (f p)) 0)
theorem outR_map (A : Rk → Rk → Bool) : ∀ (p : Nat) (f : Nat → Rk), (outR A p f).map (·.1) = outL A p f
  | 0, _ => rfl
  | p + 1, f => by rw [outR, outL, List.map_cons, outR_map A p]
theorem outR_st {A : Rk → Rk → Bool} (hA : Is K A) : ∀ (p : Nat) (f : Nat → Rk), HI K p f → St K (el f p) (outR A p f)
  | 0, _, _ => ⟨List.Perm.refl _, List.Pairwise.nil⟩
  | p + 1, f, h => by
    have ih := outR_st hA p _ (pop_ok hA h)
    have hp := (List.Perm.cons (f 0) ih.1).trans (el_pop A f p)
    refine ⟨hp, List.pairwise_cons.2 ⟨fun y hy => ?_, ih.2⟩⟩
    have hm : y ∈ el f (p + 1) := hp.subset (List.mem_cons_of_mem _ hy)
    obtain ⟨i, hi, rfl⟩ := List.mem_map.1 hm
    exact h.root i (List.mem_range.1 hi)

/-- Ranks that rise. -/
def Up (B : List Rk) : Prop := B.Pairwise (fun x y => x.2 < y.2)
theorem Up.dst {B : List Rk} (h : Up B) : Dst B := h.imp (fun h => by omega)

/-- A book: a list of things and their ranks; the pile holds just these. -/
structure Bk (K : It → Int) (B : List Rk) (n : Nat) (f : Nat → Rk) (m : Nat) : Prop where
  perm : (el f n).Perm B
  heap : HI K n f
  up : Up B
  lt : ∀ x ∈ B, x.2 < (m : Int)
theorem Bk.nil (f : Nat → Rk) (m : Nat) : Bk K [] 0 f m := ⟨List.Perm.refl _, fun k _ h => by omega, List.Pairwise.nil, fun x hx => by cases hx⟩
theorem Bk.len {B : List Rk} {n m : Nat} {f : Nat → Rk} (h : Bk K B n f m) : B.length = n := by
  rw [← h.perm.length_eq, el_len]
theorem Bk.push {A : Rk → Rk → Bool} (hA : Is K A) {B : List Rk} {n m : Nat} {f : Nat → Rk} (h : Bk K B n f m) (x : It) : Bk K (B ++ [(x, (m : Int))]) (n + 1) (riseF A (Ytcgpjmpppajfdaa.up f n (x, (m : Int))) n) (m + 1) := by
  refine ⟨(el_push A f n _).trans (h.perm.append_right _), push_ok hA h.heap _, ?_, ?_⟩
  · refine List.pairwise_append.2 ⟨h.up, List.pairwise_singleton _ _, fun a ha b hb => ?_⟩
    rw [List.mem_singleton] at hb
    subst hb
    exact h.lt a ha
  · intro y hy
    rcases List.mem_append.1 hy with hy | hy
    · have := h.lt y hy
      omega
    · rw [List.mem_singleton] at hy
      subst hy
      show (m : Int) < _
      omega
/-- The place of the first. -/
def Fst (K : It → Int) (l : List It) (b : Nat) : Prop := b < l.length ∧ (∀ (j : Nat) (x : It), l[j]? = some x → ¬ K x < K (lk l b)) ∧ ∀ j, j < b → K (lk l b) < K (lk l j)
theorem Bk.pop {A : Rk → Rk → Bool} (hA : Is K A) {B : List Rk} {p m b : Nat} {f : Nat → Rk} (h : Bk K B (p + 1) f m) (hb : Fst K (B.map (·.1)) b) :
    (f 0).1 = lk (B.map (·.1)) b ∧ Bk K (B.eraseIdx b) p (sinkF A p (Ytcgpjmpppajfdaa.up f 0 (f p)) 0) m := by
  have hlen := h.len
  have hbl : b < B.length := by have := hb.1; simpa using this
  have hf0 : f 0 ∈ B := h.perm.subset (el_mem (by omega))
  have hmin : ∀ y ∈ B, ¬ Lx K y (f 0) := fun y hy => by
    obtain ⟨i, hi, rfl⟩ := List.mem_map.1 (h.perm.symm.subset hy)
    exact h.heap.root i (List.mem_range.1 hi)
  have hkb : lk (B.map (·.1)) b = B[b].1 := by simp [lk, List.getD, hbl]
  have e : f 0 = B[b] := by
    obtain ⟨j, hj, hje⟩ := List.mem_iff_getElem.1 hf0
    have n1 := hmin B[b] (List.getElem_mem hbl)
    have hk1 : ¬ K (f 0).1 < K B[b].1 := by
      have := hb.2.1 j B[j].1 (by simp [hj])
      rw [hkb, hje] at this
      exact this
    have hkk : K (f 0).1 = K B[b].1 := by unfold Lx at n1; omega
    by_cases hjb : j = b
    · subst hjb; exact hje.symm
    · exfalso
      by_cases hlt : j < b
      · have := hb.2.2 j hlt
        rw [hkb] at this
        have e2 : lk (B.map (·.1)) j = B[j].1 := by simp [lk, List.getD, hj]
        rw [e2, hje] at this
        omega
      · have hlt : b < j := by omega
        have := List.pairwise_iff_getElem.1 h.up b j hbl hj hlt
        rw [hje] at this
        unfold Lx at n1
        omega
  refine ⟨by rw [hkb, e], ?_, pop_ok hA h.heap, h.up.sublist (List.eraseIdx_sublist ..), fun y hy => h.lt y (List.mem_of_mem_eraseIdx hy)⟩
  have hp := (el_pop A f p).trans h.perm
  rw [e] at hp
  have hp2 : B.Perm (B[b] :: B.eraseIdx b) := by
    have h1 : B = B.take b ++ B[b] :: B.drop (b + 1) := by
      rw [List.getElem_cons_drop, List.take_append_drop]
    have h2 : B.eraseIdx b = B.take b ++ B.drop (b + 1) := List.eraseIdx_eq_take_drop_succ ..
    rw [h2]
    conv => lhs; rw [h1]
    exact List.perm_middle
  exact (hp.trans hp2).cons_inv
end
end Go.Proofs.Ytcgpjmpppajfdaa
