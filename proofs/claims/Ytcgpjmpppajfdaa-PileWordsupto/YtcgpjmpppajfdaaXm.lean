
/- Sorted lists of ranked strings. -/
import Derived.Test.YtcgpjmpppajfdaaWo
namespace Go.Proofs.Ytcgpjmpppajfdaa.Ws
open Go.RowKit

theorem outL_perm (A : Wk → Wk → Bool) : ∀ (p : Nat) (f : Nat → Wk), (outL A p f).Perm ((el f p).map (·.1))
  | 0, _ => List.Perm.refl _
  | p + 1, f => by
    rw [outL]
    have h1 := outL_perm A p (sinkF A p (up f 0 (f p)) 0)
    have h2 := (el_pop A f p).map (·.1)
    rw [List.map_cons] at h2
    exact (List.Perm.cons _ h1).trans h2
/-- A list of things as a list. -/
def il (xs : Nat → ByteArray) (n : Nat) : List ByteArray := (List.range n).map xs
theorem il_succ (xs : Nat → ByteArray) (n : Nat) : il xs (n + 1) = il xs n ++ [xs n] := by
  unfold il
  rw [List.range_succ, List.map_append]
  rfl
theorem il_lk (l : List ByteArray) : il (lk l) l.length = l := by
  apply List.ext_getElem
  · simp [il]
  · intro j h1 h2
    simp [il, lk, List.getD, h2]
theorem inF_perm (A : Wk → Wk → Bool) (f0 : Nat → Wk) (xs : Nat → ByteArray) : ∀ n, ((el (inF A f0 xs n) n).map (·.1)).Perm (il xs n)
  | 0 => List.Perm.refl _
  | n + 1 => by
    have h := (el_push A (inF A f0 xs n) n (xs n, (n : Int))).map (·.1)
    rw [il_succ]
    refine h.trans ?_
    rw [List.map_append]
    exact (inF_perm A f0 xs n).append_right _
theorem out_all (A : Wk → Wk → Bool) (f0 : Nat → Wk) (xs : Nat → ByteArray) (n : Nat) : (outL A n (inF A f0 xs n)).Perm (il xs n) := (outL_perm A n _).trans (inF_perm A f0 xs n)

section
variable {K : ByteArray → Int}
/-- The least first. -/
def Srt (K : ByteArray → Int) (R : List Wk) : Prop := R.Pairwise (fun x y => ¬ Lx K y x)
/-- R is B in order. -/
def St (K : ByteArray → Int) (B R : List Wk) : Prop := R.Perm B ∧ Srt K R
/-- No two ranks are one. -/
def Dst (B : List Wk) : Prop := B.Pairwise (fun x y => x.2 ≠ y.2)
theorem Dst.perm {B R : List Wk} (h : Dst B) (p : R.Perm B) : Dst R := List.Pairwise.perm h p.symm (fun hxy => Ne.symm hxy)
theorem Dst.eq {B : List Wk} (h : Dst B) {x y : Wk} (hx : x ∈ B) (hy : y ∈ B) (e : x.2 = y.2) : x = y := by
  induction B with
  | nil => cases hx
  | cons z B ih =>
    have h' := List.pairwise_cons.1 h
    rcases List.mem_cons.1 hx with e1 | hx'
    · rcases List.mem_cons.1 hy with e2 | hy'
      · rw [e1, e2]
      · exact absurd e (by rw [e1]; exact h'.1 y hy')
    · rcases List.mem_cons.1 hy with e2 | hy'
      · exact absurd e.symm (by rw [e2]; exact h'.1 x hx')
      · exact ih h'.2 hx' hy'
theorem St.uniq : ∀ {R B R' : List Wk}, St K B R → St K B R' → Dst B → R = R'
  | [], B, R', h, h', _ => by
    have : R'.Perm [] := h'.1.trans h.1.symm
    exact this.eq_nil.symm
  | x :: R, B, R', h, h', hd => by
    have hp : R'.Perm (x :: R) := h'.1.trans h.1.symm
    cases R' with
    | nil => exact absurd hp.symm.eq_nil (by simp)
    | cons y R' =>
      have s1 := List.pairwise_cons.1 h.2
      have s2 := List.pairwise_cons.1 h'.2
      have hy : y ∈ x :: R := hp.subset (List.mem_cons_self ..)
      have hx : x ∈ y :: R' := hp.symm.subset (List.mem_cons_self ..)
      have e : x = y := by
        rcases List.mem_cons.1 hy with e | hy'
        · exact e.symm
        · rcases List.mem_cons.1 hx with e | hx'
          · exact e
          · have h1 := s1.1 y hy'
            have h2 := s2.1 x hx'
            exact (hd.perm h.1).eq (List.mem_cons_self ..) (List.mem_cons_of_mem _ hy') (Lx.eq h2 h1).2
      subst e
      have hp' := hp.cons_inv
      have hd' : Dst R := (List.pairwise_cons.1 (hd.perm h.1)).2
      rw [St.uniq (B := R) ⟨List.Perm.refl _, s1.2⟩ ⟨hp', s2.2⟩ hd']
/-- What comes out, with its ranks. -/
def outR (A : Wk → Wk → Bool) : Nat → (Nat → Wk) → List Wk
  | 0, _ => []
  | p + 1, f => f 0 :: outR A p (sinkF A p (up f 0 (f p)) 0)
theorem outR_map (A : Wk → Wk → Bool) : ∀ (p : Nat) (f : Nat → Wk), (outR A p f).map (·.1) = outL A p f
  | 0, _ => rfl
  | p + 1, f => by rw [outR, outL, List.map_cons, outR_map A p]
theorem outR_st {A : Wk → Wk → Bool} (hA : Is K A) : ∀ (p : Nat) (f : Nat → Wk), HI K p f → St K (el f p) (outR A p f)
  | 0, _, _ => ⟨List.Perm.refl _, List.Pairwise.nil⟩
  | p + 1, f, h => by
    have ih := outR_st hA p _ (pop_ok hA h)
    have hp := (List.Perm.cons (f 0) ih.1).trans (el_pop A f p)
    refine ⟨hp, List.pairwise_cons.2 ⟨fun y hy => ?_, ih.2⟩⟩
    have hm : y ∈ el f (p + 1) := hp.subset (List.mem_cons_of_mem _ hy)
    obtain ⟨i, hi, rfl⟩ := List.mem_map.1 hm
    exact h.root i (List.mem_range.1 hi)

/-- Ranks that rise. -/
def Up (B : List Wk) : Prop := B.Pairwise (fun x y => x.2 < y.2)
theorem Up.dst {B : List Wk} (h : Up B) : Dst B := h.imp (fun h => by omega)

/-- A book: a list of things and their ranks; the pile holds just these. -/
structure Bk (K : ByteArray → Int) (B : List Wk) (n : Nat) (f : Nat → Wk) (m : Nat) : Prop where
  perm : (el f n).Perm B
  heap : HI K n f
  up : Up B
  lt : ∀ x ∈ B, x.2 < (m : Int)
theorem Bk.nil (f : Nat → Wk) (m : Nat) : Bk K [] 0 f m := ⟨List.Perm.refl _, fun k _ h => by omega, List.Pairwise.nil, fun x hx => by cases hx⟩
theorem Bk.len {B : List Wk} {n m : Nat} {f : Nat → Wk} (h : Bk K B n f m) : B.length = n := by
  rw [← h.perm.length_eq, el_len]
theorem Bk.push {A : Wk → Wk → Bool} (hA : Is K A) {B : List Wk} {n m : Nat} {f : Nat → Wk} (h : Bk K B n f m) (x : ByteArray) : Bk K (B ++ [(x, (m : Int))]) (n + 1) (riseF A (Ytcgpjmpppajfdaa.up f n (x, (m : Int))) n) (m + 1) := by
  refine ⟨(el_push A f n _).trans (h.perm.append_right _), push_ok hA h.heap _, ?_, ?_⟩
  · refine List.pairwise_append.2 ⟨h.up, List.pairwise_singleton _ _, fun a ha b hb => ?_⟩
    rw [List.mem_singleton] at hb
    subst hb
    exact h.lt a ha
  · intro y hy
    rcases List.mem_append.1 hy with hy | hy
    · have := h.lt y hy
      omega
    · rw [List.mem_singleton] at hy
      subst hy
      show (m : Int) < _
      omega
/-- The place of the first. -/
def Fst (K : ByteArray → Int) (l : List ByteArray) (b : Nat) : Prop := b < l.length ∧ (∀ (j : Nat) (x : ByteArray), l[j]? = some x → ¬ K x < K (lk l b)) ∧ ∀ j, j < b → K (lk l b) < K (lk l j)
theorem Bk.pop {A : Wk → Wk → Bool} (hA : Is K A) {B : List Wk} {p m b : Nat} {f : Nat → Wk} (h : Bk K B (p + 1) f m) (hb : Fst K (B.map (·.1)) b) :
    (f 0).1 = lk (B.map (·.1)) b ∧ Bk K (B.eraseIdx b) p (sinkF A p (Ytcgpjmpppajfdaa.up f 0 (f p)) 0) m := by
  have hlen := h.len
  have hbl : b < B.length := by have := hb.1; simpa using this
  have hf0 : f 0 ∈ B := h.perm.subset (el_mem (by omega))
  have hmin : ∀ y ∈ B, ¬ Lx K y (f 0) := fun y hy => by
    obtain ⟨i, hi, rfl⟩ := List.mem_map.1 (h.perm.symm.subset hy)
    exact h.heap.root i (List.mem_range.1 hi)
  have hkb : lk (B.map (·.1)) b = B[b].1 := by simp [lk, List.getD, hbl]
  have e : f 0 = B[b] := by
    obtain ⟨j, hj, hje⟩ := List.mem_iff_getElem.1 hf0
    have n1 := hmin B[b] (List.getElem_mem hbl)
    have hk1 : ¬ K (f 0).1 < K B[b].1 := by
      have := hb.2.1 j B[j].1 (by simp [hj])
      rw [hkb, hje] at this
      exact this
    have hkk : K (f 0).1 = K B[b].1 := by unfold Lx at n1; omega
    by_cases hjb : j = b
    · subst hjb; exact hje.symm
    · exfalso
      by_cases hlt : j < b
      · have := hb.2.2 j hlt
        rw [hkb] at this
        have e2 : lk (B.map (·.1)) j = B[j].1 := by simp [lk, List.getD, hj]
        rw [e2, hje] at this
        omega
      · have hlt : b < j := by omega
        have := List.pairwise_iff_getElem.1 h.up b j hbl hj hlt
        rw [hje] at this
        unfold Lx at n1
        omega
  refine ⟨by rw [hkb, e], ?_, pop_ok hA h.heap, h.up.sublist (List.eraseIdx_sublist ..), fun y hy => h.lt y (List.mem_of_mem_eraseIdx hy)⟩
  have hp := (el_pop A f p).trans h.perm
  rw [e] at hp
  have hp2 : B.Perm (B[b] :: B.eraseIdx b) := by
    have h1 : B = B.take b ++ B[b] :: B.drop (b + 1) := by
      rw [List.getElem_cons_drop, List.take_append_drop]
    have h2 : B.eraseIdx b = B.take b ++ B.drop (b + 1) := List.eraseIdx_eq_take_drop_succ ..
    rw [h2]
    conv => lhs; rw [h1]
    exact List.perm_middle
  exact (hp.trans hp2).cons_inv
end
/-- Two lists merged so far. -/
def MI (K : ByteArray → Int) (y1 y2 : List ByteArray) (i j : Nat) (l : List ByteArray) : Prop := ∀ R1 R2 : List Wk, R1.map (·.1) = y1 → R2.map (·.1) = y2 → Srt K R1 → Srt K R2 → (∀ x ∈ R1, ∀ y ∈ R2, x.2 < y.2) →
  ∃ P : List Wk, P.map (·.1) = l ∧ P.Perm (R1.take i ++ R2.take j) ∧ Srt K P ∧ ∀ x ∈ P, ∀ y ∈ R1.drop i ++ R2.drop j, ¬ Lx K y x
section
variable {K : ByteArray → Int} {y1 y2 l : List ByteArray} {i j : Nat}
theorem MI.nil (K : ByteArray → Int) (y1 y2 : List ByteArray) : MI K y1 y2 0 0 [] := fun _ _ _ _ _ _ _ => ⟨[], rfl, List.Perm.refl _, List.Pairwise.nil, fun x hx => by cases hx⟩
theorem srt_drop {R : List Wk} (h : Srt K R) (i : Nat) (hi : i < R.length) : ∀ y ∈ R.drop i, ¬ Lx K y R[i] := by
  intro y hy
  rw [List.drop_eq_getElem_cons hi] at hy
  rcases List.mem_cons.1 hy with rfl | hy
  · exact fun x => x.asym x
  · have h2 : Srt K (R.drop i) := h.sublist (List.drop_sublist i R)
    rw [List.drop_eq_getElem_cons hi] at h2
    exact (List.pairwise_cons.1 h2).1 y hy
theorem lk_map {R : List Wk} {y : List ByteArray} (h : R.map (·.1) = y) (i : Nat) (hi : i < R.length) : lk y i = R[i].1 := by
  rw [← h]; simp [lk, List.getD, hi]
theorem MI.left (h : MI K y1 y2 i j l) (hi : i < y1.length) (hc : j = y2.length ∨ ¬ K (lk y2 j) < K (lk y1 i)) (hj : j ≤ y2.length) : MI K y1 y2 (i + 1) j (l ++ [lk y1 i]) := by
  intro R1 R2 e1 e2 s1 s2 hr
  obtain ⟨P, ep, pp, sp, hp⟩ := h R1 R2 e1 e2 s1 s2 hr
  have l1 : R1.length = y1.length := by rw [← e1]; simp
  have l2 : R2.length = y2.length := by rw [← e2]; simp
  have hi' : i < R1.length := by omega
  have k1 := lk_map e1 i hi'
  have mem1 : R1[i] ∈ R1.drop i := by rw [List.drop_eq_getElem_cons hi']; exact List.mem_cons_self ..
  have hmin : ∀ y ∈ R1.drop i ++ R2.drop j, ¬ Lx K y R1[i] := by
    intro y hy
    rcases List.mem_append.1 hy with hy | hy
    · exact srt_drop s1 i hi' y hy
    · rcases hc with hc | hc
      · rw [List.drop_eq_nil_of_le (by omega)] at hy
        cases hy
      · by_cases hj' : j < R2.length
        · refine Lx.neg (srt_drop s2 j hj' y hy) ?_
          rw [lk_map e2 j hj', k1] at hc
          have := hr R1[i] (List.getElem_mem hi') R2[j] (List.getElem_mem hj')
          unfold Lx
          omega
        · rw [List.drop_eq_nil_of_le (by omega)] at hy
          cases hy
  refine ⟨P ++ [R1[i]], by rw [List.map_append, ep, k1]; rfl, ?_, ?_, ?_⟩
  · rw [List.take_succ_eq_append_getElem hi']
    refine (pp.append_right _).trans ?_
    rw [List.append_assoc, List.append_assoc]
    exact List.Perm.append_left _ List.perm_append_comm
  · refine List.pairwise_append.2 ⟨sp, List.pairwise_singleton _ _, fun x hx y hy => ?_⟩
    rw [List.mem_singleton] at hy
    subst hy
    exact hp x hx _ (List.mem_append_left _ mem1)
  · intro x hx y hy
    have hy' : y ∈ R1.drop i ++ R2.drop j := by
      rcases List.mem_append.1 hy with hy | hy
      · exact List.mem_append_left _ (by rw [List.drop_eq_getElem_cons hi']; exact List.mem_cons_of_mem _ hy)
      · exact List.mem_append_right _ hy
    rcases List.mem_append.1 hx with hx | hx
    · exact hp x hx y hy'
    · rw [List.mem_singleton] at hx
      subst hx
      exact hmin y hy'
theorem MI.right (h : MI K y1 y2 i j l) (hj : j < y2.length) (hc : i = y1.length ∨ K (lk y2 j) < K (lk y1 i)) (hi : i ≤ y1.length) : MI K y1 y2 i (j + 1) (l ++ [lk y2 j]) := by
  intro R1 R2 e1 e2 s1 s2 hr
  obtain ⟨P, ep, pp, sp, hp⟩ := h R1 R2 e1 e2 s1 s2 hr
  have l1 : R1.length = y1.length := by rw [← e1]; simp
  have l2 : R2.length = y2.length := by rw [← e2]; simp
  have hj' : j < R2.length := by omega
  have k2 := lk_map e2 j hj'
  have mem2 : R2[j] ∈ R2.drop j := by rw [List.drop_eq_getElem_cons hj']; exact List.mem_cons_self ..
  have hmin : ∀ y ∈ R1.drop i ++ R2.drop j, ¬ Lx K y R2[j] := by
    intro y hy
    rcases List.mem_append.1 hy with hy | hy
    · rcases hc with hc | hc
      · rw [List.drop_eq_nil_of_le (by omega)] at hy
        cases hy
      · by_cases hi' : i < R1.length
        · refine Lx.neg (srt_drop s1 i hi' y hy) ?_
          rw [lk_map e1 i hi', k2] at hc
          unfold Lx
          omega
        · rw [List.drop_eq_nil_of_le (by omega)] at hy
          cases hy
    · exact srt_drop s2 j hj' y hy
  refine ⟨P ++ [R2[j]], by rw [List.map_append, ep, k2]; rfl, ?_, ?_, ?_⟩
  · rw [List.take_succ_eq_append_getElem hj', ← List.append_assoc]
    exact pp.append_right _
  · refine List.pairwise_append.2 ⟨sp, List.pairwise_singleton _ _, fun x hx y hy => ?_⟩
    rw [List.mem_singleton] at hy
    subst hy
    exact hp x hx _ (List.mem_append_right _ mem2)
  · intro x hx y hy
    have hy' : y ∈ R1.drop i ++ R2.drop j := by
      rcases List.mem_append.1 hy with hy | hy
      · exact List.mem_append_left _ hy
      · exact List.mem_append_right _ (by rw [List.drop_eq_getElem_cons hj']; exact List.mem_cons_of_mem _ hy)
    rcases List.mem_append.1 hx with hx | hx
    · exact hp x hx y hy'
    · rw [List.mem_singleton] at hx
      subst hx
      exact hmin y hy'
end
theorem lk_drop (ys : List ByteArray) (i : Nat) (x : ByteArray) (r : List ByteArray) (h : ys.drop i = x :: r) : lk ys i = x ∧ ys.drop (i + 1) = r ∧ i < ys.length := by
  have hi : i < ys.length := by
    rcases Nat.lt_or_ge i ys.length with h1 | h1
    · exact h1
    · rw [List.drop_eq_nil_of_le h1] at h; cases h
  rw [List.drop_eq_getElem_cons hi] at h
  injection h with h1 h2
  exact ⟨by simp [lk, List.getD, hi, h1], h2, hi⟩

end Go.Proofs.Ytcgpjmpppajfdaa.Ws
/- Heaps under the turned order; the first k of a list. -/
namespace Go.Proofs.Ytcgpjmpppajfdaa.Ws.Rv

/-- Ahead, by a key and then the rank. -/
def Lx (K : ByteArray → Int) (x y : Wk) : Prop := K y.1 < K x.1 ∨ (K y.1 = K x.1 ∧ y.2 < x.2)
/-- A answers as that order does. -/
def Is (K : ByteArray → Int) (A : Wk → Wk → Bool) : Prop := ∀ x y, A x y = true ↔ Lx K x y
section
variable {K : ByteArray → Int}
theorem Lx.asym {x y : Wk} (h : Lx K x y) : ¬ Lx K y x := by unfold Lx at *; omega
theorem Lx.trans {x y z : Wk} (h : Lx K x y) (k : Lx K y z) : Lx K x z := by unfold Lx at *; omega
theorem Lx.neg {x y z : Wk} (h : ¬ Lx K x y) (k : ¬ Lx K y z) : ¬ Lx K x z := by unfold Lx at *; omega
theorem Lx.eq {x y : Wk} (h : ¬ Lx K x y) (k : ¬ Lx K y x) : K x.1 = K y.1 ∧ x.2 = y.2 := by unfold Lx at *; omega
theorem Is.no {A : Wk → Wk → Bool} (h : Is K A) (x y : Wk) : A x y = false ↔ ¬ Lx K x y := by
  rw [← h x y]; simp
/-- A heap. -/
def HI (K : ByteArray → Int) (n : Nat) (f : Nat → Wk) : Prop := ∀ k, 0 < k → k < n → ¬ Lx K (f k) (f ((k - 1) / 2))
theorem HI.root {n : Nat} {f : Nat → Wk} (h : HI K n f) : ∀ i, i < n → ¬ Lx K (f i) (f 0) := by
  intro i
  induction i using Nat.strongRecOn with
  | ind i ih =>
    intro hi
    by_cases h0 : i = 0
    · subst h0
      intro x
      exact x.asym x
    · exact Lx.neg (h i (by omega) hi) (ih ((i - 1) / 2) (by omega) (by omega))

theorem rise_ok {A : Wk → Wk → Bool} (hA : Is K A) (n : Nat) : ∀ (i : Nat) (f : Nat → Wk), i < n → (∀ k, 0 < k → k < n → k ≠ i → ¬ Lx K (f k) (f ((k - 1) / 2))) → (0 < i → ∀ k, 0 < k → k < n → (k - 1) / 2 = i → ¬ Lx K (f k) (f ((i - 1) / 2))) → HI K n (riseF A f i) := by
  intro i
  induction i using Nat.strongRecOn with
  | ind i ih =>
    intro f hi h1 h2
    by_cases h0 : 0 < i
    · obtain ⟨p, hp⟩ : ∃ p, p = (i - 1) / 2 := ⟨_, rfl⟩
      have hpi : p < i := by omega
      cases ha : A (f i) (f ((i - 1) / 2)) with
      | false =>
        rw [riseF_no A f i ha]
        intro k hk hkn
        by_cases hki : k = i
        · subst hki; exact (hA.no _ _).1 ha
        · exact h1 k hk hkn hki
      | true =>
        rw [riseF_yes A f i h0 ha]
        have hL := (hA _ _).1 ha
        rw [← hp] at hL ⊢
        refine ih p hpi _ (by omega) ?_ ?_
        · intro k hk hkn hkp
          by_cases hki : k = i
          · subst hki
            rw [← hp, swp_l f k p (by omega), swp_r]
            exact hL.asym
          · rw [swp_o f i p k hki hkp]
            by_cases e1 : (k - 1) / 2 = i
            · rw [e1, swp_l f i p (by omega)]
              have := h2 h0 k hk hkn e1
              rw [← hp] at this
              exact this
            · by_cases e2 : (k - 1) / 2 = p
              · rw [e2, swp_r]
                intro x
                have := h1 k hk hkn hki
                rw [e2] at this
                exact this (x.trans hL)
              · rw [swp_o f i p _ e1 e2]
                exact h1 k hk hkn hki
        · intro hp0 k hk hkn hkp
          rw [swp_o f i p ((p - 1) / 2) (by omega) (by omega)]
          have hpp := h1 p hp0 (by omega) (by omega)
          by_cases hki : k = i
          · subst hki
            rw [swp_l f k p (by omega)]
            exact hpp
          · rw [swp_o f i p k hki (by omega)]
            have := h1 k hk hkn hki
            rw [hkp] at this
            exact Lx.neg this hpp
    · obtain rfl : i = 0 := by omega
      rw [riseF_zero]
      intro k hk hkn
      exact h1 k hk hkn (by omega)
theorem push_ok {A : Wk → Wk → Bool} (hA : Is K A) {n : Nat} {f : Nat → Wk} (h : HI K n f) (x : Wk) : HI K (n + 1) (riseF A (up f n x) n) := by
  refine rise_ok hA (n + 1) n _ (by omega) (fun k hk hkn hki => ?_) (fun _ k hk hkn e => by omega)
  rw [up_other _ _ _ _ hki, up_other _ _ _ _ (by omega)]
  exact h k hk (by omega)
theorem undr_min {A : Wk → Wk → Bool} (hA : Is K A) (n : Nat) (f : Nat → Wk) (i k : Nat) (hk : 0 < k) (hkn : k < n) (e : (k - 1) / 2 = i) : 0 < undr A n f i ∧ (undr A n f i - 1) / 2 = i ∧ ¬ Lx K (f k) (f (undr A n f i)) := by
  unfold undr
  rw [if_neg (by omega)]
  have hc : k = 2 * i + 1 ∨ k = 2 * i + 2 := by omega
  split
  · rename_i h
    refine ⟨by omega, by omega, ?_⟩
    rcases hc with rfl | rfl
    · exact ((hA _ _).1 h.2).asym
    · exact fun x => x.asym x
  · rename_i h
    refine ⟨by omega, by omega, ?_⟩
    rcases hc with rfl | rfl
    · exact fun x => x.asym x
    · intro x
      exact h ⟨hkn, (hA _ _).2 x⟩
theorem sink_ok {A : Wk → Wk → Bool} (hA : Is K A) (n : Nat) : ∀ (m i : Nat) (f : Nat → Wk), n - i = m → (∀ k, 0 < k → k < n → (k - 1) / 2 ≠ i → ¬ Lx K (f k) (f ((k - 1) / 2))) → (0 < i → ∀ k, 0 < k → k < n → (k - 1) / 2 = i → ¬ Lx K (f k) (f ((i - 1) / 2))) → HI K n (sinkF A n f i) := by
  intro m
  induction m using Nat.strongRecOn with
  | ind m ih =>
    intro i f hm h1 h2
    have hc := undr_cases A n f i
    by_cases h0 : undr A n f i = 0
    · rw [sinkF_none A n f i h0]
      intro k hk hkn
      by_cases e : (k - 1) / 2 = i
      · have := (undr_min hA n f i k hk hkn e).1
        omega
      · exact h1 k hk hkn e
    · have hmin := fun k hk hkn e => undr_min hA n f i k hk hkn e
      have huu : (undr A n f i - 1) / 2 = i := by
        unfold undr at hc h0 ⊢
        split at h0
        · omega
        · rename_i hx
          rw [if_neg hx]
          split <;> omega
      cases ha : A (f (undr A n f i)) (f i) with
      | false =>
        rw [sinkF_no A n f i h0 ha]
        have hn := (hA.no _ _).1 ha
        intro k hk hkn
        by_cases e : (k - 1) / 2 = i
        · rw [e]
          exact Lx.neg (hmin k hk hkn e).2.2 hn
        · exact h1 k hk hkn e
      | true =>
        rw [sinkF_yes A n f i h0 ha]
        have hL := (hA _ _).1 ha
        generalize undr A n f i = u at *
        refine ih (n - u) (by omega) u _ rfl ?_ ?_
        · intro k hk hkn hku
          by_cases e : (k - 1) / 2 = i
          · rw [e, swp_l f i u (by omega)]
            by_cases hk2 : k = u
            · subst hk2
              rw [swp_r]
              exact hL.asym
            · rw [swp_o f i u k (by omega) hk2]
              exact (hmin k hk hkn e).2.2
          · rw [swp_o f i u ((k - 1) / 2) e hku]
            by_cases hki : k = i
            · subst hki
              rw [swp_l f k u (by omega)]
              exact h2 (by omega) u (by omega) (by omega) huu
            · rw [swp_o f i u k hki (fun x => e (by rw [x]; exact huu))]
              exact h1 k hk hkn e
        · intro _ k hk hkn hku
          rw [swp_o f i u k (by omega) (by omega), huu, swp_l f i u (by omega)]
          have := h1 k hk hkn (by omega)
          rw [hku] at this
          exact this
theorem pop_ok {A : Wk → Wk → Bool} (hA : Is K A) {p : Nat} {f : Nat → Wk} (h : HI K (p + 1) f) : HI K p (sinkF A p (up f 0 (f p)) 0) := by
  refine sink_ok hA p _ 0 _ rfl (fun k hk hkn hki => ?_) (fun h => by omega)
  rw [up_other _ _ _ _ (by omega), up_other _ _ _ _ hki]
  exact h k hk (by omega)


theorem repl_ok {A : Wk → Wk → Bool} (hA : Is K A) {n : Nat} {f : Nat → Wk} (h : HI K n f) (x : Wk) : HI K n (sinkF A n (up f 0 x) 0) := by
  refine sink_ok hA n _ 0 _ rfl (fun k hk hkn hki => ?_) (fun h => by omega)
  rw [up_other _ _ _ _ (by omega), up_other _ _ _ _ hki]
  exact h k hk (by omega)
theorem el_repl (A : Wk → Wk → Bool) (f : Nat → Wk) (n : Nat) (x : Wk) (hn : 0 < n) : (el (sinkF A n (up f 0 x) 0) n ++ [f 0]).Perm (el f n ++ [x]) :=
  ((el_sink A n (n - 0) 0 (up f 0 x) rfl).append_right _).trans (el_up f 0 x n hn)
theorem outR_st {A : Wk → Wk → Bool} (hA : Is K A) : ∀ (p : Nat) (f : Nat → Wk), HI K p f → (outR A p f).Perm (el f p) ∧ (outR A p f).Pairwise (fun x y => ¬ Lx K y x)
  | 0, _, _ => ⟨List.Perm.refl _, List.Pairwise.nil⟩
  | p + 1, f, h => by
    have ih := outR_st hA p _ (pop_ok hA h)
    have hp := (List.Perm.cons (f 0) ih.1).trans (el_pop A f p)
    refine ⟨hp, List.pairwise_cons.2 ⟨fun y hy => ?_, ih.2⟩⟩
    have hm : y ∈ el f (p + 1) := hp.subset (List.mem_cons_of_mem _ hy)
    obtain ⟨i, hi, rfl⟩ := List.mem_map.1 hm
    exact h.root i (List.mem_range.1 hi)
end
theorem lx_turn {K : ByteArray → Int} {x y : Wk} : Lx K x y ↔ Go.Proofs.Ytcgpjmpppajfdaa.Ws.Lx K y x := Iff.rfl
theorem is_turn {K : ByteArray → Int} {A : Wk → Wk → Bool} (h : Go.Proofs.Ytcgpjmpppajfdaa.Ws.Is K A) : Is K (fun x y => A y x) := fun x y => h y x

/-- A list with its places. -/
def zs (xs : Nat → ByteArray) (n : Nat) : List Wk := (List.range n).map fun j => (xs j, (j : Int))
theorem zs_succ (xs : Nat → ByteArray) (n : Nat) : zs xs (n + 1) = zs xs n ++ [(xs n, (n : Int))] := by
  unfold zs
  rw [List.range_succ, List.map_append]
  rfl
theorem zs_up (xs : Nat → ByteArray) (n : Nat) : Up (zs xs n) := by
  unfold Up zs
  rw [List.pairwise_map]
  exact List.Pairwise.imp (fun {a b} h => by show (a : Int) < (b : Int); omega) (List.pairwise_lt_range (n := n))
theorem zs_map (xs : Nat → ByteArray) (n : Nat) : (zs xs n).map (·.1) = il xs n := by
  unfold zs il
  rw [List.map_map]
  rfl
/-- The heap of the first k when i things have been seen. -/
def gF (A : Wk → Wk → Bool) (f0 : Nat → Wk) (xs : Nat → ByteArray) (k : Nat) : Nat → Nat → Wk
  | 0 => f0
  | i + 1 => if i < k then riseF (fun x y => A y x) (up (gF A f0 xs k i) i (xs i, (i : Int))) i else if A (xs i, (i : Int)) (gF A f0 xs k i 0) = true then sinkF (fun x y => A y x) k (up (gF A f0 xs k i) 0 (xs i, (i : Int))) 0 else gF A f0 xs k i
def mn (i k : Nat) : Nat := if i < k then i else k
/-- ByteArray holds the first k of them. -/
theorem gF_ok {K : ByteArray → Int} {A : Wk → Wk → Bool} (hA : Go.Proofs.Ytcgpjmpppajfdaa.Ws.Is K A) (f0 : Nat → Wk) (xs : Nat → ByteArray) (k : Nat) (hk : 0 < k) : ∀ i, HI K (mn i k) (gF A f0 xs k i) ∧ ∃ rest, (el (gF A f0 xs k i) (mn i k) ++ rest).Perm (zs xs i) ∧ ∀ y ∈ el (gF A f0 xs k i) (mn i k), ∀ z ∈ rest, ¬ Go.Proofs.Ytcgpjmpppajfdaa.Ws.Lx K z y
  | 0 => by
    have e : mn 0 k = 0 := if_pos hk
    rw [e]
    exact ⟨fun j _ h => by omega, [], List.Perm.refl _, fun y hy => by cases hy⟩
  | i + 1 => by
    obtain ⟨h1, rest, h2, h3⟩ := gF_ok hA f0 xs k hk i
    have hT := is_turn hA
    rw [zs_succ]
    by_cases hik : i < k
    · have e1 : mn i k = i := if_pos hik
      have e2 : mn (i + 1) k = i + 1 := by unfold mn; split <;> omega
      rw [e1] at h1 h2 h3
      have hr : rest = [] := by
        have := h2.length_eq
        rw [List.length_append, el_len] at this
        have hz : (zs xs i).length = i := by simp [zs]
        exact List.eq_nil_of_length_eq_zero (by omega)
      subst hr
      rw [List.append_nil] at h2
      rw [e2, gF, if_pos hik]
      exact ⟨push_ok hT h1 _, [], by rw [List.append_nil]; exact (el_push _ _ _ _).trans (h2.append_right _), fun y _ z hz => by cases hz⟩
    · have e1 : mn i k = k := if_neg hik
      have e2 : mn (i + 1) k = k := if_neg (by omega)
      rw [e1] at h1 h2 h3
      rw [e2, gF, if_neg hik]
      generalize gF A f0 xs k i = f at *
      obtain ⟨x, hx⟩ : ∃ x : Wk, x = (xs i, (i : Int)) := ⟨_, rfl⟩
      rw [← hx]
      have hroot : ∀ y ∈ el f k, ¬ Go.Proofs.Ytcgpjmpppajfdaa.Ws.Lx K (f 0) y := fun y hy => by
        obtain ⟨j, hj, rfl⟩ := List.mem_map.1 hy
        exact h1.root j (List.mem_range.1 hj)
      have hf0 : f 0 ∈ el f k := el_mem hk
      by_cases hx0 : A x (f 0) = true
      · rw [if_pos hx0]
        have hL := (hA _ _).1 hx0
        refine ⟨repl_ok hT h1 x, f 0 :: rest, ?_, fun y hy z hz => ?_⟩
        · have e := el_repl (fun a b => A b a) f k x hk
          have e3 : (el (sinkF (fun a b => A b a) k (up f 0 x) 0) k ++ f 0 :: rest).Perm (el f k ++ [x] ++ rest) := by
            rw [show f 0 :: rest = [f 0] ++ rest from rfl, ← List.append_assoc]
            exact e.append_right _
          refine e3.trans ?_
          rw [List.append_assoc]
          refine (List.Perm.append_left _ List.perm_append_comm).trans ?_
          rw [← List.append_assoc]
          exact h2.append_right _
        · have hy' : y ∈ el f k ++ [x] := (el_repl (fun a b => A b a) f k x hk).subset (List.mem_append_left _ hy)
          rcases List.mem_append.1 hy' with hy' | hy'
          · rcases List.mem_cons.1 hz with rfl | hz
            · exact hroot y hy'
            · exact h3 y hy' z hz
          · rw [List.mem_singleton] at hy'
            subst hy'
            rcases List.mem_cons.1 hz with rfl | hz
            · exact hL.asym
            · exact fun hc => h3 (f 0) hf0 z hz (hc.trans hL)
      · rw [if_neg hx0]
        have hL : ¬ Go.Proofs.Ytcgpjmpppajfdaa.Ws.Lx K x (f 0) := fun h => hx0 ((hA _ _).2 h)
        refine ⟨h1, rest ++ [x], ?_, fun y hy z hz => ?_⟩
        · rw [← List.append_assoc]
          exact h2.append_right _
        · rcases List.mem_append.1 hz with hz | hz
          · exact h3 y hy z hz
          · rw [List.mem_singleton] at hz
            subst hz
            exact Go.Proofs.Ytcgpjmpppajfdaa.Ws.Lx.neg hL (hroot y hy)
theorem sort_ex {K : ByteArray → Int} {A : Wk → Wk → Bool} (hA : Go.Proofs.Ytcgpjmpppajfdaa.Ws.Is K A) (l : List Wk) : ∃ R, St K l R := by
  refine ⟨l.mergeSort (fun x y => !A y x), List.mergeSort_perm _ _, ?_⟩
  have hs := List.pairwise_mergeSort (le := fun x y => !A y x) (fun a b c h1 h2 => by
    have k1 := (hA.no b a).1 (by simpa using h1)
    have k2 := (hA.no c b).1 (by simpa using h2)
    have := (hA.no c a).2 (Go.Proofs.Ytcgpjmpppajfdaa.Ws.Lx.neg k2 k1)
    simp [this]) (fun a b => by
    cases h1 : A b a with
    | false => simp
    | true =>
      have := (hA.no a b).2 ((hA _ _).1 h1).asym
      simp [this]) l
  exact hs.imp (fun {a b} h => (hA.no b a).1 (by simpa using h))
/-- What comes out of it, turned round, are the first k of the sorted list. -/
theorem best_is {K : ByteArray → Int} {A : Wk → Wk → Bool} (hA : Go.Proofs.Ytcgpjmpppajfdaa.Ws.Is K A) (f0 : Nat → Wk) (xs : Nat → ByteArray) (k n : Nat) (hk : 0 < k) (hkn : k ≤ n) {ys : List ByteArray} (hr : ∃ R : List Wk, R.map (·.1) = ys ∧ St K (zs xs n) R) : (outL (fun x y => A y x) k (gF A f0 xs k n)).reverse = ys.take k := by
  obtain ⟨h1, rest, h2, h3⟩ := gF_ok hA f0 xs k hk n
  have e : mn n k = k := if_neg (by omega)
  rw [e] at h1 h2 h3
  obtain ⟨R, er, sr⟩ := hr
  obtain ⟨p1, s1⟩ := outR_st (is_turn hA) k _ h1
  obtain ⟨R2, p2, s2⟩ := sort_ex hA rest
  have sAll : St K (zs xs n) ((outR (fun x y => A y x) k (gF A f0 xs k n)).reverse ++ R2) := by
    refine ⟨(((List.reverse_perm _).trans p1).append p2).trans h2, List.pairwise_append.2 ⟨?_, s2, fun x hx y hy => ?_⟩⟩
    · rw [List.pairwise_reverse]
      exact s1.imp (fun {a b} h => h)
    · exact h3 x (p1.subset (List.mem_reverse.1 hx)) y (p2.subset hy)
  have eR := sr.uniq sAll (zs_up xs n).dst
  rw [← er, eR, ← List.map_take, List.take_append_of_le_length (by rw [List.length_reverse, p1.length_eq, el_len]; exact Nat.le_refl _), List.take_of_length_le (by rw [List.length_reverse, p1.length_eq, el_len]; exact Nat.le_refl _), List.map_reverse, outR_map]
end Go.Proofs.Ytcgpjmpppajfdaa.Ws.Rv
