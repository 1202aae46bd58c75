/- The reference's Sorted: lists. -/
import Derived.Test.YtcgpjmpppajfdaaRf
namespace Go.Proofs.Ytcgpjmpppajfdaa
open Go.RowKit

/-- ys is l in order, those alike in l's order. -/
def RS (K : It → Int) (l ys : List It) : Prop := ∀ B : List Rk, Up B → B.map (·.1) = l → ∃ R : List Rk, R.map (·.1) = ys ∧ St K B R
/-- Two lists merged so far. -/
def MI (K : It → Int) (y1 y2 : List It) (i j : Nat) (l : List It) : Prop := ∀ R1 R2 : List Rk, R1.map (·.1) = y1 → R2.map (·.1) = y2 → Srt K R1 → Srt K R2 → (∀ x ∈ R1, ∀ y ∈ R2, x.2 < y.2) →
  ∃ P : List Rk, P.map (·.1) = l ∧ P.Perm (R1.take i ++ R2.take j) ∧ Srt K P ∧ ∀ x ∈ P, ∀ y ∈ R1.drop i ++ R2.drop j, ¬ Lx K y x
section
variable {K : It → Int} {y1 y2 l : List It} {i j : Nat}
theorem MI.nil (K : It → Int) (y1 y2 : List It) : MI K y1 y2 0 0 [] := fun _ _ _ _ _ _ _ => ⟨[], rfl, List.Perm.refl _, List.Pairwise.nil, fun x hx => by cases hx⟩
theorem srt_drop {R : List Rk} (h : Srt K R) (i : Nat) (hi : i < R.length) : ∀ y ∈ R.drop i, ¬ Lx K y R[i] := by
  intro y hy
  rw [List.drop_eq_getElem_cons hi] at hy
  rcases List.mem_cons.1 hy with rfl | hy
  · exact fun x => x.asym x
  · have h2 : Srt K (R.drop i) := h.sublist (List.drop_sublist i R)
    rw [List.drop_eq_getElem_cons hi] at h2
    exact (List.pairwise_cons.1 h2).1 y hy
theorem lk_map {R : List Rk} {y : List It} (h : R.map (·.1) = y) (i : Nat) (hi : i < R.length) : lk y i = R[i].1 := by
  rw [← h]; simp [lk, List.getD, hi]
theorem MI.left (h : MI K y1 y2 i j l) (hi : i < y1.length) (hc : j = y2.length ∨ ¬ K (lk y2 j) < K (lk y1 i)) (hj : j ≤ y2.length) : MI K y1 y2 (i + 1) j (l ++ [lk y1 i]) := by
  intro R1 R2 e1 e2 s1 s2 hr
  obtain ⟨P, ep, pp, sp, hp⟩ := h R1 R2 e1 e2 s1 s2 hr
  have l1 : R1.length = y1.length := by rw [← e1]; simp
  have l2 : R2.length = y2.length := by rw [← e2]; simp
  have hi' : i < R1.length := by omega
  have k1 := lk_map e1 i hi'
  have mem1 : R1[i] ∈ R1.drop i := by rw [List.drop_eq_getElem_cons hi']; exact List.mem_cons_self ..
  have hmin : ∀ y ∈ R1.drop i ++ R2.drop j, ¬ Lx K y R1[i] := by
    intro y hy
    rcases List.mem_append.1 hy with hy | hy
    · exact srt_drop s1 i hi' y hy
    · rcases hc with hc | hc
      · rw [List.drop_eq_nil_of_le (by omega)] at hy
        cases hy
      · by_cases hj' : j < R2.length
        · refine Lx.neg (srt_drop s2 j hj' y hy) ?_
          rw [lk_map e2 j hj', k1] at hc
          have := hr R1[i] (List.getElem_mem hi') R2[j] (List.getElem_mem hj')
          unfold Lx
          omega
        · rw [List.drop_eq_nil_of_le (by omega)] at hy
          cases hy
  refine ⟨P ++ [R1[i]], by rw [List.map_append, ep, k1]; rfl, ?_, ?_, ?_⟩
  · rw [List.take_succ_eq_append_getElem hi']
    refine (pp.append_right _).trans ?_
    rw [List.append_assoc, List.append_assoc]
    exact List.Perm.append_left _ List.perm_append_comm
  · refine List.pairwise_append.2 ⟨sp, List.pairwise_singleton _ _, fun x hx y hy => ?_⟩
    rw [List.mem_singleton] at hy
    subst hy
    exact hp x hx _ (List.mem_append_left _ mem1)
  · intro x hx y hy
    have hy' : y ∈ R1.drop i ++ R2.drop j := by
      rcases List.mem_append.1 hy with hy | hy
      · exact List.mem_append_left _ (by rw [List.drop_eq_getElem_cons hi']; exact List.mem_cons_of_mem _ hy)
      · exact List.mem_append_right _ hy
    rcases List.mem_append.1 hx with hx | hx
    · exact hp x hx y hy'
    · rw [List.mem_singleton] at hx
      subst hx
      exact hmin y hy'
theorem MI.right (h : MI K y1 y2 i j l) (hj : j < y2.length) (hc : i = y1.length ∨ K (lk y2 j) < K (lk y1 i)) (hi : i ≤ y1.length) : MI K y1 y2 i (j + 1) (l ++ [lk y2 j]) := by
  intro R1 R2 e1 e2 s1 s2 hr
  obtain ⟨P, ep, pp, sp, hp⟩ := h R1 R2 e1 e2 s1 s2 hr
  have l1 : R1.length = y1.length := by rw [← e1]; simp
  have l2 : R2.length = y2.length := by rw [← e2]; simp
  have hj' : j < R2.length := by omega
  have k2 := lk_map e2 j hj'
  have mem2 : R2[j] ∈ R2.drop j := by rw [List.drop_eq_getElem_cons hj']; exact List.mem_cons_self ..
  have hmin : ∀ y ∈ R1.drop i ++ R2.drop j, ¬ Lx K y R2[j] := by
    intro y hy
    rcases List.mem_append.1 hy with hy | hy
    · rcases hc with hc | hc
      · rw [List.drop_eq_nil_of_le (by omega)] at hy
        cases hy
      · by_cases hi' : i < R1.length
        · refine Lx.neg (srt_drop s1 i hi' y hy) ?_
          rw [lk_map e1 i hi', k2] at hc
          unfold Lx
          omega
        · rw [List.drop_eq_nil_of_le (by omega)] at hy
          cases hy
    · exact srt_drop s2 j hj' y hy
  refine ⟨P ++ [R2[j]], by rw [List.map_append, ep, k2]; rfl, ?_, ?_, ?_⟩
  · rw [List.take_succ_eq_append_getElem hj', ← List.append_assoc]
    exact pp.append_right _
  · refine List.pairwise_append.2 ⟨sp, List.pairwise_singleton _ _, fun x hx y hy => ?_⟩
    rw [List.mem_singleton] at hy
    subst hy
    exact hp x hx _ (List.mem_append_right _ mem2)
  · intro x hx y hy
    have hy' : y ∈ R1.drop i ++ R2.drop j := by
      rcases List.mem_append.1 hy with hy | hy
      · exact List.mem_append_left _ hy
      · exact List.mem_append_right _ (by rw [List.drop_eq_getElem_cons hj']; exact List.mem_cons_of_mem _ hy)
    rcases List.mem_append.1 hx with hx | hx
    · exact hp x hx y hy'
    · rw [List.mem_singleton] at hx
      subst hx
      exact hmin y hy'
theorem RS.merged {l1 l2 : List It} (h1 : RS K l1 y1) (h2 : RS K l2 y2) (h : MI K y1 y2 y1.length y2.length l) : RS K (l1 ++ l2) l := by
  intro B hB e
  have hBl : B.length = l1.length + l2.length := by
    have := congrArg List.length e
    simpa using this
  have eB : B = B.take l1.length ++ B.drop l1.length := (List.take_append_drop ..).symm
  have em := e
  rw [eB, List.map_append] at em
  obtain ⟨t1, t2⟩ := List.append_inj em (by simp; omega)
  have u1 : Up (B.take l1.length) := hB.sublist (List.take_sublist ..)
  have u2 : Up (B.drop l1.length) := hB.sublist (List.drop_sublist ..)
  obtain ⟨R1, m1, s1⟩ := h1 _ u1 t1
  obtain ⟨R2, m2, s2⟩ := h2 _ u2 t2
  have hr : ∀ x ∈ R1, ∀ y ∈ R2, x.2 < y.2 := fun x hx y hy => by
    have hx' := s1.1.subset hx
    have hy' := s2.1.subset hy
    rw [eB] at hB
    exact (List.pairwise_append.1 hB).2.2 x hx' y hy'
  obtain ⟨P, ep, pp, sp, _⟩ := h R1 R2 m1 m2 s1.2 s2.2 hr
  refine ⟨P, ep, ?_, sp⟩
  have g1 : R1.length = y1.length := by rw [← m1]; simp
  have g2 : R2.length = y2.length := by rw [← m2]; simp
  rw [← g1, ← g2, List.take_length, List.take_length] at pp
  rw [eB]
  exact pp.trans (s1.1.append s2.1)
theorem RS.small {l : List It} (h : l.length < 2) : RS K l l := by
  intro B hB e
  refine ⟨B, e, List.Perm.refl _, ?_⟩
  have hl : B.length < 2 := by
    have := congrArg List.length e
    simp at this
    omega
  match B, hl with
  | [], _ => exact List.Pairwise.nil
  | [x], _ => exact List.pairwise_singleton _ _
end
theorem app_nil (w : World) (a : Option Addr) (c n : Nat) (xs : Nat → It) (hf : Iml w a xs n) (hn : n * 16 ≤ 140737488355328) :
    ∃ v' w', (Builtin.append_ #[22, 22] 22 #[.slice none 0 0, .slice a n c]).run Try.prog w = .ok v' w' ∧ Ir w' w.heap.size v' n xs ∧ Below w.heap.size w w' := by
  obtain ⟨i0, hi, hz0, hz1, hz2⟩ := info_parts infI
  cases a with
  | none =>
    have h0 : n = 0 := by
      rcases hf with h | ⟨g, o, e, _⟩
      · exact h
      · cases e
    subst h0
    refine ⟨.slice none 0 0, w, ?_, World.ownsRow_nil _ _ _ _, Below.refl _ _⟩
    simp [Builtin.append_, run_underlying Try.underlying22, sizeOf, typeInfo, hi, Builtin.lenOf, Builtin.firstCells]
  | some ad =>
    have hnews : ∀ j u, (ic xs n)[j]? = some u → w.cell? (ad.add j) = some u ∧ u.oneCell' = true := by
      rcases hf with h | ⟨g, o, e, hg, hat⟩
      · subst h
        intro j u hj
        simp [ic] at hj
      · cases e
        intro j u hj
        rw [Go.WideShapes.add_plain]
        have hjl : j < n * 2 := by
          have := (List.getElem?_eq_some_iff.1 hj).1
          rwa [ic_len] at this
        have e2 : j = (j / 2) * 2 + j % 2 := by omega
        rw [e2] at hj ⊢
        rw [ic_get xs n (j / 2) (j % 2) (by omega) (by omega)] at hj
        obtain ⟨q0, q1⟩ := hat (j / 2) (by omega)
        have : j % 2 = 0 ∨ j % 2 = 1 := by omega
        rcases this with h | h
        · rw [h] at hj ⊢
          simp [i2] at hj
          rw [← hj, Nat.add_zero]
          exact ⟨q0, rfl⟩
        · rw [h] at hj ⊢
          simp [i2] at hj
          rw [← hj, ← Nat.add_assoc]
          exact ⟨q1, rfl⟩
    obtain ⟨v', w', r, o', g, _⟩ := run_append_own (P := Try.prog) w w.heap.size 22 22 24 i0 (.agg #[.int .i64 0, .int .i64 0]) 2 16 Try.underlying22 hi hz0 hz1 hz2 rfl (by decide) _ 0 [] (World.ownsRow_nil w _ _ _) ad n c (ic xs n) (ic_len xs n) (fun j u hj => (hnews j u hj).1)
      (fun u hu => by
        obtain ⟨j, hj⟩ := List.mem_iff_getElem?.1 hu
        exact (hnews j u hj).2) (by unfold maxLen; omega) (by omega) (Nat.le_refl _)
    refine ⟨v', w', r, ?_, (Below.refl _ w).grown g (Nat.le_refl _) (fun k hk => by cases hk)⟩
    unfold Ir
    rw [Nat.zero_add, List.nil_append] at o'
    exact o'
end Go.Proofs.Ytcgpjmpppajfdaa
