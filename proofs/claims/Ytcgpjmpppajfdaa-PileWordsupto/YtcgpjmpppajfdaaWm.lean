
/- Heaps as lists: what is in them, and that the first is ahead of all. -/
import Derived.Test.YtcgpjmpppajfdaaWa
namespace Go.Proofs.Ytcgpjmpppajfdaa.Ws

/-- What is in a heap. -/
def el (f : Nat → Wk) (n : Nat) : List Wk := (List.range n).map f
theorem el_succ (f : Nat → Wk) (n : Nat) : el f (n + 1) = el f n ++ [f n] := by
  unfold el
  rw [List.range_succ, List.map_append]
  rfl
theorem el_congr (f g : Nat → Wk) (n : Nat) (h : ∀ j, j < n → f j = g j) : el f n = el g n := by
  unfold el
  exact List.map_congr_left fun j hj => h j (List.mem_range.1 hj)
theorem el_mem {f : Nat → Wk} {n i : Nat} (h : i < n) : f i ∈ el f n := List.mem_map.2 ⟨i, List.mem_range.2 h, rfl⟩
theorem el_len (f : Nat → Wk) (n : Nat) : (el f n).length = n := by simp [el]
theorem el_up (f : Nat → Wk) (i : Nat) (x : Wk) : ∀ n, i < n → (el (up f i x) n ++ [f i]).Perm (el f n ++ [x])
  | 0, h => by omega
  | n + 1, h => by
    rw [el_succ, el_succ]
    by_cases hi : i = n
    · subst hi
      rw [el_congr (up f i x) f i fun j hj => up_other f i x j (by omega), up_same, List.append_assoc, List.append_assoc]
      exact List.Perm.append_left _ (List.Perm.swap _ _ _)
    · have ih := el_up f i x n (by omega)
      rw [up_other f i x n (by omega)]
      have e1 : (el (up f i x) n ++ [f n] ++ [f i]).Perm (el (up f i x) n ++ [f i] ++ [f n]) := by
        rw [List.append_assoc, List.append_assoc]
        exact List.Perm.append_left _ (List.Perm.swap _ _ _)
      have e2 : (el f n ++ [x] ++ [f n]).Perm (el f n ++ [f n] ++ [x]) := by
        rw [List.append_assoc, List.append_assoc]
        exact List.Perm.append_left _ (List.Perm.swap _ _ _)
      exact e1.trans ((List.Perm.append_right _ ih).trans e2)
theorem el_swp (f : Nat → Wk) (n i j : Nat) (hi : i < n) (hj : j < n) : (el (swp f i j) n).Perm (el f n) := by
  unfold swp
  by_cases h : i = j
  · subst h
    rw [el_congr (up (up f i (f i)) i (f i)) f n fun k _ => by
      by_cases hk : k = i
      · rw [hk, up_same]
      · rw [up_other _ _ _ _ hk, up_other _ _ _ _ hk]]
  · have e1 := el_up (up f i (f j)) j (f i) n hj
    rw [up_other f i (f j) j (fun e => h e.symm)] at e1
    have e2 := el_up f i (f j) n hi
    exact (List.perm_append_right_iff _).1 (e1.trans e2)
theorem el_rise (A : Wk → Wk → Bool) (n : Nat) : ∀ (i : Nat) (f : Nat → Wk), i < n → (el (riseF A f i) n).Perm (el f n) := by
  intro i
  induction i using Nat.strongRecOn with
  | ind i ih =>
    intro f hi
    by_cases h0 : 0 < i
    · cases ha : A (f i) (f ((i - 1) / 2)) with
      | true =>
        rw [riseF_yes A f i h0 ha]
        exact (ih _ (by omega) _ (by omega)).trans (el_swp f n i _ hi (by omega))
      | false => rw [riseF_no A f i ha]
    · obtain rfl : i = 0 := by omega
      rw [riseF_zero]
theorem el_sink (A : Wk → Wk → Bool) (n : Nat) : ∀ (k i : Nat) (f : Nat → Wk), n - i = k → (el (sinkF A n f i) n).Perm (el f n) := by
  intro k
  induction k using Nat.strongRecOn with
  | ind k ih =>
    intro i f hk
    have hc := undr_cases A n f i
    by_cases h0 : undr A n f i = 0
    · rw [sinkF_none A n f i h0]
    · cases ha : A (f (undr A n f i)) (f i) with
      | true =>
        rw [sinkF_yes A n f i h0 ha]
        exact (ih _ (by omega) _ _ rfl).trans (el_swp f n i _ (by omega) (by omega))
      | false => rw [sinkF_no A n f i h0 ha]
theorem el_push (A : Wk → Wk → Bool) (f : Nat → Wk) (n : Nat) (x : Wk) : (el (riseF A (up f n x) n) (n + 1)).Perm (el f n ++ [x]) := by
  refine (el_rise A (n + 1) n _ (by omega)).trans ?_
  rw [el_succ, up_same, el_congr (up f n x) f n fun j hj => up_other f n x j (by omega)]
theorem el_pop (A : Wk → Wk → Bool) (f : Nat → Wk) (p : Nat) : (f 0 :: el (sinkF A p (up f 0 (f p)) 0) p).Perm (el f (p + 1)) := by
  by_cases hp : p = 0
  · subst hp
    rw [el_succ]
    exact List.Perm.refl _
  · have e1 := el_sink A p (p - 0) 0 (up f 0 (f p)) rfl
    have e2 := el_up f 0 (f p) p (by omega)
    rw [el_succ]
    refine ((List.Perm.cons (f 0) e1).trans ?_).trans e2
    exact (List.perm_append_singleton _ _).symm

/-- Ahead, by a key and then the rank. -/
def Lx (K : ByteArray → Int) (x y : Wk) : Prop := K x.1 < K y.1 ∨ (K x.1 = K y.1 ∧ x.2 < y.2)
/-- A answers as that order does. -/
def Is (K : ByteArray → Int) (A : Wk → Wk → Bool) : Prop := ∀ x y, A x y = true ↔ Lx K x y
section
variable {K : ByteArray → Int}
theorem Lx.asym {x y : Wk} (h : Lx K x y) : ¬ Lx K y x := by unfold Lx at *; omega
theorem Lx.trans {x y z : Wk} (h : Lx K x y) (k : Lx K y z) : Lx K x z := by unfold Lx at *; omega
theorem Lx.neg {x y z : Wk} (h : ¬ Lx K x y) (k : ¬ Lx K y z) : ¬ Lx K x z := by unfold Lx at *; omega
theorem Lx.eq {x y : Wk} (h : ¬ Lx K x y) (k : ¬ Lx K y x) : K x.1 = K y.1 ∧ x.2 = y.2 := by unfold Lx at *; omega
theorem Is.no {A : Wk → Wk → Bool} (h : Is K A) (x y : Wk) : A x y = false ↔ ¬ Lx K x y := by
  rw [← h x y]; simp
/-- A heap. -/
def HI (K : ByteArray → Int) (n : Nat) (f : Nat → Wk) : Prop := ∀ k, 0 < k → k < n → ¬ Lx K (f k) (f ((k - 1) / 2))
theorem HI.root {n : Nat} {f : Nat → Wk} (h : HI K n f) : ∀ i, i < n → ¬ Lx K (f i) (f 0) := by
  intro i
  induction i using Nat.strongRecOn with
  | ind i ih =>
    intro hi
    by_cases h0 : i = 0
    · subst h0
      intro x
      exact x.asym x
    · exact Lx.neg (h i (by omega) hi) (ih ((i - 1) / 2) (by omega) (by omega))
theorem swp_l (f : Nat → Wk) (i j : Nat) (h : i ≠ j) : swp f i j i = f j := by unfold swp; rw [up_other _ _ _ _ h, up_same]
theorem swp_r (f : Nat → Wk) (i j : Nat) : swp f i j j = f i := by unfold swp; rw [up_same]
theorem swp_o (f : Nat → Wk) (i j k : Nat) (h1 : k ≠ i) (h2 : k ≠ j) : swp f i j k = f k := by unfold swp; rw [up_other _ _ _ _ h2, up_other _ _ _ _ h1]

theorem rise_ok {A : Wk → Wk → Bool} (hA : Is K A) (n : Nat) : ∀ (i : Nat) (f : Nat → Wk), i < n → (∀ k, 0 < k → k < n → k ≠ i → ¬ Lx K (f k) (f ((k - 1) / 2))) → (0 < i → ∀ k, 0 < k → k < n → (k - 1) / 2 = i → ¬ Lx K (f k) (f ((i - 1) / 2))) → HI K n (riseF A f i) := by
  intro i
  induction i using Nat.strongRecOn with
  | ind i ih =>
    intro f hi h1 h2
    by_cases h0 : 0 < i
    · obtain ⟨p, hp⟩ : ∃ p, p = (i - 1) / 2 := ⟨_, rfl⟩
      have hpi : p < i := by omega
      cases ha : A (f i) (f ((i - 1) / 2)) with
      | false =>
        rw [riseF_no A f i ha]
        intro k hk hkn
        by_cases hki : k = i
        · subst hki; exact (hA.no _ _).1 ha
        · exact h1 k hk hkn hki
      | true =>
        rw [riseF_yes A f i h0 ha]
        have hL := (hA _ _).1 ha
        rw [← hp] at hL ⊢
        refine ih p hpi _ (by omega) ?_ ?_
        · intro k hk hkn hkp
          by_cases hki : k = i
          · subst hki
            rw [← hp, swp_l f k p (by omega), swp_r]
            exact hL.asym
          · rw [swp_o f i p k hki hkp]
            by_cases e1 : (k - 1) / 2 = i
            · rw [e1, swp_l f i p (by omega)]
              have := h2 h0 k hk hkn e1
              rw [← hp] at this
              exact this
            · by_cases e2 : (k - 1) / 2 = p
              · rw [e2, swp_r]
                intro x
                have := h1 k hk hkn hki
                rw [e2] at this
                exact this (x.trans hL)
              · rw [swp_o f i p _ e1 e2]
                exact h1 k hk hkn hki
        · intro hp0 k hk hkn hkp
          rw [swp_o f i p ((p - 1) / 2) (by omega) (by omega)]
          have hpp := h1 p hp0 (by omega) (by omega)
          by_cases hki : k = i
          · subst hki
            rw [swp_l f k p (by omega)]
            exact hpp
          · rw [swp_o f i p k hki (by omega)]
            have := h1 k hk hkn hki
            rw [hkp] at this
            exact Lx.neg this hpp
    · obtain rfl : i = 0 := by omega
      rw [riseF_zero]
      intro k hk hkn
      exact h1 k hk hkn (by omega)
theorem push_ok {A : Wk → Wk → Bool} (hA : Is K A) {n : Nat} {f : Nat → Wk} (h : HI K n f) (x : Wk) : HI K (n + 1) (riseF A (up f n x) n) := by
  refine rise_ok hA (n + 1) n _ (by omega) (fun k hk hkn hki => ?_) (fun _ k hk hkn e => by omega)
  rw [up_other _ _ _ _ hki, up_other _ _ _ _ (by omega)]
  exact h k hk (by omega)
theorem undr_min {A : Wk → Wk → Bool} (hA : Is K A) (n : Nat) (f : Nat → Wk) (i k : Nat) (hk : 0 < k) (hkn : k < n) (e : (k - 1) / 2 = i) : 0 < undr A n f i ∧ (undr A n f i - 1) / 2 = i ∧ ¬ Lx K (f k) (f (undr A n f i)) := by
  unfold undr
  rw [if_neg (by omega)]
  have hc : k = 2 * i + 1 ∨ k = 2 * i + 2 := by omega
  split
  · rename_i h
    refine ⟨by omega, by omega, ?_⟩
    rcases hc with rfl | rfl
    · exact ((hA _ _).1 h.2).asym
    · exact fun x => x.asym x
  · rename_i h
    refine ⟨by omega, by omega, ?_⟩
    rcases hc with rfl | rfl
    · exact fun x => x.asym x
    · intro x
      exact h ⟨hkn, (hA _ _).2 x⟩
theorem sink_ok {A : Wk → Wk → Bool} (hA : Is K A) (n : Nat) : ∀ (m i : Nat) (f : Nat → Wk), n - i = m → (∀ k, 0 < k → k < n → (k - 1) / 2 ≠ i → ¬ Lx K (f k) (f ((k - 1) / 2))) → (0 < i → ∀ k, 0 < k → k < n → (k - 1) / 2 = i → ¬ Lx K (f k) (f ((i - 1) / 2))) → HI K n (sinkF A n f i) := by
  intro m
  induction m using Nat.strongRecOn with
  | ind m ih =>
    intro i f hm h1 h2
    have hc := undr_cases A n f i
    by_cases h0 : undr A n f i = 0
    · rw [sinkF_none A n f i h0]
      intro k hk hkn
      by_cases e : (k - 1) / 2 = i
      · have := (undr_min hA n f i k hk hkn e).1
        omega
      · exact h1 k hk hkn e
    · have hmin := fun k hk hkn e => undr_min hA n f i k hk hkn e
      have huu : (undr A n f i - 1) / 2 = i := by
        unfold undr at hc h0 ⊢
        split at h0
        · omega
        · rename_i hx
          rw [if_neg hx]
          split <;> omega
      cases ha : A (f (undr A n f i)) (f i) with
      | false =>
        rw [sinkF_no A n f i h0 ha]
        have hn := (hA.no _ _).1 ha
        intro k hk hkn
        by_cases e : (k - 1) / 2 = i
        · rw [e]
          exact Lx.neg (hmin k hk hkn e).2.2 hn
        · exact h1 k hk hkn e
      | true =>
        rw [sinkF_yes A n f i h0 ha]
        have hL := (hA _ _).1 ha
        generalize undr A n f i = u at *
        refine ih (n - u) (by omega) u _ rfl ?_ ?_
        · intro k hk hkn hku
          by_cases e : (k - 1) / 2 = i
          · rw [e, swp_l f i u (by omega)]
            by_cases hk2 : k = u
            · subst hk2
              rw [swp_r]
              exact hL.asym
            · rw [swp_o f i u k (by omega) hk2]
              exact (hmin k hk hkn e).2.2
          · rw [swp_o f i u ((k - 1) / 2) e hku]
            by_cases hki : k = i
            · subst hki
              rw [swp_l f k u (by omega)]
              exact h2 (by omega) u (by omega) (by omega) huu
            · rw [swp_o f i u k hki (fun x => e (by rw [x]; exact huu))]
              exact h1 k hk hkn e
        · intro _ k hk hkn hku
          rw [swp_o f i u k (by omega) (by omega), huu, swp_l f i u (by omega)]
          have := h1 k hk hkn (by omega)
          rw [hku] at this
          exact this
theorem pop_ok {A : Wk → Wk → Bool} (hA : Is K A) {p : Nat} {f : Nat → Wk} (h : HI K (p + 1) f) : HI K p (sinkF A p (up f 0 (f p)) 0) := by
  refine sink_ok hA p _ 0 _ rfl (fun k hk hkn hki => ?_) (fun h => by omega)
  rw [up_other _ _ _ _ (by omega), up_other _ _ _ _ hki]
  exact h k hk (by omega)
end
end Go.Proofs.Ytcgpjmpppajfdaa.Ws
