
/- Heaps under the turned order; the first k of a list. -/
import Derived.Test.YtcgpjmpppajfdaaRs
import Derived.Test.YtcgpjmpppajfdaaEm
namespace Go.Proofs.Ytcgpjmpppajfdaa.Rv

/-- Ahead, by a key and then the rank. -/
def Lx (K : It → Int) (x y : Rk) : Prop := K y.1 < K x.1 ∨ (K y.1 = K x.1 ∧ y.2 < x.2)
/-- A answers as that order does. -/
def Is (K : It → Int) (A : Rk → Rk → Bool) : Prop := ∀ x y, A x y = true ↔ Lx K x y
section
variable {K : It → Int}
theorem Lx.asym {x y : Rk} (h : Lx K x y) : ¬ Lx K y x := by unfold Lx at *; omega
theorem Lx.trans {x y z : Rk} (h : Lx K x y) (k : Lx K y z) : Lx K x z := by unfold Lx at *; omega
theorem Lx.neg {x y z : Rk} (h : ¬ Lx K x y) (k : ¬ Lx K y z) : ¬ Lx K x z := by unfold Lx at *; omega
theorem Lx.eq {x y : Rk} (h : ¬ Lx K x y) (k : ¬ Lx K y x) : K x.1 = K y.1 ∧ x.2 = y.2 := by unfold Lx at *; omega
theorem Is.no {A : Rk → Rk → Bool} (h : Is K A) (x y : Rk) : A x y = false ↔ ¬ Lx K x y := by
  rw [← h x y]; simp
/-- A heap. -/
def HI (K : It → Int) (n : Nat) (f : Nat → Rk) : Prop := ∀ k, 0 < k → k < n → ¬ Lx K (f k) (f ((k - 1) / 2))
theorem HI.root {n : Nat} {f : Nat → Rk} (h : HI K n f) : ∀ i, i < n → ¬ Lx K (f i) (f 0) := by
  intro i
  induction i using Nat.strongRecOn with
  | ind i ih =>
    intro hi
    by_cases h0 : i = 0
    · subst h0
      intro x
      exact x.asym x
    · exact Lx.neg (h i (by omega) hi) (ih ((i - 1) / 2) (by omega) (by omega))

theorem rise_ok {A : Rk → Rk → Bool} (hA : Is K A) (n : Nat) : ∀ (i : Nat) (f : Nat → Rk), i < n → (∀ k, 0 < k → k < n → k ≠ i → ¬ Lx K (f k) (f ((k - 1) / 2))) → (0 < i → ∀ k, 0 < k → k < n → (k - 1) / 2 = i → ¬ Lx K (f k) (f ((i - 1) / 2))) → HI K n (riseF A f i) := by
  intro i
  induction i using Nat.strongRecOn with
  | ind i ih =>
    intro f hi h1 h2
    by_cases h0 : 0 < i
    · obtain ⟨p, hp⟩ : ∃ p, p = (i - 1) / 2 := ⟨_, rfl⟩
      have hpi : p < i := by omega
      cases ha : A (f i) (f ((i - 1) / 2)) with
      | false =>
        rw [riseF_no A f i ha]
        intro k hk hkn
        by_cases hki : k = i
        · subst hki; exact (hA.no _ _).1 ha
        · exact h1 k hk hkn hki
      | true =>
        rw [riseF_yes A f i h0 ha]
        have hL := (hA _ _).1 ha
        rw [← hp] at hL ⊢
        refine ih p hpi _ (by omega) ?_ ?_
        · intro k hk hkn hkp
          by_cases hki : k = i
          · subst hki
            rw [← hp, swp_l f k p (by omega), swp_r]
            exact hL.asym
          · rw [swp_o f i p k hki hkp]
            by_cases e1 : (k - 1) / 2 = i
            · rw [e1, swp_l f i p (by omega)]
              have := h2 h0 k hk hkn e1
              rw [← hp] at this
              exact this
            · by_cases e2 : (k - 1) / 2 = p
              · rw [e2, swp_r]
                intro x
                have := h1 k hk hkn hki
                rw [e2] at this
                exact this (x.trans hL)
              · rw [swp_o f i p _ e1 e2]
                exact h1 k hk hkn hki
        · intro hp0 k hk hkn hkp
          rw [swp_o f i p ((p - 1) / 2) (by omega) (by omega)]
          have hpp := h1 p hp0 (by omega) (by omega)
          by_cases hki : k = i
          · subst hki
            rw [swp_l f k p (by omega)]
            exact hpp
          · rw [swp_o f i p k hki (by omega)]
            have := h1 k hk hkn hki
            rw [hkp] at this
            exact Lx.neg this hpp
    · obtain rfl : i = 0 := by omega
      rw [riseF_zero]
      intro k hk hkn
      exact h1 k hk hkn (by omega)
theorem push_ok {A : Rk → Rk → Bool} (hA : Is K A) {n : Nat} {f : Nat → Rk} (h : HI K n f) (x : Rk) : HI K (n + 1) (riseF A (up f n x) n) := by
  refine rise_ok hA (n + 1) n _ (by omega) (fun k hk hkn hki => ?_) (fun _ k hk hkn e => by omega)
  rw [up_other _ _ _ _ hki, up_other _ _ _ _ (by omega)]
  exact h k hk (by omega)
theorem undr_min {A : Rk → Rk → Bool} (hA : Is K A) (n : Nat) (f : Nat → Rk) (i k : Nat) (hk : 0 < k) (hkn : k < n) (e : (k - 1) / 2 = i) : 0 < undr A n f i ∧ (undr A n f i - 1) / 2 = i ∧ ¬ Lx K (f k) (f (undr A n f i)) := by
  unfold undr
  rw [if_neg (by omega)]
  have hc : k = 2 * i + 1 ∨ k = 2 * i + 2 := by omega
  split
  · rename_i h
    refine ⟨by omega, by omega, ?_⟩
    rcases hc with rfl | rfl
    · exact ((hA _ _).1 h.2).asym
    · exact fun x => x.asym x
  · rename_i h
    refine ⟨by omega, by omega, ?_⟩
    rcases hc with rfl | rfl
    · exact fun x => x.asym x
    · intro x
      exact h ⟨hkn, (hA _ _).2 x⟩
theorem sink_ok {A : Rk → Rk → Bool} (hA : Is K A) (n : Nat) : ∀ (m i : Nat) (f : Nat → Rk), n - i = m → (∀ k, 0 < k → k < n → (k - 1) / 2 ≠ i → ¬ Lx K (f k) (f ((k - 1) / 2))) → (0 < i → ∀ k, 0 < k → k < n → (k - 1) / 2 = i → ¬ Lx K (f k) (f ((i - 1) / 2))) → HI K n (sinkF A n f i) := by
  intro m
  induction m using Nat.strongRecOn with
  | ind m ih =>
    intro i f hm h1 h2
    have hc := undr_cases A n f i
    by_cases h0 : undr A n f i = 0
    · rw [sinkF_none A n f i h0]
      intro k hk hkn
      by_cases e : (k - 1) / 2 = i
      · have := (undr_min hA n f i k hk hkn e).1
        omega
      · exact h1 k hk hkn e
    · have hmin := fun k hk hkn e => undr_min hA n f i k hk hkn e
      have huu : (undr A n f i - 1) / 2 = i := by
        unfold undr at hc h0 ⊢
        split at h0
        · omega
        · rename_i hx
          rw [if_neg hx]
          split <;> omega
      cases ha : A (f (undr A n f i)) (f i) with
      | false =>
        rw [sinkF_no A n f i h0 ha]
        have hn := (hA.no _ _).1 ha
        intro k hk hkn
        by_cases e : (k - 1) / 2 = i
        · rw [e]
          exact Lx.neg (hmin k hk hkn e).2.2 hn
        · exact h1 k hk hkn e
      | true =>
        rw [sinkF_yes A n f i h0 ha]
        have hL := (hA _ _).1 ha
        generalize undr A n f i = u at *
        refine ih (n - u) (by omega) u _ rfl ?_ ?_
        · intro k hk hkn hku
          by_cases e : (k - 1) / 2 = i
          · rw [e, swp_l f i u (by omega)]
            by_cases hk2 : k = u
            · subst hk2
              rw [swp_r]
              exact hL.asym
            · rw [swp_o f i u k (by omega) hk2]
              exact (hmin k hk hkn e).2.2
          · rw [swp_o f i u ((k - 1) / 2) e hku]
            by_cases hki : k = i
            · subst hki
              rw [swp_l f k u (by omega)]
              exact h2 (by omega) u (by omega) (by omega) huu
            · rw [swp_o f i u k hki (fun x => e (by rw [x]; exact huu))]
              exact h1 k hk hkn e
        · intro _ k hk hkn hku
          rw [swp_o f i u k (by omega) (by omega), huu, swp_l f i u (by omega)]
          have := h1 k hk hkn (by omega)
          rw [hku] at this
          exact this
theorem pop_ok {A : Rk → Rk → Bool} (hA : Is K A) {p : Nat} {f : Nat → Rk} (h : HI K (p + 1) f) : HI K p (sinkF A p (up f 0 (f p)) 0) := by
  refine sink_ok hA p _ 0 _ rfl (fun k hk hkn hki => ?_) (fun h => by omega)
  rw [up_other _ _ _ _ (by omega), up_other _ _ _ _ hki]
  exact h k hk (by omega)


theorem repl_ok {A : Rk → Rk → Bool} (hA : Is K A) {n : Nat} {f : Nat → Rk} (h : HI K n f) (x : Rk) : HI K n (sinkF A n (up f 0 x) 0) := by
  refine sink_ok hA n _ 0 _ rfl (fun k hk hkn hki => ?_) (fun h => by omega)
  rw [up_other _ _ _ _ (by omega), up_other _ _ _ _ hki]
  exact h k hk (by omega)
theorem el_repl (A : Rk → Rk → Bool) (f : Nat → Rk) (n : Nat) (x : Rk) (hn : 0 < n) : (el (sinkF A n (up f 0 x) 0) n ++ [f 0]).Perm (el f n ++ [x]) :=
  ((el_sink A n (n - 0) 0 (up f 0 x) rfl).append_right _).trans (el_up f 0 x n hn)
theorem outR_st {A : Rk → Rk → Bool} (hA : Is K A) : ∀ (p : Nat) (f : Nat → Rk), HI K p f → (outR A p f).Perm (el f p) ∧ (outR A p f).Pairwise (fun x y => ¬ Lx K y x)
  | 0, _, _ => ⟨List.Perm.refl _, List.Pairwise.nil⟩
  | p + 1, f, h => by
    have ih := outR_st hA p _ (pop_ok hA h)
    have hp := (List.Perm.cons (f 0) ih.1).trans (el_pop A f p)
    refine ⟨hp, List.pairwise_cons.2 ⟨fun y hy => ?_, ih.2⟩⟩
    have hm : y ∈ el f (p + 1) := hp.subset (List.mem_cons_of_mem _ hy)
    obtain ⟨i, hi, rfl⟩ := List.mem_map.1 hm
    exact h.root i (List.mem_range.1 hi)
end
theorem lx_turn {K : It → Int} {x y : Rk} : Lx K x y ↔ Go.Proofs.Ytcgpjmpppajfdaa.Lx K y x := Iff.rfl
theorem is_turn {K : It → Int} {A : Rk → Rk → Bool} (h : Go.Proofs.Ytcgpjmpppajfdaa.Is K A) : Is K (fun x y => A y x) := fun x y => h y x

/-- A list with its places. -/
def zs (xs : Nat → It) (n : Nat) : List Rk := (List.range n).map fun j => (xs j, (j : Int))
theorem zs_succ (xs : Nat → It) (n : Nat) : zs xs (n + 1) = zs xs n ++ [(xs n, (n : Int))] := by
  unfold zs
  rw [List.range_succ, List.map_append]
  rfl
theorem zs_up (xs : Nat → It) (n : Nat) : Up (zs xs n) := by
  unfold Up zs
  rw [List.pairwise_map]
  exact List.Pairwise.imp (fun {a b} h => by show (a : Int) < (b : Int); omega) (List.pairwise_lt_range (n := n))
theorem zs_map (xs : Nat → It) (n : Nat) : (zs xs n).map (·.1) = il xs n := by
  unfold zs il
  rw [List.map_map]
  rfl
/-- The heap of the first k when i things have been seen. -/
def gF (A : Rk → Rk → Bool) (f0 : Nat → Rk) (xs : Nat → It) (k : Nat) : Nat → Nat → Rk
  | 0 => f0
  | i + 1 => if i < k then riseF (fun x y => A y x) (up (gF A f0 xs k i) i (xs i, (i : Int))) i else if A (xs i, (i : Int)) (gF A f0 xs k i 0) = true then sinkF (fun x y => A y x) k (up (gF A f0 xs k i) 0 (xs i, (i : Int))) 0 else gF A f0 xs k i
def mn (i k : Nat) : Nat := if i < k then i else k
/-- It holds the first k of them. -/
theorem gF_ok {K : It → Int} {A : Rk → Rk → Bool} (hA : Go.Proofs.Ytcgpjmpppajfdaa.Is K A) (f0 : Nat → Rk) (xs : Nat → It) (k : Nat) (hk : 0 < k) : ∀ i, HI K (mn i k) (gF A f0 xs k i) ∧ ∃ rest, (el (gF A f0 xs k i) (mn i k) ++ rest).Perm (zs xs i) ∧ ∀ y ∈ el (gF A f0 xs k i) (mn i k), ∀ z ∈ rest, ¬ Go.Proofs.Ytcgpjmpppajfdaa.Lx K z y
  | 0 => by
    have e : mn 0 k = 0 := if_pos hk
    rw [e]
    exact ⟨fun j _ h => by omega, [], List.Perm.refl _, fun y hy => by cases hy⟩
  | i + 1 => by
    obtain ⟨h1, rest, h2, h3⟩ := gF_ok hA f0 xs k hk i
    have hT := is_turn hA
    rw [zs_succ]
    by_cases hik : i < k
    · have e1 : mn i k = i := if_pos hik
      have e2 : mn (i + 1) k = i + 1 := by unfold mn; split <;> omega
      rw [e1] at h1 h2 h3
      have hr : rest = [] := by
        have := h2.length_eq
        rw [List.length_append, el_len] at this
        have hz : (zs xs i).length = i := by simp [zs]
        exact List.eq_nil_of_length_eq_zero (by omega)
      subst hr
      rw [List.append_nil] at h2
      rw [e2, gF, if_pos hik]
      exact ⟨push_ok hT h1 _, [], by rw [List.append_nil]; exact (el_push _ _ _ _).trans (h2.append_right _), fun y _ z hz => by cases hz⟩
    · have e1 : mn i k = k := if_neg hik
      have e2 : mn (i + 1) k = k := if_neg (by omega)
      rw [e1] at h1 h2 h3
      rw [e2, gF, if_neg hik]
      generalize gF A f0 xs k i = f at *
      obtain ⟨x, hx⟩ : ∃ x : Rk, x = (xs i, (i : Int)) := ⟨_, rfl⟩
      rw [← hx]
      have hroot : ∀ y ∈ el f k, ¬ Go.Proofs.Ytcgpjmpppajfdaa.Lx K (f 0) y := fun y hy => by
        obtain ⟨j, hj, rfl⟩ := List.mem_map.1 hy
        exact h1.root j (List.mem_range.1 hj)
      have hf0 : f 0 ∈ el f k := el_mem hk
      by_cases hx0 : A x (f 0) = true
      · rw [if_pos hx0]
        have hL := (hA _ _).1 hx0
        refine ⟨repl_ok hT h1 x, f 0 :: rest, ?_, fun y hy z hz => ?_⟩
        · have e := el_repl (fun a b => A b a) f k x hk
          have e3 : (el (sinkF (fun a b => A b a) k (up f 0 x) 0) k ++ f 0 :: rest).Perm (el f k ++ [x] ++ rest) := by
            rw [show f 0 :: rest = [f 0] ++ rest from rfl, ← List.append_assoc]
            exact e.append_right _
          refine e3.trans ?_
          rw [List.append_assoc]
          refine (List.Perm.append_left _ List.perm_append_comm).trans ?_
          rw [← List.append_assoc]
          exact h2.append_right _
        · have hy' : y ∈ el f k ++ [x] := (el_repl (fun a b => A b a) f k x hk).subset (List.mem_append_left _ hy)
          rcases List.mem_append.1 hy' with hy' | hy'
          · rcases List.mem_cons.1 hz with rfl | hz
            · exact hroot y hy'
            · exact h3 y hy' z hz
          · rw [List.mem_singleton] at hy'
            subst hy'
            rcases List.mem_cons.1 hz with rfl | hz
            · exact hL.asym
            · exact fun hc => h3 (f 0) hf0 z hz (hc.trans hL)
      · rw [if_neg hx0]
        have hL : ¬ Go.Proofs.Ytcgpjmpppajfdaa.Lx K x (f 0) := fun h => hx0 ((hA _ _).2 h)
        refine ⟨h1, rest ++ [x], ?_, fun y hy z hz => ?_⟩
        · rw [← List.append_assoc]
          exact h2.append_right _
        · rcases List.mem_append.1 hz with hz | hz
          · exact h3 y hy z hz
          · rw [List.mem_singleton] at hz
            subst hz
            exact Go.Proofs.Ytcgpjmpppajfdaa.Lx.neg hL (hroot y hy)
theorem sort_ex {K : It → Int} {A : Rk → Rk → Bool} (hA : Go.Proofs.Ytcgpjmpppajfdaa.Is K A) (l : List Rk) : ∃ R, St K l R := by
  refine ⟨l.mergeSort (fun x y => !A y x), List.mergeSort_perm _ _, ?_⟩
  have hs := List.pairwise_mergeSort (le := fun x y => !A y x) (fun a b c h1 h2 => by
    have k1 := (hA.no b a).1 (by simpa using h1)
    have k2 := (hA.no c b).1 (by simpa using h2)
    have := (hA.no c a).2 (Go.Proofs.Ytcgpjmpppajfdaa.Lx.neg k2 k1)
    simp [this]) (fun a b => by
    cases h1 : A b a with
    | false => simp
    | true =>
      have := (hA.no a b).2 ((hA _ _).1 h1).asym
      simp [this]) l
  exact hs.imp (fun {a b} h => (hA.no b a).1 (by simpa using h))
/-- What comes out of it, turned round, are the first k of the sorted list. -/
theorem best_is {K : It → Int} {A : Rk → Rk → Bool} (hA : Go.Proofs.Ytcgpjmpppajfdaa.Is K A) (f0 : Nat → Rk) (xs : Nat → It) (k n : Nat) (hk : 0 < k) (hkn : k ≤ n) {ys : List It} (hr : RS K (il xs n) ys) : (outL (fun x y => A y x) k (gF A f0 xs k n)).reverse = ys.take k := by
  obtain ⟨h1, rest, h2, h3⟩ := gF_ok hA f0 xs k hk n
  have e : mn n k = k := if_neg (by omega)
  rw [e] at h1 h2 h3
  obtain ⟨R, er, sr⟩ := hr (zs xs n) (zs_up xs n) (zs_map xs n)
  obtain ⟨p1, s1⟩ := outR_st (is_turn hA) k _ h1
  obtain ⟨R2, p2, s2⟩ := sort_ex hA rest
  have sAll : St K (zs xs n) ((outR (fun x y => A y x) k (gF A f0 xs k n)).reverse ++ R2) := by
    refine ⟨(((List.reverse_perm _).trans p1).append p2).trans h2, List.pairwise_append.2 ⟨?_, s2, fun x hx y hy => ?_⟩⟩
    · rw [List.pairwise_reverse]
      exact s1.imp (fun {a b} h => h)
    · exact h3 x (p1.subset (List.mem_reverse.1 hx)) y (p2.subset hy)
  have eR := sr.uniq sAll (zs_up xs n).dst
  rw [← er, eR, ← List.map_take, List.take_append_of_le_length (by rw [List.length_reverse, p1.length_eq, el_len]; exact Nat.le_refl _), List.take_of_length_le (by rw [List.length_reverse, p1.length_eq, el_len]; exact Nat.le_refl _), List.map_reverse, outR_map]
end Go.Proofs.Ytcgpjmpppajfdaa.Rv
