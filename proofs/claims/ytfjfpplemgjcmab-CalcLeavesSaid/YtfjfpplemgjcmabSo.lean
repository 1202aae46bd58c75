/- Rows sorted in place: what keeps those alike in their order. -/
import Derived.Test.YtfjfpplemgjcmabRows
namespace Go.Proofs.Ytfjfpplemgjcmab

section
variable {E : Type} (k : E → Int)

/-- n things from a place on. -/
def seg (f : Nat → E) (a : Nat) : Nat → List E
  | 0 => []
  | n + 1 => f a :: seg f (a + 1) n
theorem seg_add (f : Nat → E) (a n m : Nat) : seg f a (n + m) = seg f a n ++ seg f (a + n) m := by
  induction n generalizing a with
  | zero => simp [seg]
  | succ n ih =>
    rw [Nat.add_right_comm, seg, seg, ih, List.cons_append, show a + 1 + n = a + (n + 1) by omega]
theorem seg_congr (f g : Nat → E) (a b n : Nat) (h : ∀ j, j < n → f (a + j) = g (b + j)) : seg f a n = seg g b n := by
  induction n generalizing a b with
  | zero => rfl
  | succ n ih =>
    rw [seg, seg, ih (a + 1) (b + 1) (fun j hj => by have := h (j + 1) (by omega); rw [show a + 1 + j = a + (j + 1) by omega, show b + 1 + j = b + (j + 1) by omega]; exact this)]
    have := h 0 (by omega)
    rw [Nat.add_zero, Nat.add_zero] at this
    rw [this]
theorem mem_seg (f : Nat → E) (a n : Nat) (e : E) : e ∈ seg f a n ↔ ∃ j, a ≤ j ∧ j < a + n ∧ e = f j := by
  induction n generalizing a with
  | zero => simp [seg]; intro j h1 h2; omega
  | succ n ih =>
    rw [seg, List.mem_cons, ih]
    constructor
    · rintro (rfl | ⟨j, h1, h2, h3⟩)
      · exact ⟨a, Nat.le_refl _, by omega, rfl⟩
      · exact ⟨j, by omega, by omega, h3⟩
    · rintro ⟨j, h1, h2, h3⟩
      by_cases h : j = a
      · subst h; exact .inl h3
      · exact .inr ⟨j, by omega, by omega, h3⟩
theorem seg_length (f : Nat → E) (a n : Nat) : (seg f a n).length = n := by
  induction n generalizing a with
  | zero => rfl
  | succ n ih => rw [seg, List.length_cons, ih]

/-- Those of one key stand alike. -/
def Sim (xs ys : List E) : Prop := ∀ v : Int, xs.filter (fun x => k x == v) = ys.filter (fun x => k x == v)
variable {k}
theorem Sim.refl (xs : List E) : Sim k xs xs := fun _ => rfl
theorem Sim.trans {xs ys zs : List E} (h1 : Sim k xs ys) (h2 : Sim k ys zs) : Sim k xs zs := fun v => (h1 v).trans (h2 v)
theorem Sim.symm {xs ys : List E} (h1 : Sim k xs ys) : Sim k ys xs := fun v => (h1 v).symm
theorem Sim.append {xs ys us vs : List E} (h1 : Sim k xs ys) (h2 : Sim k us vs) : Sim k (xs ++ us) (ys ++ vs) := fun v => by rw [List.filter_append, List.filter_append, h1 v, h2 v]
theorem Sim.mem {xs ys : List E} (h : Sim k xs ys) (e : E) (he : e ∈ xs) : e ∈ ys := by
  have : e ∈ xs.filter (fun x => k x == k e) := List.mem_filter.2 ⟨he, by simp⟩
  rw [h (k e)] at this
  exact (List.mem_filter.1 this).1
theorem filter_none {xs : List E} {v : Int} (h : ∀ x ∈ xs, k x ≠ v) : xs.filter (fun x => k x == v) = [] := by
  rw [List.filter_eq_nil_iff]
  intro x hx
  simpa using h x hx
theorem Sim.swap (X Y : List E) (h : ∀ x ∈ X, ∀ y ∈ Y, k x ≠ k y) : Sim k (X ++ Y) (Y ++ X) := fun v => by
  rw [List.filter_append, List.filter_append]
  by_cases hX : ∃ x ∈ X, k x = v
  · obtain ⟨x, hx, hv⟩ := hX
    have : Y.filter (fun x => k x == v) = [] := filter_none fun y hy hyv => h x hx y hy (hv.trans hyv.symm)
    rw [this, List.append_nil, List.nil_append]
  · have : X.filter (fun x => k x == v) = [] := filter_none fun x hx hv => hX ⟨x, hx, hv⟩
    rw [this, List.append_nil, List.nil_append]
/-- Sorted. -/
def Up (k : E → Int) (xs : List E) : Prop := xs.Pairwise fun x y => k x ≤ k y
/-- There is one such row. -/
theorem sim_one {xs ys : List E} (hs : Sim k xs ys) (hx : Up k xs) (hy : Up k ys) : xs = ys := by
  induction xs generalizing ys with
  | nil =>
    cases ys with
    | nil => rfl
    | cons y ys => exact absurd (hs.symm.mem y List.mem_cons_self) (by simp)
  | cons x xs ih =>
    cases ys with
    | nil => exact absurd (hs.mem x List.mem_cons_self) (by simp)
    | cons y ys =>
      have h1 : k x ≤ k y := by
        rcases List.mem_cons.1 (hs.symm.mem y List.mem_cons_self) with rfl | h
        · exact Int.le_refl _
        · exact (List.pairwise_cons.1 hx).1 y h
      have h2 : k y ≤ k x := by
        rcases List.mem_cons.1 (hs.mem x List.mem_cons_self) with rfl | h
        · exact Int.le_refl _
        · exact (List.pairwise_cons.1 hy).1 x h
      have hk : k x = k y := by omega
      have hv := hs (k x)
      simp only [List.filter_cons, hk, beq_self_eq_true, if_true] at hv
      injection hv with h3 h4
      subst h3
      have : Sim k xs ys := fun v => by
        have hv := hs v
        simp only [List.filter_cons] at hv
        split at hv
        · injection hv
        · exact hv
      rw [ih this (List.pairwise_cons.1 hx).2 (List.pairwise_cons.1 hy).2]

/-- Places a to b are put in another order, those alike as they stood. -/
def Stb (k : E → Int) (f f' : Nat → E) (a b : Nat) : Prop := (∀ j, j < a ∨ b ≤ j → f' j = f j) ∧ Sim k (seg f a (b - a)) (seg f' a (b - a))
theorem Stb.refl (f : Nat → E) (a b : Nat) : Stb k f f a b := ⟨fun _ _ => rfl, Sim.refl _⟩
theorem Stb.trans {f g h : Nat → E} {a b : Nat} (h1 : Stb k f g a b) (h2 : Stb k g h a b) : Stb k f h a b := ⟨fun j hj => (h2.1 j hj).trans (h1.1 j hj), h1.2.trans h2.2⟩
theorem Stb.wide {f g : Nat → E} {a b a' b' : Nat} (h : Stb k f g a b) (ha : a' ≤ a) (hab : a ≤ b) (hb : b ≤ b') : Stb k f g a' b' := by
  refine ⟨fun j hj => h.1 j (by omega), ?_⟩
  obtain ⟨x, rfl⟩ : ∃ x, a = a' + x := ⟨a - a', by omega⟩
  obtain ⟨y, rfl⟩ : ∃ y, b = a' + x + y := ⟨b - (a' + x), by omega⟩
  obtain ⟨z, rfl⟩ : ∃ z, b' = a' + x + y + z := ⟨b' - (a' + x + y), by omega⟩
  have e : a' + x + y + z - a' = x + (y + z) := by omega
  have e2 : a' + x + y - (a' + x) = y := by omega
  rw [e, seg_add, seg_add, seg_add, seg_add]
  refine Sim.append ?_ (Sim.append ?_ ?_)
  · rw [seg_congr f g a' a' x fun j hj => (h.1 _ (by omega)).symm]; exact Sim.refl _
  · have := h.2; rw [e2] at this; exact this
  · rw [seg_congr f g (a' + x + y) (a' + x + y) z fun j hj => (h.1 _ (by omega)).symm]; exact Sim.refl _
/-- What stands there stood there. -/
theorem Stb.from {f g : Nat → E} {a b : Nat} (h : Stb k f g a b) (j : Nat) (h1 : a ≤ j) (h2 : j < b) : ∃ i, a ≤ i ∧ i < b ∧ g j = f i := by
  have hm : g j ∈ seg g a (b - a) := (mem_seg _ _ _ _).2 ⟨j, h1, by omega, rfl⟩
  obtain ⟨i, h3, h4, h5⟩ := (mem_seg _ _ _ _).1 (h.2.symm.mem _ hm)
  exact ⟨i, h3, by omega, h5⟩

/-- The blocks from s to m and from m to e, exchanged. -/
def rot (f : Nat → E) (s m e : Nat) : Nat → E := fun j => if s ≤ j ∧ j < s + (e - m) then f (j - s + m) else if s + (e - m) ≤ j ∧ j < e then f (j - (e - m)) else f j
theorem rot_stb (f : Nat → E) (s m e : Nat) (h1 : s ≤ m) (h2 : m ≤ e) (h : ∀ i j, s ≤ i → i < m → m ≤ j → j < e → k (f i) ≠ k (f j)) : Stb k f (rot f s m e) s e := by
  constructor
  · intro j hj
    unfold rot
    rw [if_neg (by omega), if_neg (by omega)]
  · obtain ⟨x, rfl⟩ : ∃ x, m = s + x := ⟨m - s, by omega⟩
    obtain ⟨y, rfl⟩ : ∃ y, e = s + x + y := ⟨e - (s + x), by omega⟩
    have e1 : s + x + y - s = x + y := by omega
    have e2 : s + x + y - s = y + x := by omega
    rw [show seg f s (s + x + y - s) = seg f s x ++ seg f (s + x) y by rw [e1, seg_add], show seg (rot f s (s + x) (s + x + y)) s (s + x + y - s) = seg f (s + x) y ++ seg f s x by
      rw [e2, seg_add]
      congr 1
      · refine seg_congr _ _ _ _ _ fun j hj => ?_
        unfold rot
        rw [if_pos (by omega)]
        congr 1
        omega
      · refine seg_congr _ _ _ _ _ fun j hj => ?_
        unfold rot
        rw [if_neg (by omega), if_pos (by omega)]
        congr 1
        omega]
    refine Sim.swap _ _ fun u hu v hv => ?_
    obtain ⟨i, h3, h4, rfl⟩ := (mem_seg _ _ _ _).1 hu
    obtain ⟨j, h5, h6, rfl⟩ := (mem_seg _ _ _ _).1 hv
    exact h i j h3 h4 h5 (by omega)

def up (f : Nat → E) (i : Nat) (e : E) : Nat → E := fun j => if j = i then e else f j
/-- Two blocks of n things, exchanged. -/
def swb (f : Nat → E) (a b n : Nat) : Nat → E := fun j => if a ≤ j ∧ j < a + n then f (b + (j - a)) else if b ≤ j ∧ j < b + n then f (a + (j - b)) else f j
theorem swb_zero (f : Nat → E) (a b : Nat) : swb f a b 0 = f := by
  funext j; unfold swb; rw [if_neg (by omega), if_neg (by omega)]
theorem swb_succ (f : Nat → E) (a b i : Nat) (h : a + i < b) : up (up (swb f a b i) (a + i) (swb f a b i (b + i))) (b + i) (swb f a b i (a + i)) = swb f a b (i + 1) := by
  funext j
  unfold up swb
  repeat' split
  all_goals first | rfl | (exfalso; omega) | (congr 1; omega)
theorem rot_even (f : Nat → E) (m i : Nat) (h : i ≤ m) : swb f (m - i) m i = rot f (m - i) m (m + i) := by
  funext j
  unfold swb rot
  repeat' split
  all_goals first | rfl | (exfalso; omega) | (congr 1; omega)
theorem rot_left (f : Nat → E) (m i j : Nat) (h : i ≤ m) (hij : j < i) : rot (swb f (m - i) m j) (m - (i - j)) m (m + j) = rot f (m - i) m (m + j) := by
  funext x
  unfold rot swb
  repeat' split
  all_goals first | rfl | (exfalso; omega) | (congr 1; omega)
theorem rot_right (f : Nat → E) (m i j : Nat) (h : i ≤ m) (hij : i < j) : rot (swb f (m - i) (m + j - i) i) (m - i) m (m + (j - i)) = rot f (m - i) m (m + j) := by
  funext x
  unfold rot swb
  repeat' split
  all_goals first | rfl | (exfalso; omega) | (congr 1; omega)
theorem rot_empty (f : Nat → E) (s m e : Nat) (h : s = m ∨ m = e) (hs : s ≤ m) (he : m ≤ e) : rot f s m e = f := by
  funext x
  unfold rot
  repeat' split
  all_goals first | rfl | (exfalso; omega) | (congr 1; omega)
/-- One thing moved up. -/
theorem rot_up (f : Nat → E) (s e : Nat) (h : s < e) : up (up (rot f s (s + 1) e) (e - 1) (rot f s (s + 1) e e)) e (rot f s (s + 1) e (e - 1)) = rot f s (s + 1) (e + 1) := by
  funext x
  unfold up rot
  repeat' split
  all_goals first | rfl | (exfalso; omega) | (congr 1; omega)
/-- One thing moved down. -/
theorem rot_down (f : Nat → E) (s m : Nat) (h1 : 0 < s) (h : s ≤ m) : up (up (rot f s m (m + 1)) s (rot f s m (m + 1) (s - 1))) (s - 1) (rot f s m (m + 1) s) = rot f (s - 1) m (m + 1) := by
  funext x
  unfold up rot
  repeat' split
  all_goals first | rfl | (exfalso; omega) | (congr 1; omega)
end
end Go.Proofs.Ytfjfpplemgjcmab
