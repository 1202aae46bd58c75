/- Labels: the order of lists is an order. -/
import Derived.Test.YtjmninjaoemhjaaDoorCa
namespace Go.Proofs.YtjmninjaoemhjaaDoor
open Go.RowKit

/-- What an order answers. -/
structure Od {α : Type} (c : α → α → Int) : Prop where
  rng : ∀ x y, c x y = -1 ∨ c x y = 0 ∨ c x y = 1
  anti : ∀ x y, c y x = - c x y
  eq : ∀ x y, c x y = 0 ↔ x = y
  lt : ∀ x y z, c x y ≤ 0 → c y z ≤ 0 → c x z ≤ 0
/-- Lists, by the first difference. -/
def lx {α : Type} (c : α → α → Int) : List α → List α → Int
  | [], [] => 0
  | [], _ :: _ => -1
  | _ :: _, [] => 1
  | x :: l, y :: m => if c x y = 0 then lx c l m else c x y
theorem lx_rng {α : Type} {c : α → α → Int} (h : Od c) : ∀ x y, lx c x y = -1 ∨ lx c x y = 0 ∨ lx c x y = 1
  | [], [] => .inr (.inl rfl)
  | [], _ :: _ => .inl rfl
  | _ :: _, [] => .inr (.inr rfl)
  | x :: l, y :: m => by
    unfold lx
    split
    · exact lx_rng h l m
    · exact h.rng x y
theorem lx_anti {α : Type} {c : α → α → Int} (h : Od c) : ∀ x y, lx c y x = - lx c x y
  | [], [] => rfl
  | [], _ :: _ => rfl
  | _ :: _, [] => rfl
  | x :: l, y :: m => by
    have e := h.anti x y
    unfold lx
    by_cases h0 : c x y = 0
    · rw [if_pos (by omega), if_pos h0]
      exact lx_anti h l m
    · rw [if_neg (by omega), if_neg h0, e]
theorem lx_eq {α : Type} {c : α → α → Int} (h : Od c) : ∀ x y, lx c x y = 0 ↔ x = y
  | [], [] => by simp [lx]
  | [], _ :: _ => by simp [lx]
  | _ :: _, [] => by simp [lx]
  | x :: l, y :: m => by
    have e := h.eq x y
    have ih := lx_eq h l m
    unfold lx
    by_cases h0 : c x y = 0
    · rw [if_pos h0, ih, List.cons.injEq]
      exact ⟨fun k => ⟨e.1 h0, k⟩, fun k => k.2⟩
    · rw [if_neg h0, List.cons.injEq]
      exact ⟨fun k => absurd k h0, fun k => absurd (e.2 k.1) h0⟩
theorem lx_lt {α : Type} {c : α → α → Int} (h : Od c) : ∀ x y z, lx c x y ≤ 0 → lx c y z ≤ 0 → lx c x z ≤ 0
  | [], _, [], _, _ => by simp [lx]
  | [], _, _ :: _, _, _ => by simp [lx]
  | _ :: _, [], _, h1, _ => by simp [lx] at h1
  | _ :: _, _ :: _, [], _, h2 => by simp [lx] at h2
  | x :: l, y :: m, z :: n, h1, h2 => by
    unfold lx at h1 h2 ⊢
    have t := h.lt x y z
    by_cases a : c x y = 0
    · rw [if_pos a] at h1
      obtain rfl := (h.eq x y).1 a
      by_cases b : c x z = 0
      · rw [if_pos b] at h2 ⊢
        exact lx_lt h l m n h1 h2
      · rw [if_neg b] at h2 ⊢
        exact h2
    · rw [if_neg a] at h1
      by_cases b : c y z = 0
      · obtain rfl := (h.eq y z).1 b
        rw [if_neg a]
        exact h1
      · rw [if_neg b] at h2
        have t2 := t h1 h2
        by_cases d : c x z = 0
        · exfalso
          obtain rfl := (h.eq x z).1 d
          have := h.anti x y
          have r := h.rng x y
          omega
        · rw [if_neg d]
          exact t2
theorem lx_od {α : Type} {c : α → α → Int} (h : Od c) : Od (lx c) := ⟨lx_rng h, lx_anti h, lx_eq h, lx_lt h⟩
def bc (a b : UInt8) : Int := if a < b then -1 else if b < a then 1 else 0
theorem bc_nat (a b : UInt8) : bc a b = if a.toNat < b.toNat then -1 else if b.toNat < a.toNat then 1 else 0 := by
  unfold bc
  simp only [UInt8.lt_iff_toNat_lt]
theorem bc_od : Od bc := by
  refine ⟨fun x y => ?_, fun x y => ?_, fun x y => ?_, fun x y z h1 h2 => ?_⟩
  · rw [bc_nat]
    repeat' split
    all_goals simp
  · rw [bc_nat, bc_nat]
    repeat' split
    all_goals omega
  · rw [bc_nat, ← UInt8.toNat_inj]
    repeat' split
    all_goals omega
  · rw [bc_nat] at h1 h2 ⊢
    repeat' split at h1
    all_goals repeat' split at h2
    all_goals repeat' split
    all_goals omega
theorem cb_lx : ∀ l m : List UInt8, Lib.compareBytes l m = lx bc l m
  | [], [] => rfl
  | [], _ :: _ => rfl
  | _ :: _, [] => rfl
  | a :: l, b :: m => by
    have ih := cb_lx l m
    unfold Lib.compareBytes lx
    by_cases h1 : a < b
    · have e : bc a b = -1 := by unfold bc; rw [if_pos h1]
      rw [if_pos h1, e]
      rfl
    · by_cases h2 : b < a
      · have e : bc a b = 1 := by unfold bc; rw [if_neg h1, if_pos h2]
        rw [if_neg h1, if_pos h2, e]
        rfl
      · have e : bc a b = 0 := by unfold bc; rw [if_neg h1, if_neg h2]
        rw [if_neg h1, if_neg h2, e, ih]
        rfl
theorem od_od : Od od := by
  have h := lx_od bc_od
  refine ⟨fun x y => ?_, fun x y => ?_, fun x y => ?_, fun x y z h1 h2 => ?_⟩
  · unfold od; rw [cb_lx]; exact h.rng _ _
  · unfold od; rw [cb_lx, cb_lx]; exact h.anti _ _
  · unfold od
    rw [cb_lx, h.eq]
    constructor
    · intro e
      rw [ByteArray.ext_iff]
      exact Array.toList_inj.1 e
    · rintro rfl
      rfl
  · unfold od at h1 h2 ⊢
    rw [cb_lx] at h1 h2 ⊢
    exact h.lt _ _ _ h1 h2
theorem o2_od : Od o2 := by
  have h := od_od
  refine ⟨fun x y => ?_, fun x y => ?_, fun x y => ?_, fun x y z h1 h2 => ?_⟩
  · unfold o2
    split
    · exact h.rng _ _
    · exact h.rng _ _
  · unfold o2
    have a1 := h.anti x.1 y.1
    have a2 := h.anti x.2 y.2
    by_cases e : od x.1 y.1 = 0
    · rw [if_pos (by omega), if_pos e, a2]
    · rw [if_neg (by omega), if_neg e, a1]
  · unfold o2
    by_cases e : od x.1 y.1 = 0
    · rw [if_pos e, h.eq, Prod.ext_iff]
      exact ⟨fun k => ⟨(h.eq _ _).1 e, k⟩, fun k => k.2⟩
    · rw [if_neg e, Prod.ext_iff]
      exact ⟨fun k => absurd k e, fun k => absurd ((h.eq _ _).2 k.1) e⟩
  · unfold o2 at h1 h2 ⊢
    by_cases a : od x.1 y.1 = 0
    · rw [if_pos a] at h1
      have ea := (h.eq _ _).1 a
      by_cases b : od y.1 z.1 = 0
      · rw [if_pos b] at h2
        rw [ea, if_pos b]
        exact h.lt _ _ _ h1 h2
      · rw [if_neg b] at h2
        rw [ea, if_neg b]
        exact h2
    · rw [if_neg a] at h1
      by_cases b : od y.1 z.1 = 0
      · have eb := (h.eq _ _).1 b
        rw [← eb, if_neg a]
        exact h1
      · rw [if_neg b] at h2
        have t2 := h.lt _ _ _ h1 h2
        by_cases d : od x.1 z.1 = 0
        · exfalso
          have ed := (h.eq _ _).1 d
          rw [← ed] at h2 b
          have := h.anti x.1 y.1
          omega
        · rw [if_neg d]
          exact t2
/-- The labels from a place on. -/
def lst (f : Nat → Lb) (i : Nat) : Nat → List Lb
  | 0 => []
  | k + 1 => f i :: lst f (i + 1) k
theorem cmF_lx (f g : Nat → Lb) (m : Nat) : ∀ k i, i ≤ m → cmF f g m k i = lx o2 (lst f i k) (lst g i (m - i))
  | 0, i, hi => by
    unfold cmF
    by_cases h : i < m
    · rw [if_pos h, show m - i = (m - i - 1) + 1 by omega]
      rfl
    · rw [if_neg h, show m - i = 0 by omega]
      rfl
  | k + 1, i, hi => by
    unfold cmF
    by_cases h : i < m
    · rw [if_pos h, cmF_lx f g m k (i + 1) (by omega), show m - i = (m - (i + 1)) + 1 by omega]
      rfl
    · rw [if_neg h, show m - i = 0 by omega]
      rfl
theorem cm_lx (f g : Nat → Lb) (n m : Nat) : cm f n g m = lx o2 (lst f 0 n) (lst g 0 m) := cmF_lx f g m n 0 (Nat.zero_le _)
theorem cm_rng (f g : Nat → Lb) (n m : Nat) : cm f n g m = -1 ∨ cm f n g m = 0 ∨ cm f n g m = 1 := by rw [cm_lx]; exact lx_rng o2_od _ _
theorem cm_anti (f g : Nat → Lb) (n m : Nat) : cm g m f n = - cm f n g m := by rw [cm_lx, cm_lx]; exact lx_anti o2_od _ _
theorem cm_trans (f g h : Nat → Lb) (n m k : Nat) (h1 : cm f n g m ≤ 0) (h2 : cm g m h k ≤ 0) : cm f n h k ≤ 0 ∧ (cm f n h k = 0 → cm f n g m = 0 ∧ cm g m h k = 0) := by
  rw [cm_lx] at h1 h2 ⊢
  rw [cm_lx, cm_lx]
  refine ⟨lx_lt o2_od _ _ _ h1 h2, fun e => ?_⟩
  have ee := (lx_eq o2_od _ _).1 e
  rw [← ee] at h2 ⊢
  have := lx_anti o2_od (lst f 0 n) (lst g 0 m)
  omega
theorem lst_len (f : Nat → Lb) : ∀ k i, (lst f i k).length = k
  | 0, _ => rfl
  | k + 1, i => by
    show (lst f (i + 1) k).length + 1 = _
    rw [lst_len f k]
theorem lst_eq (f g : Nat → Lb) : ∀ k i, lst f i k = lst g i k ↔ ∀ j, i ≤ j → j < i + k → f j = g j
  | 0, i => by
    constructor
    · intro _ j h1 h2; omega
    · intro _; rfl
  | k + 1, i => by
    show f i :: lst f (i + 1) k = g i :: lst g (i + 1) k ↔ _
    rw [List.cons.injEq, lst_eq f g k (i + 1)]
    constructor
    · rintro ⟨a, b⟩ j h1 h2
      by_cases e : j = i
      · subst e; exact a
      · exact b j (by omega) (by omega)
    · intro h
      exact ⟨h i (by omega) (by omega), fun j h1 h2 => h j (by omega) (by omega)⟩
theorem cm_zero (f g : Nat → Lb) (n m : Nat) : cm f n g m = 0 ↔ n = m ∧ ∀ j, j < n → f j = g j := by
  rw [cm_lx, lx_eq o2_od]
  constructor
  · intro e
    have hl := congrArg List.length e
    rw [lst_len, lst_len] at hl
    subst hl
    exact ⟨rfl, fun j hj => (lst_eq f g n 0).1 e j (Nat.zero_le _) (by omega)⟩
  · rintro ⟨rfl, h⟩
    exact (lst_eq f g n 0).2 fun j _ hj => h j (by omega)
theorem cm_more (f g : Nat → Lb) (n : Nat) (h : ∀ j, j < n → f j = g j) : cm f n g (n + 1) = -1 := by
  have : ∀ k i, i + k = n → cmF f g (n + 1) k i = -1 := by
    intro k
    induction k with
    | zero =>
      intro i hi
      unfold cmF
      rw [if_pos (by omega)]
    | succ k ih =>
      intro i hi
      unfold cmF
      rw [if_pos (by omega), if_pos ((o2_od.eq _ _).2 (h i (by omega)))]
      exact ih (i + 1) (by omega)
  exact this n 0 (by omega)
end Go.Proofs.YtjmninjaoemhjaaDoor
