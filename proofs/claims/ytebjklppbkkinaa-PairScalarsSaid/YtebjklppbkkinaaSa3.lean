/- Pair: an operation between two numbers; Scalars on both sides. -/
import Derived.Test.YtebjklppbkkinaaSa2
namespace Go.Proofs.Ytebjklppbkkinaa
open Go.RowKit

/-- An operation as it is handed on. -/
def opV (s : ByteArray) (k : Nat) (y : Bool) : Value := .agg #[.string s, .int .i64 (knN k), .bool y]
/-- A float that may leave the heap grown. -/
def RG (w : World) (c : Option Nat) (r : Ending) (w' : World) : Prop := ∃ z, r = .returned (.float .f64 z) ∧ Below w.heap.size w w' ∧ z < 18446744073709551616 ∧ cl z = c
theorem knN_vals (k : Nat) : (k < 6 ∧ knN k = 1) ∨ (6 ≤ k ∧ k < 12 ∧ knN k = 2) ∨ (12 ≤ k ∧ k < 15 ∧ knN k = 3) ∨ (15 ≤ k ∧ knN k = 0) := by
  unfold knN
  by_cases h1 : k < 6
  · exact .inl ⟨h1, by simp [h1]⟩
  · by_cases h2 : k < 12
    · exact .inr (.inl ⟨by omega, h2, by simp [h1, h2]⟩)
    · by_cases h3 : k < 15
      · exact .inr (.inr (.inl ⟨by omega, h3, by simp [h1, h2, h3]⟩))
      · exact .inr (.inr (.inr ⟨by omega, by simp [h1, h2, h3]⟩))

set_option maxHeartbeats 2000000 in
set_option maxRecDepth 100000 in
theorem takes_any (s : ByteArray) (k : Nat) (y : Bool) (w : World) : Calls Try.prog 8 #[opV s k y] w fun r w' => r = .returned (.bool (decide (k < 12))) ∧ Below w.heap.size w w' := by
  have HB : Hid (∀ o, Below w.heap.size w (w.alloc o)) := fun o => (Below.refl _ w).alloc (Nat.le_refl _) o
  unfold opV
  rcases knN_vals k with ⟨h, e⟩ | ⟨h0, h, e⟩ | ⟨h0, h, e⟩ | ⟨h0, e⟩
  all_goals
    rw [e]
    first
    | rw [show decide (k < 12) = true from decide_eq_true (by omega)]
    | rw [show decide (k < 12) = false from decide_eq_false (by omega)]
    go_enter Try.func8, Try.ntmps8
    go_wp2
    go_ret
    exact ⟨rfl, HB.out _⟩
set_option maxHeartbeats 2000000 in
set_option maxRecDepth 100000 in
theorem filter_any (s : ByteArray) (k : Nat) (y : Bool) (w : World) : Calls Try.prog 17 #[opV s k y] w fun r w' => r = .returned (.bool (knN k == 2 && !y)) ∧ Below w.heap.size w w' := by
  have HB : Hid (∀ o, Below w.heap.size w (w.alloc o)) := fun o => (Below.refl _ w).alloc (Nat.le_refl _) o
  unfold opV
  rcases knN_vals k with ⟨h, e⟩ | ⟨h0, h, e⟩ | ⟨h0, h, e⟩ | ⟨h0, e⟩ <;> cases y
  all_goals
    rw [e]
    go_enter Try.func17, Try.ntmps17
    go_wp2
    go_ret
    exact ⟨rfl, HB.out _⟩
set_option maxHeartbeats 4000000 in
set_option maxRecDepth 100000 in
theorem between_arith (s : ByteArray) (k : Nat) (hk : k < 6) (yes : Bool) (x y p : Nat) (c : Option Nat) (hv : ∀ w, Calls Try.prog 15 #[.string s, .float .f64 x, .float .f64 y] w (RF w c)) (w : World) :
    Calls Try.prog 9 #[opV s k yes, .float .f64 x, .float .f64 y, .float .f64 p] w fun r w' => ∃ z, r = .returned (.tuple #[.float .f64 z, .bool true]) ∧ Below w.heap.size w w' ∧ z < 18446744073709551616 ∧ cl z = c := by
  have HB : Hid (∀ o n, Below w.heap.size w ((w.alloc o).drewN n)) := fun o n => below_drewN ((Below.refl _ w).alloc (Nat.le_refl _) o) n
  have HV : Hid (∀ w, Calls Try.prog 15 #[.string s, .float .f64 x, .float .f64 y] w (RF w c)) := hv
  have e : knN k = 1 := by unfold knN; simp [hk]
  unfold opV
  rw [e]
  clear hv hk e
  go_enter Try.func9, Try.ntmps9
  go_wp2_with fail
  go_fit (HV.out _)
  rintro e w2 ⟨z, n, rfl, rfl, hz, hc⟩
  have HC : Hid (cl z = c) := hc
  clear hc
  go_wp2
  go_ret2
  exact ⟨z, rfl, HB.out _ _, hz, HC.out⟩
/-- What a comparison answers. -/
def cmV (k : Nat) (yes : Bool) (x y p : Nat) : Nat × Bool := if yes = true then (if hdB k x y = true then 4607182418800017408 else 0, true) else (p, hdB k x y)
set_option maxHeartbeats 4000000 in
set_option maxRecDepth 100000 in
theorem between_cmp (s : ByteArray) (k : Nat) (h6 : 6 ≤ k) (hk : k < 12) (h : OpK s k) (yes : Bool) (x y p : Nat) (w : World) :
    Calls Try.prog 9 #[opV s k yes, .float .f64 x, .float .f64 y, .float .f64 p] w fun r w' => r = .returned (.tuple #[.float .f64 (cmV k yes x y p).1, .bool (cmV k yes x y p).2]) ∧ Below w.heap.size w w' := by
  have HB : Hid (∀ o, Below w.heap.size w (w.alloc o)) := fun o => (Below.refl _ w).alloc (Nat.le_refl _) o
  have HH := fun w => holds_k s k h6 hk h x y w
  have HF : ∀ w, _ := fun w => filter_any s k yes w
  have e : knN k = 2 := by unfold knN; simp [hk]; omega
  unfold opV at *
  simp only [e] at HF ⊢
  have HCM : Hid (cmV k yes x y p = if yes = true then (if hdB k x y = true then 4607182418800017408 else 0, true) else (p, hdB k x y)) := rfl
  clear h h6 hk e
  generalize hdB k x y = b at *
  generalize cmV k yes x y p = q at *
  go_enter Try.func9, Try.ntmps9
  go_wp2_with fail
  go_fit (HH _)
  rintro e w2 ⟨rfl, rfl⟩
  go_wp2_with fail
  go_fit (HF _)
  rintro e w3 ⟨rfl, b3⟩
  have B3 : Hid (Below w.heap.size w w3) := (HB.out _).trans (b3.mono (HB.out _).size)
  clear b3 HH HF
  cases yes
  · obtain rfl : q = (p, b) := by have := HCM.out; simpa using this
    go_wp2
    go_ret2
    exact ⟨rfl, B3.out⟩
  · cases b
    · obtain rfl : q = (0, true) := by have := HCM.out; simpa using this
      go_wp2
      go_ret2
      exact ⟨rfl, B3.out⟩
    · obtain rfl : q = (4607182418800017408, true) := by have := HCM.out; simpa using this
      go_wp2
      go_ret2
      exact ⟨rfl, B3.out⟩
end Go.Proofs.Ytebjklppbkkinaa
