/- A bundle of texts. -/
import Derived.Test.YtebjklppbkkinaaGreatDoorBp25
/- Pair: the kinds of operators. -/
namespace Go.Proofs.YtebjklppbkkinaaGreatDoor.F
open Go.RowKit

/-- The fifteen operators, in their order. -/
def opL : Nat → List UInt8
  | 0 => [43] | 1 => [45] | 2 => [42] | 3 => [47] | 4 => [37] | 5 => [94]
  | 6 => [61, 61] | 7 => [33, 61] | 8 => [60] | 9 => [60, 61] | 10 => [62] | 11 => [62, 61]
  | 12 => [97, 110, 100] | 13 => [111, 114] | _ => [117, 110, 108, 101, 115, 115]
theorem opL_inj : ∀ i, i < 15 → ∀ j, j < 15 → opL i = opL j → i = j := by decide
/-- Which operator a text is; 15: none. -/
def opN (s : ByteArray) : Nat := ((List.range 15).find? (fun i => s.toList == opL i)).getD 15
def kn (s : ByteArray) : Nat := if opN s < 6 then 1 else if opN s < 12 then 2 else if opN s < 15 then 3 else 0
theorem opN_le (s : ByteArray) : opN s < 16 := by
  unfold opN
  cases h : (List.range 15).find? (fun i => s.toList == opL i) with
  | none => decide
  | some i => have := List.mem_of_find?_eq_some h; have := List.mem_range.1 this; simpa using by omega
theorem opN_eq (s : ByteArray) (i : Nat) (hi : i < 15) : (s.toList == opL i) = (i == opN s) := by
  unfold opN
  cases h : (List.range 15).find? (fun i => s.toList == opL i) with
  | none =>
    have h1 := List.find?_eq_none.1 h i (List.mem_range.2 hi)
    have h2 : (s.toList == opL i) = false := by simpa using h1
    rw [h2]
    symm
    exact beq_eq_false_iff_ne.2 (by simp; omega)
  | some k =>
    have h0 := List.find?_some h
    have hk := List.mem_range.1 (List.mem_of_find?_eq_some h)
    have h1 : s.toList = opL k := by simpa using h0
    rw [h1]
    by_cases e : i = k
    · subst e; simp
    · have : opL k ≠ opL i := fun x => e (opL_inj k hk i hi x).symm
      rw [beq_eq_false_iff_ne.2 this]
      symm
      exact beq_eq_false_iff_ne.2 (by simpa using e)
/-- All that a switch asks of an operator's text. -/
structure OpK (s : ByteArray) (k : Nat) : Prop where
  e0 : (s.toList == [43]) = (0 == k)
  e1 : (s.toList == [45]) = (1 == k)
  e2 : (s.toList == [42]) = (2 == k)
  e3 : (s.toList == [47]) = (3 == k)
  e4 : (s.toList == [37]) = (4 == k)
  e5 : (s.toList == [94]) = (5 == k)
  e6 : (s.toList == [61, 61]) = (6 == k)
  e7 : (s.toList == [33, 61]) = (7 == k)
  e8 : (s.toList == [60]) = (8 == k)
  e9 : (s.toList == [60, 61]) = (9 == k)
  e10 : (s.toList == [62]) = (10 == k)
  e11 : (s.toList == [62, 61]) = (11 == k)
  e12 : (s.toList == [97, 110, 100]) = (12 == k)
  e13 : (s.toList == [111, 114]) = (13 == k)
  e14 : (s.toList == [117, 110, 108, 101, 115, 115]) = (14 == k)
theorem opK (s : ByteArray) : OpK s (opN s) := ⟨opN_eq s 0 (by decide), opN_eq s 1 (by decide), opN_eq s 2 (by decide), opN_eq s 3 (by decide), opN_eq s 4 (by decide), opN_eq s 5 (by decide), opN_eq s 6 (by decide), opN_eq s 7 (by decide), opN_eq s 8 (by decide), opN_eq s 9 (by decide), opN_eq s 10 (by decide), opN_eq s 11 (by decide), opN_eq s 12 (by decide), opN_eq s 13 (by decide), opN_eq s 14 (by decide)⟩
theorem lt16 {k : Nat} (h : k < 16) : k = 0 ∨ k = 1 ∨ k = 2 ∨ k = 3 ∨ k = 4 ∨ k = 5 ∨ k = 6 ∨ k = 7 ∨ k = 8 ∨ k = 9 ∨ k = 10 ∨ k = 11 ∨ k = 12 ∨ k = 13 ∨ k = 14 ∨ k = 15 := by omega
def knN (k : Nat) : Nat := if k < 6 then 1 else if k < 12 then 2 else if k < 15 then 3 else 0

set_option maxHeartbeats 4000000 in
set_option maxRecDepth 100000 in
theorem kindOf_k (s : ByteArray) (k : Nat) (hk : k < 16) (h : OpK s k) (w : World) : Calls Tryz.prog 21 #[.string s] w fun r w' => r = .returned (.int .i64 (knN k)) ∧ w' = w := by
  obtain ⟨e0, e1, e2, e3, e4, e5, e6, e7, e8, e9, e10, e11, e12, e13, e14⟩ := h
  rcases lt16 hk with rfl | rfl | rfl | rfl | rfl | rfl | rfl | rfl | rfl | rfl | rfl | rfl | rfl | rfl | rfl | rfl
  all_goals
    simp only [Nat.reduceBEq] at e0 e1 e2 e3 e4 e5 e6 e7 e8 e9 e10 e11 e12 e13 e14
    go_enter Tryz.func21, Tryz.ntmps21
    go_wp2
    go_ret
    exact ⟨rfl, rfl⟩
set_option maxHeartbeats 4000000 in
set_option maxRecDepth 100000 in
theorem rkind_k (s : ByteArray) (k : Nat) (hk : k < 16) (h : OpK s k) (w : World) : Calls Tryz.prog 32 #[.string s] w fun r w' => r = .returned (.int .i64 (knN k)) ∧ w' = w := by
  obtain ⟨e0, e1, e2, e3, e4, e5, e6, e7, e8, e9, e10, e11, e12, e13, e14⟩ := h
  rcases lt16 hk with rfl | rfl | rfl | rfl | rfl | rfl | rfl | rfl | rfl | rfl | rfl | rfl | rfl | rfl | rfl | rfl
  all_goals
    simp only [Nat.reduceBEq] at e0 e1 e2 e3 e4 e5 e6 e7 e8 e9 e10 e11 e12 e13 e14
    go_enter Tryz.func32, Tryz.ntmps32
    go_wp2
    go_ret
    exact ⟨rfl, rfl⟩
end Go.Proofs.YtebjklppbkkinaaGreatDoor.F
/- Pair: the value of an operator; does it hold. -/
namespace Go.Proofs.YtebjklppbkkinaaGreatDoor.F
open Go.RowKit

/-- Both sides answer alike, of an operator and two floats. -/
def BothV (f g : FuncId) (s : ByteArray) (x y : Nat) (c : Option Nat) : Prop := (∀ w, Calls Tryz.prog f #[.string s, .float .f64 x, .float .f64 y] w (RF w c)) ∧ (∀ w, Calls Tryz.prog g #[.string s, .float .f64 x, .float .f64 y] w (RF w c))
set_option maxHeartbeats 4000000 in
set_option maxRecDepth 100000 in
theorem value_both (s : ByteArray) (k : Nat) (hk : k < 6) (h : OpK s k) (x y : Nat) (hx : x < 18446744073709551616) (hy : y < 18446744073709551616) : ∃ c, BothV 50 60 s x y c := by
  obtain ⟨e0, e1, e2, e3, e4, e5, e6, e7, e8, e9, e10, e11, e12, e13, e14⟩ := h
  have hs := @run_fsub Tryz.prog
  have ha := @run_fadd Tryz.prog
  have hm := @run_fmul Tryz.prog
  have hq := @run_fquo Tryz.prog
  obtain ⟨c5, p5, q5⟩ := pow_both x y hx hy
  rcases (show k = 0 ∨ k = 1 ∨ k = 2 ∨ k = 3 ∨ k = 4 ∨ k = 5 by omega) with rfl | rfl | rfl | rfl | rfl | rfl
  all_goals simp only [Nat.reduceBEq] at e0 e1 e2 e3 e4 e5 e6 e7 e8 e9 e10 e11 e12 e13 e14
  · refine ⟨fb .add (cl x) (cl y), fun w => ?_, fun w => ?_⟩
    · go_enter Tryz.func50, Tryz.ntmps50
      go_wp2
      go_ret
      exact ⟨_, _, rfl, rfl, fz_lt _ _ _ _, cl_fz _ _ _ _⟩
    · go_enter Tryz.func60, Tryz.ntmps60
      go_wp2
      go_ret
      exact ⟨_, _, rfl, rfl, fz_lt _ _ _ _, cl_fz _ _ _ _⟩
  · refine ⟨fb .sub (cl x) (cl y), fun w => ?_, fun w => ?_⟩
    · go_enter Tryz.func50, Tryz.ntmps50
      go_wp2
      go_ret
      exact ⟨_, _, rfl, rfl, fz_lt _ _ _ _, cl_fz _ _ _ _⟩
    · go_enter Tryz.func60, Tryz.ntmps60
      go_wp2
      go_ret
      exact ⟨_, _, rfl, rfl, fz_lt _ _ _ _, cl_fz _ _ _ _⟩
  · refine ⟨fb .mul (cl x) (cl y), fun w => ?_, fun w => ?_⟩
    · go_enter Tryz.func50, Tryz.ntmps50
      go_wp2
      go_ret
      exact ⟨_, _, rfl, rfl, fz_lt _ _ _ _, cl_fz _ _ _ _⟩
    · go_enter Tryz.func60, Tryz.ntmps60
      go_wp2
      go_ret
      exact ⟨_, _, rfl, rfl, fz_lt _ _ _ _, cl_fz _ _ _ _⟩
  · refine ⟨fb .quo (cl x) (cl y), fun w => ?_, fun w => ?_⟩
    · go_enter Tryz.func50, Tryz.ntmps50
      go_wp2
      go_ret
      exact ⟨_, _, rfl, rfl, fz_lt _ _ _ _, cl_fz _ _ _ _⟩
    · go_enter Tryz.func60, Tryz.ntmps60
      go_wp2
      go_ret
      exact ⟨_, _, rfl, rfl, fz_lt _ _ _ _, cl_fz _ _ _ _⟩
  · refine ⟨mdC x y, fun w => ?_, fun w => ?_⟩
    · go_enter Tryz.func50, Tryz.ntmps50
      go_wp2_with fail
      go_fit (calcMod_any x y hx hy _)
      rintro e w2 ⟨z, n, rfl, rfl, hz, hc⟩
      have HC : Hid (cl z = mdC x y) := hc
      clear hc
      go_wp2
      go_ret
      exact ⟨_, _, rfl, rfl, hz, HC.out⟩
    · go_enter Tryz.func60, Tryz.ntmps60
      go_wp2_with fail
      go_fit (rmod_any x y hx hy _)
      rintro e w2 ⟨z, n, rfl, rfl, hz, hc⟩
      have HC : Hid (cl z = mdC x y) := hc
      clear hc
      go_wp2
      go_ret
      exact ⟨_, _, rfl, rfl, hz, HC.out⟩
  · refine ⟨c5, fun w => ?_, fun w => ?_⟩
    · go_enter Tryz.func50, Tryz.ntmps50
      go_wp2_with fail
      go_fit (p5 _)
      rintro e w2 ⟨z, n, rfl, rfl, hz, hc⟩
      have HC : Hid (cl z = c5) := hc
      clear hc
      go_wp2
      go_ret
      exact ⟨_, _, rfl, rfl, hz, HC.out⟩
    · go_enter Tryz.func60, Tryz.ntmps60
      go_wp2_with fail
      go_fit (q5 _)
      rintro e w2 ⟨z, n, rfl, rfl, hz, hc⟩
      have HC : Hid (cl z = c5) := hc
      clear hc
      go_wp2
      go_ret
      exact ⟨_, _, rfl, rfl, hz, HC.out⟩

/-- Does a comparison hold? -/
def hdB (k x y : Nat) : Bool :=
  let o := FloatKind.f64.format.order x y
  if k = 6 then o == some .eq else if k = 7 then o != some .eq else if k = 8 then o == some .lt else if k = 9 then (o == some .lt || o == some .eq) else if k = 10 then o == some .gt else (o == some .gt || o == some .eq)
set_option maxHeartbeats 4000000 in
set_option maxRecDepth 100000 in
theorem holds_k (s : ByteArray) (k : Nat) (h6 : 6 ≤ k) (hk : k < 12) (h : OpK s k) (x y : Nat) (w : World) : Calls Tryz.prog 51 #[.string s, .float .f64 x, .float .f64 y] w fun r w' => r = .returned (.bool (hdB k x y)) ∧ w' = w := by
  obtain ⟨e0, e1, e2, e3, e4, e5, e6, e7, e8, e9, e10, e11, e12, e13, e14⟩ := h
  rcases (show k = 6 ∨ k = 7 ∨ k = 8 ∨ k = 9 ∨ k = 10 ∨ k = 11 by omega) with rfl | rfl | rfl | rfl | rfl | rfl
  all_goals
    simp only [Nat.reduceBEq] at e0 e1 e2 e3 e4 e5 e6 e7 e8 e9 e10 e11 e12 e13 e14
    go_enter Tryz.func51, Tryz.ntmps51
    go_wp2
    go_ret
    exact ⟨rfl, rfl⟩
set_option maxHeartbeats 4000000 in
set_option maxRecDepth 100000 in
theorem rholds_k (s : ByteArray) (k : Nat) (h6 : 6 ≤ k) (hk : k < 12) (h : OpK s k) (x y : Nat) (w : World) : Calls Tryz.prog 61 #[.string s, .float .f64 x, .float .f64 y] w fun r w' => r = .returned (.bool (hdB k x y)) ∧ w' = w := by
  obtain ⟨e0, e1, e2, e3, e4, e5, e6, e7, e8, e9, e10, e11, e12, e13, e14⟩ := h
  rcases (show k = 6 ∨ k = 7 ∨ k = 8 ∨ k = 9 ∨ k = 10 ∨ k = 11 by omega) with rfl | rfl | rfl | rfl | rfl | rfl
  all_goals
    simp only [Nat.reduceBEq] at e0 e1 e2 e3 e4 e5 e6 e7 e8 e9 e10 e11 e12 e13 e14
    go_enter Tryz.func61, Tryz.ntmps61
    go_wp2
    go_ret
    exact ⟨rfl, rfl⟩
end Go.Proofs.YtebjklppbkkinaaGreatDoor.F
/- Pair: an operation between two numbers; Scalars on both sides. -/
namespace Go.Proofs.YtebjklppbkkinaaGreatDoor.F
open Go.RowKit

/-- An operation as it is handed on. -/
def opV (s : ByteArray) (k : Nat) (y : Bool) : Value := .agg #[.string s, .int .i64 (knN k), .bool y]
/-- A float that may leave the heap grown. -/
def RG (w : World) (c : Option Nat) (r : Ending) (w' : World) : Prop := ∃ z, r = .returned (.float .f64 z) ∧ Below w.heap.size w w' ∧ z < 18446744073709551616 ∧ cl z = c
theorem knN_vals (k : Nat) : (k < 6 ∧ knN k = 1) ∨ (6 ≤ k ∧ k < 12 ∧ knN k = 2) ∨ (12 ≤ k ∧ k < 15 ∧ knN k = 3) ∨ (15 ≤ k ∧ knN k = 0) := by
  unfold knN
  by_cases h1 : k < 6
  · exact .inl ⟨h1, by simp [h1]⟩
  · by_cases h2 : k < 12
    · exact .inr (.inl ⟨by omega, h2, by simp [h1, h2]⟩)
    · by_cases h3 : k < 15
      · exact .inr (.inr (.inl ⟨by omega, h3, by simp [h1, h2, h3]⟩))
      · exact .inr (.inr (.inr ⟨by omega, by simp [h1, h2, h3]⟩))

set_option maxHeartbeats 2000000 in
set_option maxRecDepth 100000 in
theorem takes_any (s : ByteArray) (k : Nat) (y : Bool) (w : World) : Calls Tryz.prog 22 #[opV s k y] w fun r w' => r = .returned (.bool (decide (k < 12))) ∧ Below w.heap.size w w' := by
  have HB : Hid (∀ o, Below w.heap.size w (w.alloc o)) := fun o => (Below.refl _ w).alloc (Nat.le_refl _) o
  unfold opV
  rcases knN_vals k with ⟨h, e⟩ | ⟨h0, h, e⟩ | ⟨h0, h, e⟩ | ⟨h0, e⟩
  all_goals
    rw [e]
    first
    | rw [show decide (k < 12) = true from decide_eq_true (by omega)]
    | rw [show decide (k < 12) = false from decide_eq_false (by omega)]
    go_enter Tryz.func22, Tryz.ntmps22
    go_wp2
    go_ret
    exact ⟨rfl, HB.out _⟩
set_option maxHeartbeats 2000000 in
set_option maxRecDepth 100000 in
theorem filter_any (s : ByteArray) (k : Nat) (y : Bool) (w : World) : Calls Tryz.prog 52 #[opV s k y] w fun r w' => r = .returned (.bool (knN k == 2 && !y)) ∧ Below w.heap.size w w' := by
  have HB : Hid (∀ o, Below w.heap.size w (w.alloc o)) := fun o => (Below.refl _ w).alloc (Nat.le_refl _) o
  unfold opV
  rcases knN_vals k with ⟨h, e⟩ | ⟨h0, h, e⟩ | ⟨h0, h, e⟩ | ⟨h0, e⟩ <;> cases y
  all_goals
    rw [e]
    go_enter Tryz.func52, Tryz.ntmps52
    go_wp2
    go_ret
    exact ⟨rfl, HB.out _⟩
set_option maxHeartbeats 4000000 in
set_option maxRecDepth 100000 in
theorem between_arith (s : ByteArray) (k : Nat) (hk : k < 6) (yes : Bool) (x y p : Nat) (c : Option Nat) (hv : ∀ w, Calls Tryz.prog 50 #[.string s, .float .f64 x, .float .f64 y] w (RF w c)) (w : World) :
    Calls Tryz.prog 23 #[opV s k yes, .float .f64 x, .float .f64 y, .float .f64 p] w fun r w' => ∃ z, r = .returned (.tuple #[.float .f64 z, .bool true]) ∧ Below w.heap.size w w' ∧ z < 18446744073709551616 ∧ cl z = c := by
  have HB : Hid (∀ o n, Below w.heap.size w ((w.alloc o).drewN n)) := fun o n => below_drewN ((Below.refl _ w).alloc (Nat.le_refl _) o) n
  have HV : Hid (∀ w, Calls Tryz.prog 50 #[.string s, .float .f64 x, .float .f64 y] w (RF w c)) := hv
  have e : knN k = 1 := by unfold knN; simp [hk]
  unfold opV
  rw [e]
  clear hv hk e
  go_enter Tryz.func23, Tryz.ntmps23
  go_wp2_with fail
  go_fit (HV.out _)
  rintro e w2 ⟨z, n, rfl, rfl, hz, hc⟩
  have HC : Hid (cl z = c) := hc
  clear hc
  go_wp2
  go_ret2
  exact ⟨z, rfl, HB.out _ _, hz, HC.out⟩
/-- What a comparison answers. -/
def cmV (k : Nat) (yes : Bool) (x y p : Nat) : Nat × Bool := if yes = true then (if hdB k x y = true then 4607182418800017408 else 0, true) else (p, hdB k x y)
set_option maxHeartbeats 4000000 in
set_option maxRecDepth 100000 in
theorem between_cmp (s : ByteArray) (k : Nat) (h6 : 6 ≤ k) (hk : k < 12) (h : OpK s k) (yes : Bool) (x y p : Nat) (w : World) :
    Calls Tryz.prog 23 #[opV s k yes, .float .f64 x, .float .f64 y, .float .f64 p] w fun r w' => r = .returned (.tuple #[.float .f64 (cmV k yes x y p).1, .bool (cmV k yes x y p).2]) ∧ Below w.heap.size w w' := by
  have HB : Hid (∀ o, Below w.heap.size w (w.alloc o)) := fun o => (Below.refl _ w).alloc (Nat.le_refl _) o
  have HH := fun w => holds_k s k h6 hk h x y w
  have HF : ∀ w, _ := fun w => filter_any s k yes w
  have e : knN k = 2 := by unfold knN; simp [hk]; omega
  unfold opV at *
  simp only [e] at HF ⊢
  have HCM : Hid (cmV k yes x y p = if yes = true then (if hdB k x y = true then 4607182418800017408 else 0, true) else (p, hdB k x y)) := rfl
  clear h h6 hk e
  generalize hdB k x y = b at *
  generalize cmV k yes x y p = q at *
  go_enter Tryz.func23, Tryz.ntmps23
  go_wp2_with fail
  go_fit (HH _)
  rintro e w2 ⟨rfl, rfl⟩
  go_wp2_with fail
  go_fit (HF _)
  rintro e w3 ⟨rfl, b3⟩
  have B3 : Hid (Below w.heap.size w w3) := (HB.out _).trans (b3.mono (HB.out _).size)
  clear b3 HH HF
  cases yes
  · obtain rfl : q = (p, b) := by have := HCM.out; simpa using this
    go_wp2
    go_ret2
    exact ⟨rfl, B3.out⟩
  · cases b
    · obtain rfl : q = (0, true) := by have := HCM.out; simpa using this
      go_wp2
      go_ret2
      exact ⟨rfl, B3.out⟩
    · obtain rfl : q = (4607182418800017408, true) := by have := HCM.out; simpa using this
      go_wp2
      go_ret2
      exact ⟨rfl, B3.out⟩
end Go.Proofs.YtebjklppbkkinaaGreatDoor.F
/- Pair: Scalars on both sides; alike. -/
namespace Go.Proofs.YtebjklppbkkinaaGreatDoor.F
open Go.RowKit

theorem alike_c (a b : Nat) (h : cl a = cl b) (w : World) : Calls Tryz.prog 27 #[.float .f64 a, .float .f64 b] w fun r w' => r = .returned (.bool true) ∧ w' = w := by
  have h1 := callBits
  have ea := fo_self a
  have eb := fo_self b
  rcases alike_of h with ⟨ha, hb⟩ | rfl
  · rw [if_pos ha] at ea
    rw [if_pos hb] at eb
    go_enter Tryz.func27, Tryz.ntmps27
    go_wp2
    go_ret
    exact ⟨rfl, rfl⟩
  · by_cases ha : nanB a = true
    · rw [if_pos ha] at ea
      go_enter Tryz.func27, Tryz.ntmps27
      go_wp2
      go_ret
      exact ⟨rfl, rfl⟩
    · rw [if_neg ha] at ea
      go_enter Tryz.func27, Tryz.ntmps27
      go_wp2
      go_ret
      exact ⟨rfl, rfl⟩

/-- A number and an error. -/
def RN (w : World) (c : Option Nat) (e : Int) (r : Ending) (w' : World) : Prop := ∃ z, r = .returned (.tuple #[.float .f64 z, .int .i64 e]) ∧ Below w.heap.size w w' ∧ z < 18446744073709551616 ∧ cl z = c
theorem bcell {w w' : World} {g o : Nat} {v : Value} (b : Below w.heap.size w w') (h : w.cell? ⟨g, o, none⟩ = some v) (hg : g < w.heap.size) : w'.cell? ⟨g, o, none⟩ = some v := (b.cell (p := ⟨g, o, none⟩) hg).trans h
/-- An operation in a box. -/
abbrev opX (s : ByteArray) (q : Nat) (y : Bool) : Obj := .cells #[.string s, .int .i64 (q : Nat), .bool y] 56
def OpC (s : ByteArray) (q : Nat) (y : Bool) (B : Nat) (W : World) : Prop := W.cell? ⟨B, 0, none⟩ = some (.string s) ∧ W.cell? ⟨B, 1, none⟩ = some (.int .i64 (q : Nat)) ∧ W.cell? ⟨B, 2, none⟩ = some (.bool y)
theorem opC_new (s : ByteArray) (q : Nat) (y : Bool) (w : World) : ∀ W, Below (w.alloc (opX s q y)).heap.size (w.alloc (opX s q y)) W → OpC s q y w.heap.size W := fun W b => by
  have e0 : (w.alloc (opX s q y)).heap[w.heap.size]? = some (opX s q y) := heap_alloc_new w _
  have hb : w.heap.size < (w.alloc (opX s q y)).heap.size := by simp
  exact ⟨bcell b (by unfold World.cell?; rw [e0]; rfl) hb, bcell b (by unfold World.cell?; rw [e0]; rfl) hb, bcell b (by unfold World.cell?; rw [e0]; rfl) hb⟩

/-- What Scalars answers of a comparison. -/
def hdV (k x y : Nat) : Nat := if hdB k x y = true then 4607182418800017408 else 0
theorem hdV_lt (k x y : Nat) : hdV k x y < 18446744073709551616 := by unfold hdV; split <;> decide
theorem cmV_yes (k x y p : Nat) : cmV k true x y p = (hdV k x y, true) := by unfold cmV hdV; rfl
theorem opLast (w w3 w4 : World) (s : ByteArray) (q : Nat) (y : Bool) (b3 : Below (w.alloc (opX s q y)).heap.size (w.alloc (opX s q y)) w3) (b4 : Below w3.heap.size w3 w4) : Below w.heap.size w w4 :=
  ((Below.refl _ w).alloc (Nat.le_refl _) _).trans ((b3.trans (b4.mono b3.size)).mono (by simp))

set_option maxHeartbeats 4000000 in
set_option maxRecDepth 100000 in
theorem scalars_walk (s : ByteArray) (q x y : Nat) (c : Option Nat) (hk : ∀ w, Calls Tryz.prog 21 #[.string s] w fun r w' => r = .returned (.int .i64 (q : Nat)) ∧ w' = w)
    (ht : ∀ w, Calls Tryz.prog 22 #[.agg #[.string s, .int .i64 (q : Nat), .bool true]] w fun r w' => r = .returned (.bool true) ∧ Below w.heap.size w w')
    (hb : ∀ w, Calls Tryz.prog 23 #[.agg #[.string s, .int .i64 (q : Nat), .bool true], .float .f64 x, .float .f64 y, .float .f64 x] w fun r w' => ∃ z, r = .returned (.tuple #[.float .f64 z, .bool true]) ∧ Below w.heap.size w w' ∧ z < 18446744073709551616 ∧ cl z = c) (w : World) :
    Calls Tryz.prog 19 #[.string s, .float .f64 x, .float .f64 y] w (RN w c 0) := by
  have KK : Hid (∀ w, Calls Tryz.prog 21 #[.string s] w fun r w' => r = .returned (.int .i64 (q : Nat)) ∧ w' = w) := hk
  have KT : Hid (∀ w, Calls Tryz.prog 22 #[.agg #[.string s, .int .i64 (q : Nat), .bool true]] w fun r w' => r = .returned (.bool true) ∧ Below w.heap.size w w') := ht
  have KB : Hid (∀ w, Calls Tryz.prog 23 #[.agg #[.string s, .int .i64 (q : Nat), .bool true], .float .f64 x, .float .f64 y, .float .f64 x] w fun r w' => ∃ z, r = .returned (.tuple #[.float .f64 z, .bool true]) ∧ Below w.heap.size w w' ∧ z < 18446744073709551616 ∧ cl z = c) := hb
  clear hk ht hb
  go_enter Tryz.func19, Tryz.ntmps19
  go_wp2_with fail
  go_fit (KK.out _)
  rintro e w2 ⟨rfl, rfl⟩
  go_wp2_with fail
  go_fit (KT.out _)
  rintro e w3 ⟨rfl, b3⟩
  obtain ⟨c0, c1, c2⟩ := opC_new s q true w2 w3 b3
  have B3 : Hid (Below (w2.alloc (opX s q true)).heap.size (w2.alloc (opX s q true)) w3) := b3
  clear b3
  go_wp2_with fail
  go_fit (KB.out _)
  rintro e w4 ⟨z, rfl, b4, hz, hc⟩
  have HR : Hid (RN w2 c 0 (.returned (.tuple #[.float .f64 z, .int .i64 0])) w4) := ⟨z, rfl, opLast w2 w3 w4 s q true B3.out b4, hz, hc⟩
  clear b4 hz hc
  go_wp2
  go_ret2
  exact HR.out
set_option maxHeartbeats 4000000 in
set_option maxRecDepth 100000 in
theorem scalars_none (s : ByteArray) (k x y : Nat) (h12 : 12 ≤ k) (h16 : k < 16) (h : OpK s k) (w : World) :
    Calls Tryz.prog 19 #[.string s, .float .f64 x, .float .f64 y] w (RN w (some 0) 7) := by
  have KK : Hid (∀ w, Calls Tryz.prog 21 #[.string s] w fun r w' => r = .returned (.int .i64 (knN k)) ∧ w' = w) := (show ∀ w, _ from fun w => kindOf_k s k h16 h w)
  have KT : Hid (∀ w, Calls Tryz.prog 22 #[.agg #[.string s, .int .i64 (knN k), .bool true]] w fun r w' => r = .returned (.bool false) ∧ Below w.heap.size w w') := (show ∀ w, _ from fun w => (takes_any s k true w).mono fun r w' q => by rw [show decide (k < 12) = false from decide_eq_false (by omega)] at q; exact q)
  generalize knN k = q at *
  clear h h12 h16
  go_enter Tryz.func19, Tryz.ntmps19
  go_wp2_with fail
  go_fit (KK.out _)
  rintro e w2 ⟨rfl, rfl⟩
  go_wp2_with fail
  go_fit (KT.out _)
  rintro e w3 ⟨rfl, b3⟩
  have HR : Hid (RN w2 (some 0) 7 (.returned (.tuple #[.float .f64 0, .int .i64 7])) w3) := ⟨0, rfl, opLast w2 w3 w3 s q true b3 (Below.refl _ _), by decide, by decide +kernel⟩
  clear b3
  go_wp2
  go_ret2
  exact HR.out
theorem yesNo_any (b : Bool) (w : World) : Calls Tryz.prog 62 #[.bool b] w fun r w' => r = .returned (.float .f64 (if b = true then 4607182418800017408 else 0)) ∧ w' = w := by
  cases b
  · go_enter Tryz.func62, Tryz.ntmps62
    go_wp2
    go_ret
    exact ⟨rfl, rfl⟩
  · go_enter Tryz.func62, Tryz.ntmps62
    go_wp2
    go_ret
    exact ⟨rfl, rfl⟩
end Go.Proofs.YtebjklppbkkinaaGreatDoor.F
