/- Pair: the kinds of operators. -/
import Derived.Test.YtebjklppbkkinaaMu
namespace Go.Proofs.Ytebjklppbkkinaa
open Go.RowKit

/-- The fifteen operators, in their order. -/
def opL : Nat → List UInt8
  | 0 => [43] | 1 => [45] | 2 => [42] | 3 => [47] | 4 => [37] | 5 => [94]
  | 6 => [61, 61] | 7 => [33, 61] | 8 => [60] | 9 => [60, 61] | 10 => [62] | 11 => [62, 61]
  | 12 => [97, 110, 100] | 13 => [111, 114] | _ => [117, 110, 108, 101, 115, 115]
theorem opL_inj : ∀ i, i < 15 → ∀ j, j < 15 → opL i = opL j → i = j := by decide
/-- Which operator a text is; 15: none. -/
def opN (s : ByteArray) : Nat := ((List.range 15).find? (fun i => s.toList == opL i)).getD 15
def kn (s : ByteArray) : Nat := if opN s < 6 then 1 else if opN s < 12 then 2 else if opN s < 15 then 3 else 0
theorem opN_le (s : ByteArray) : opN s < 16 := by
  unfold opN
  cases h : (List.range 15).find? (fun i => s.toList == opL i) with
  | none => decide
  | some i => have := List.mem_of_find?_eq_some h; have := List.mem_range.1 this; simpa using by omega
theorem opN_eq (s : ByteArray) (i : Nat) (hi : i < 15) : (s.toList == opL i) = (i == opN s) := by
  unfold opN
  cases h : (List.range 15).find? (fun i => s.toList == opL i) with
  | none =>
    have h1 := List.find?_eq_none.1 h i (List.mem_range.2 hi)
    have h2 : (s.toList == opL i) = false := by simpa using h1
    rw [h2]
    symm
    exact beq_eq_false_iff_ne.2 (by simp; omega)
  | some k =>
    have h0 := List.find?_some h
    have hk := List.mem_range.1 (List.mem_of_find?_eq_some h)
    have h1 : s.toList = opL k := by simpa using h0
    rw [h1]
    by_cases e : i = k
    · subst e; simp
    · have : opL k ≠ opL i := fun x => e (opL_inj k hk i hi x).symm
      rw [beq_eq_false_iff_ne.2 this]
      symm
      exact beq_eq_false_iff_ne.2 (by simpa using e)
/-- All that a switch asks of an operator's text. -/
structure OpK (s : ByteArray) (k : Nat) : Prop where
  e0 : (s.toList == [43]) = (0 == k)
  e1 : (s.toList == [45]) = (1 == k)
  e2 : (s.toList == [42]) = (2 == k)
  e3 : (s.toList == [47]) = (3 == k)
  e4 : (s.toList == [37]) = (4 == k)
  e5 : (s.toList == [94]) = (5 == k)
  e6 : (s.toList == [61, 61]) = (6 == k)
  e7 : (s.toList == [33, 61]) = (7 == k)
  e8 : (s.toList == [60]) = (8 == k)
  e9 : (s.toList == [60, 61]) = (9 == k)
  e10 : (s.toList == [62]) = (10 == k)
  e11 : (s.toList == [62, 61]) = (11 == k)
  e12 : (s.toList == [97, 110, 100]) = (12 == k)
  e13 : (s.toList == [111, 114]) = (13 == k)
  e14 : (s.toList == [117, 110, 108, 101, 115, 115]) = (14 == k)
theorem opK (s : ByteArray) : OpK s (opN s) := ⟨opN_eq s 0 (by decide), opN_eq s 1 (by decide), opN_eq s 2 (by decide), opN_eq s 3 (by decide), opN_eq s 4 (by decide), opN_eq s 5 (by decide), opN_eq s 6 (by decide), opN_eq s 7 (by decide), opN_eq s 8 (by decide), opN_eq s 9 (by decide), opN_eq s 10 (by decide), opN_eq s 11 (by decide), opN_eq s 12 (by decide), opN_eq s 13 (by decide), opN_eq s 14 (by decide)⟩
theorem lt16 {k : Nat} (h : k < 16) : k = 0 ∨ k = 1 ∨ k = 2 ∨ k = 3 ∨ k = 4 ∨ k = 5 ∨ k = 6 ∨ k = 7 ∨ k = 8 ∨ k = 9 ∨ k = 10 ∨ k = 11 ∨ k = 12 ∨ k = 13 ∨ k = 14 ∨ k = 15 := by omega
def knN (k : Nat) : Nat := if k < 6 then 1 else if k < 12 then 2 else if k < 15 then 3 else 0

set_option maxHeartbeats 4000000 in
set_option maxRecDepth 100000 in
theorem kindOf_k (s : ByteArray) (k : Nat) (hk : k < 16) (h : OpK s k) (w : World) : Calls Try.prog 7 #[.string s] w fun r w' => r = .returned (.int .i64 (knN k)) ∧ w' = w := by
  obtain ⟨e0, e1, e2, e3, e4, e5, e6, e7, e8, e9, e10, e11, e12, e13, e14⟩ := h
  rcases lt16 hk with rfl | rfl | rfl | rfl | rfl | rfl | rfl | rfl | rfl | rfl | rfl | rfl | rfl | rfl | rfl | rfl
  all_goals
    simp only [Nat.reduceBEq] at e0 e1 e2 e3 e4 e5 e6 e7 e8 e9 e10 e11 e12 e13 e14
    go_enter Try.func7, Try.ntmps7
    go_wp2
    go_ret
    exact ⟨rfl, rfl⟩
set_option maxHeartbeats 4000000 in
set_option maxRecDepth 100000 in
theorem rkind_k (s : ByteArray) (k : Nat) (hk : k < 16) (h : OpK s k) (w : World) : Calls Try.prog 10 #[.string s] w fun r w' => r = .returned (.int .i64 (knN k)) ∧ w' = w := by
  obtain ⟨e0, e1, e2, e3, e4, e5, e6, e7, e8, e9, e10, e11, e12, e13, e14⟩ := h
  rcases lt16 hk with rfl | rfl | rfl | rfl | rfl | rfl | rfl | rfl | rfl | rfl | rfl | rfl | rfl | rfl | rfl | rfl
  all_goals
    simp only [Nat.reduceBEq] at e0 e1 e2 e3 e4 e5 e6 e7 e8 e9 e10 e11 e12 e13 e14
    go_enter Try.func10, Try.ntmps10
    go_wp2
    go_ret
    exact ⟨rfl, rfl⟩
end Go.Proofs.Ytebjklppbkkinaa
