/- leastSquares and Line. -/
import Derived.Test.YtebjklppbkkinaaSa
import Derived.Test.YtebjklppbkkinaaWi
namespace Go.Proofs.Ytebjklppbkkinaa
open Go.RowKit

theorem cvi (n : Int) (w : World) : (convert 2 22 (.int .i64 n)).run Try.prog w = .ok (.float .f64 (iw n)) w := run_convert_int_float w 2 22 .i64 .f64 n (by rw [Try.underlying2]; rfl) Try.underlying22
theorem iw_lt (n : Int) : iw n < 18446744073709551616 := by
  have := floatOfInt_wf .f64 n
  unfold iw
  simpa [Lit.wf] using this
theorem iw_num (n : Int) : cl (iw n) = some (iw n) := cl_num (nanB_write_number _ _ _)

/-- The numbers of the line of least squares, by the times' differences and the values. -/
def xF (D : Nat → Int) (j : Nat) : Option Nat := fb .quo (some (iw (D j))) (some 4652007308841189376)
def yF (V : Nat → Nat) (j : Nat) : Option Nat := cl (V j)
def xyF (D : Nat → Int) (V : Nat → Nat) (j : Nat) : Option Nat := fb .mul (xF D j) (yF V j)
def xxF (D : Nat → Int) (j : Nat) : Option Nat := fb .mul (xF D j) (xF D j)
def lsS (D : Nat → Int) (V : Nat → Nat) (n : Nat) : Option Nat :=
  fb .quo (fb .sub (sumF ((List.range n).map (xyF D V))) (fb .quo (fb .mul (sumF ((List.range n).map (xF D))) (sumF ((List.range n).map (yF V)))) (some (nW n))))
    (fb .sub (sumF ((List.range n).map (xxF D))) (fb .quo (fb .mul (sumF ((List.range n).map (xF D))) (sumF ((List.range n).map (xF D)))) (some (nW n))))
def lsV (D : Nat → Int) (V : Nat → Nat) (n : Nat) : Option Nat :=
  fb .sub (fb .quo (sumF ((List.range n).map (yF V))) (some (nW n))) (fb .quo (fb .mul (lsS D V n) (sumF ((List.range n).map (xF D)))) (some (nW n)))

/-- What a function that answers two floats answers. -/
def RT (w : World) (c1 c2 : Option Nat) (r : Ending) (w' : World) : Prop := ∃ z1 z2, r = .returned (.tuple #[.float .f64 z1, .float .f64 z2]) ∧ Below w.heap.size w w' ∧ z1 < 18446744073709551616 ∧ z2 < 18446744073709551616 ∧ cl z1 = c1 ∧ cl z2 = c2

/-- Four rows side by side. -/
def Four (w : World) (G : Nat) (col : Nat → Nat) (i : Nat) (A0 A1 A2 A3 : Option Addr) (C0 C1 C2 C3 : Nat) (y0 y1 y2 y3 : List Nat) : Prop :=
  (Fr w G (.slice A0 i C0) y0 ∧ Co col 0 (.slice A0 i C0) ∧ y0.length = i) ∧ (Fr w G (.slice A1 i C1) y1 ∧ Co col 1 (.slice A1 i C1) ∧ y1.length = i) ∧
  (Fr w G (.slice A2 i C2) y2 ∧ Co col 2 (.slice A2 i C2) ∧ y2.length = i) ∧ (Fr w G (.slice A3 i C3) y3 ∧ Co col 3 (.slice A3 i C3) ∧ y3.length = i)

/-- Line. -/
def liS (D : Nat → Int) (V : Nat → Nat) (n : Nat) (lv : Bool) : Option Nat := if n = 0 then none else if lv = false then lsS D V n else if infB (cl (V 0)) = true then none else some 0
def liV (D : Nat → Int) (V : Nat → Nat) (n : Nat) (lv : Bool) : Option Nat := if n = 0 then none else if lv = false then lsV D V n else if infB (cl (V 0)) = true then none else cl (V 0)

end Go.Proofs.Ytebjklppbkkinaa
