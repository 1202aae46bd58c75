/- Turn and Beat. -/
import Derived.Test.YtebjklppbkkinaaLi
namespace Go.Proofs.Ytebjklppbkkinaa
open Go.RowKit

theorem run_farith {P : Program} (x y : Nat) (w : World) : (Op.floatArith .add .f64 x y).run P w = .ok (.float .f64 (fz .add x y w)) (w.drewN (fk .add x y)) := run_fadd 0 x y w
theorem run_cadd {P : Program} (t : TypeId) (a b c d : Nat) (w : World) : (binOp .add t (.complex .f64 a b) (.complex .f64 c d)).run P w =
    .ok (.complex .f64 (fz .add a c w) (fz .add b d (w.drewN (fk .add a c)))) (w.drewN (fk .add a c + fk .add b d)) := by
  simp [binOp, Op.complexOp, Op.Complex.arith, run_farith]

/-- The directions' parts. -/
def cw (k : Nat) : Nat := ([4607182418800017408, 4604544271217802189, 0, 13827916308072577997, 13830554455654793216, 13827916308072577997, 0, 4604544271217802189] : List Nat).getD k 0
def sw (k : Nat) : Nat := ([0, 4604544271217802189, 4607182418800017408, 4604544271217802189, 0, 13827916308072577997, 13830554455654793216, 13827916308072577997] : List Nat).getD k 0
theorem dir_at (k : Nat) (hk : k < 8) : dirs[k]? = some (.complex .f64 (cw k) (sw k)) := by
  rcases (show k = 0 ∨ k = 1 ∨ k = 2 ∨ k = 3 ∨ k = 4 ∨ k = 5 ∨ k = 6 ∨ k = 7 by omega) with rfl | rfl | rfl | rfl | rfl | rfl | rfl | rfl <;> rfl
theorem cw_num (k : Nat) (hk : k < 8) : cl (cw k) = some (cw k) := by
  rcases (show k = 0 ∨ k = 1 ∨ k = 2 ∨ k = 3 ∨ k = 4 ∨ k = 5 ∨ k = 6 ∨ k = 7 by omega) with rfl | rfl | rfl | rfl | rfl | rfl | rfl | rfl <;> exact cl_lit _ (by decide)
theorem sw_num (k : Nat) (hk : k < 8) : cl (sw k) = some (sw k) := by
  rcases (show k = 0 ∨ k = 1 ∨ k = 2 ∨ k = 3 ∨ k = 4 ∨ k = 5 ∨ k = 6 ∨ k = 7 by omega) with rfl | rfl | rfl | rfl | rfl | rfl | rfl | rfl <;> exact cl_lit _ (by decide)

/-- Turn's sums. -/
def trS (D : Nat → Int) (V : Nat → Nat) (p : Int) : Nat → Option Nat × Option Nat
  | 0 => (some 0, some 0)
  | i + 1 => (fb .add (trS D V p i).1 (fb .mul (cl (V i)) (some (cw (eg (D i) p).toNat))), fb .add (trS D V p i).2 (fb .mul (cl (V i)) (some (sw (eg (D i) p).toNat))))
def tuF (D : Nat → Int) (V : Nat → Nat) (n : Nat) (p : Int) : Option Nat × Option Nat := if prB p = true then trS D V p n else (some 0, some 0)
def RC (w : World) (c : Option Nat × Option Nat) (r : Ending) (w' : World) : Prop := ∃ z1 z2, r = .returned (.complex .f64 z1 z2) ∧ Below w.heap.size w w' ∧ z1 < 18446744073709551616 ∧ z2 < 18446744073709551616 ∧ (cl z1, cl z2) = c

/-- Beat. -/
def beF (D : Nat → Int) (V : Nat → Nat) (n : Nat) (p : Int) : Option Nat :=
  if n = 0 then none else if prB p = false then none
  else fb .quo (fsq (fb .add (fb .mul (tuF D V n p).1 (tuF D V n p).1) (fb .mul (tuF D V n p).2 (tuF D V n p).2))) (some (nW n))

end Go.Proofs.Ytebjklppbkkinaa
