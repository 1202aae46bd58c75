/- The square root. -/
import Derived.Test.YtebjklppbkkinaaBa
import Derived.Test.YtebjklppbkkinaaSu
namespace Go.Proofs.Ytebjklppbkkinaa
open Go.RowKit Ieee

def fsq (c : Option Nat) : Option Nat := c.bind fun x => Ieee.double.sqrt x
theorem root_num (n : Nat) (a d : Datum) (h : a.root n = some d) : d.isNaN = false := by
  unfold Datum.root at h
  split at h
  · cases h
  · split at h
    · cases h
    · cases h; rfl
  · split at h
    · cases h; rfl
    · split at h
      · cases h
      · cases h; rfl
theorem sqrt_num {x r : Nat} (h : Ieee.double.sqrt x = some r) : nanB r = false ∧ r < 18446744073709551616 := by
  change (((Ieee.double.read x).root 54).map Ieee.double.write) = some r at h
  obtain ⟨d, hd, rfl⟩ := Option.map_eq_some_iff.1 h
  refine ⟨nanB_write d (root_num _ _ _ hd), ?_⟩
  have : FloatKind.f64.encode d < 18446744073709551616 := by simpa [Lit.wf] using encode_wf .f64 d
  exact this
theorem sqrt_nan {x : Nat} (h : nanB x = true) : Ieee.double.sqrt x = none := by
  unfold nanB at h
  show ((Ieee.double.read x).root 54).map Ieee.double.write = none
  have : (Ieee.double.read x).root 54 = none := by
    generalize Ieee.double.read x = d at *
    cases d <;> simp [Datum.isNaN] at h; rfl
  rw [this]; rfl
theorem sqrtRow (x : Nat) : Extern.MathSqrt.sqrt #[.float .f64 x] = (match FloatKind.f64.format.sqrt x with
    | some r => pure (.float .f64 r)
    | none => do pure (.float .f64 (← choose (.nanBits .f64 x x)))) := rfl
end Go.Proofs.Ytebjklppbkkinaa
