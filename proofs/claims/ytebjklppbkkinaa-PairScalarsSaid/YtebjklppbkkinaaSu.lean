/- Sum on both sides. -/
import Derived.Test.YtebjklppbkkinaaBa
namespace Go.Proofs.Ytebjklppbkkinaa
open Go.RowKit

/-- A value hidden from the walk. -/
def Hid (p : Prop) : Prop := p
theorem Hid.out {p : Prop} (h : Hid p) : p := h

def geB (x y : Option Nat) : Bool := (fo x y == some .gt) || (fo x y == some .eq)
/-- One step of Sum, on classes. -/
def smStep (st : Option Nat × Option Nat) (v : Option Nat) : Option Nat × Option Nat :=
  (fb .add st.1 v, if infB (fb .add st.1 v) = true then some 0 else if geB (ab st.1) (ab v) = true then fb .add st.2 (fb .add (fb .sub st.1 (fb .add st.1 v)) v) else fb .add st.2 (fb .add (fb .sub v (fb .add st.1 v)) st.1))
def sumS (l : List (Option Nat)) : Option Nat × Option Nat := l.foldl smStep (some 0, some 0)
def sumF (l : List (Option Nat)) : Option Nat := fb .add (sumS l).1 (sumS l).2
/-- The classes of words. -/
def cs (xs : List Nat) : List (Option Nat) := xs.map cl
theorem cs_len (xs : List Nat) : (cs xs).length = xs.length := by simp [cs]
theorem sumS_next (xs : List Nat) (i : Nat) (hi : i < xs.length) : sumS ((cs xs).take (i + 1)) = smStep (sumS ((cs xs).take i)) (cl (xs.getD i 0)) := by
  unfold sumS
  rw [List.take_succ_eq_append_getElem (by rw [cs_len]; exact hi), List.foldl_append]
  simp [cs, List.getD, hi]
theorem sumS_all (xs : List Nat) : sumS ((cs xs).take xs.length) = sumS (cs xs) := by
  rw [List.take_of_length_le (by rw [cs_len]; exact Nat.le_refl _)]
theorem geB_cl (a b : Nat) : geB (ab (cl a)) (ab (cl b)) = (FloatKind.f64.format.order (a % 9223372036854775808) (b % 9223372036854775808) == some .gt || FloatKind.f64.format.order (a % 9223372036854775808) (b % 9223372036854775808) == some .eq) := by
  unfold geB
  rw [fo_cl, cl_ab, cl_ab]

/-- What a function that answers a float answers: a word of that class; the world has drawn. -/
def RF (w : World) (c : Option Nat) (r : Ending) (w' : World) : Prop := ∃ z k, r = .returned (.float .f64 z) ∧ w' = w.drewN k ∧ z < 18446744073709551616 ∧ cl z = c

end Go.Proofs.Ytebjklppbkkinaa
