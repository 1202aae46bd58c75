/- Several rows of floats that a call makes side by side. -/
import Derived.Test.YtebjklppbkkinaaOw
import Derived.Maps.AppendAt
namespace Go.Proofs.Ytebjklppbkkinaa
open Go.RowKit

/-- The block of a row, if it has one, is of the colour k. -/
def Co (col : Nat → Nat) (k : Nat) (v : Value) : Prop := ∀ g, v.ownBlock = some g → col g = k
theorem Co.nil (col : Nat → Nat) (k : Nat) : Co col k (.slice none 0 0) := fun g h => by simp [Value.ownBlock] at h

end Go.Proofs.Ytebjklppbkkinaa
