
/- awake. -/
import Derived.Test.YtcgpjmpppajfdabIa
namespace Go.Proofs.Ytcgpjmpppajfdab
open Go.RowKit

theorem two_first (f0 : Nat → Rk) : (riseF (inO lsK) (up (riseF (inO lsK) (up f0 0 ((2, 1), ((0 : Nat) : Int))) 0) 1 ((1, 2), ((1 : Nat) : Int))) 1) 0 = ((1, 2), 1) := by
  rw [riseF_zero, riseF_yes _ _ 1 (by decide) (by
    rw [up_same, up_other _ _ _ _ (by decide), show (1 - 1) / 2 = 0 from rfl, up_same]
    decide), show (1 - 1) / 2 = 0 from rfl, riseF_zero]
  unfold swp
  rw [up_same, up_same]
  rfl

end Go.Proofs.Ytcgpjmpppajfdab
