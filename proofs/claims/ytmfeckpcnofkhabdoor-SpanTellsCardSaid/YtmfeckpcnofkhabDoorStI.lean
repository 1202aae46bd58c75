/- The walks of the reference's two and offset. -/
import Derived.Test.YtmfeckpcnofkhabDoorStD
namespace Go.Proofs.YtmfeckpcnofkhabDoor
open Go.RowKit

/-- The number of the two digits at a place. -/
def d2 (s : ByteArray) (i : Nat) : Int := (bt s i - 48) * 10 + (bt s (i + 1) - 48)
/-- The ms of an hour and a minute, if they are in their ranges. -/
def hmR (m : Bool) (h mi : Int) : Int × Bool := if 0 ≤ h ∧ h ≤ 23 ∧ 0 ≤ mi ∧ mi ≤ 59 then (if m = true then -(h * 3600000 + mi * 60000) else h * 3600000 + mi * 60000, true) else (0, false)
end Go.Proofs.YtmfeckpcnofkhabDoor
