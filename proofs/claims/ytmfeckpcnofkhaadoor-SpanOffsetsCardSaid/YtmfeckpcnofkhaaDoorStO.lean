/- The walk of the reference's date. -/
import Derived.Test.YtmfeckpcnofkhaaDoorStN
namespace Go.Proofs.YtmfeckpcnofkhaaDoor
open Go.RowKit

set_option maxHeartbeats 4000000 in
set_option maxRecDepth 100000 in
theorem rdate_short (s : ByteArray) (w : World) (h : s.size < 19) : Calls Tryd.prog 40 #[.string s] w fun e w' => e = .returned (.tuple #[.int .i64 0, .bool false]) ∧ Below w.heap.size w w' := by
  have hi : (s.size : Int) < 19 := by omega
  go_enter Tryd.func40, Tryd.ntmps40
  go_wp2
  go_ret2
  exact ⟨rfl, Below.refl _ _⟩
end Go.Proofs.YtmfeckpcnofkhaaDoor
