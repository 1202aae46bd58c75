
/- PileDrains: the walk. -/
import Derived.Test.YtcgpjmpppajfdaaPqa
import Derived.Test.YtcgpjmpppajfdaaPqb
import Derived.Test.YtcgpjmpppajfdaaPqc
import Derived.Test.YtcgpjmpppajfdaaPqd
import Derived.Test.YtcgpjmpppajfdaaPqe
import Derived.Test.YtcgpjmpppajfdaaPqf
import Derived.Test.YtcgpjmpppajfdaaPqg
namespace Go.Proofs.Ytcgpjmpppajfdaa
open Go.RowKit

theorem drains_walk (a : Option Addr) (c n : Nat) (s : Nat → Stp) (w : World) (hf : Tml w a s n) (hw : TW s n) (hl : n * 24 ≤ 140737488351232) :
    Calls Try.prog 8 #[.slice a n c] w fun r w' => r = .returned (.bool true) ∧ Below w.heap.size w w' :=
  drainsX.2 drains_0 drains_2 drains_1 drains_3 drains_4 drains_5 drains_e a c n s w hf hw hl
end Go.Proofs.Ytcgpjmpppajfdaa
