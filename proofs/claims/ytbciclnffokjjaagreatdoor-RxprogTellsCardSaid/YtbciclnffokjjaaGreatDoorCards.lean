/-
  DERIVED. GIVEN WITH THE SEED: THE CARDS: each row of YtbciclnffokjjaaGreatDoorRows.lean that lists a variable, with what it lists TIED to the program's text (the seventh form; the later family's looks); each row that meets fmt, with fmt's text TOLD by the authors' own Lean function (tested against real Go, not proved from fmt's source: count such statements apart). THE CARD IS WHAT COUNTS. Prove the row's statement (the work); the ties are given (YtbciclnffokjjaaGreatDoorTie.lean); close each card by the builder's one call (the guide's Derived/Test/ToyasCard.lean, 'card_holds'). Laid BY PROGRAM, IN A SANDBOX (cutbox-door.mjs). By AI agents, Wed Nov 11 2026. No macro, syntax, notation, axiom, sorry.
-/
import Derived.Test.YtbciclnffokjjaaGreatDoorRows
import GoSem.ClaimSeven
namespace Go.Proofs.YtbciclnffokjjaaGreatDoor
namespace Rows

/-- THE TIED CARD OF 'weirlaw09.RxprogTells'. -/
def rxprogTellsCard : Claim7 := { stood := { row := rxprogTellsRow, standIns := [], harness := (true, "6a2e19621ba363bae7e93bbc4a909047c36d3ee06fdc313183a6047d613574c1"), looks := true }, kinds := [], alts := [], laidByText := true, laidKinds := [.data, .pinned], laidTests := true, laidLooks := .later }
def RxprogTellsCardSaid : Prop := Claim7.holds Tryz.pinned (.plain (OpenSpec.ofChange rxprogTellsSpec)) rxprogTellsCard

/-- THE SECOND FORM's CARD OF 'weirlaw09.RxprogTells'. -/
def rxprogTellsUptoCard : Claim7 := { stood := { row := rxprogTellsUptoRow, standIns := [], harness := (true, "6a2e19621ba363bae7e93bbc4a909047c36d3ee06fdc313183a6047d613574c1"), looks := true }, kinds := [], alts := [], laidByText := true, laidKinds := [.data, .pinned], laidTests := true, laidLooks := .later }
def RxprogTellsUptoCardSaid : Prop := Claim7.holds Tryz.pinned (.plain (OpenSpec.upto rxprogTellsSpec)) rxprogTellsUptoCard
end Rows
end Go.Proofs.YtbciclnffokjjaaGreatDoor
