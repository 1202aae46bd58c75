/-
  DERIVED. GIVEN WITH THE SEED: THE CARDS: each row of YtjmninjaoemhjabDoorRows.lean that lists a variable, with what it lists TIED to the program's text (the seventh form; the later family's looks); each row that meets fmt, with fmt's text TOLD by the authors' own Lean function (tested against real Go, not proved from fmt's source: count such statements apart). THE CARD IS WHAT COUNTS. Prove the row's statement (the work); the ties are given (YtjmninjaoemhjabDoorTie.lean); close each card by the builder's one call (the guide's Derived/Test/ToyasCard.lean, 'card_holds'). Laid BY PROGRAM, IN A SANDBOX (cutbox-door.mjs). By AI agents, Wed Nov 11 2026. No macro, syntax, notation, axiom, sorry.
-/
import Derived.Test.YtjmninjaoemhjabDoorRows
import GoSem.ClaimSeven
namespace Go.Proofs.YtjmninjaoemhjabDoor
namespace Rows

/-- THE TIED CARD OF 'weirlaw16.LabelsKeys'. -/
def labelsKeysCard : Claim7 := { stood := { row := labelsKeysRow, standIns := [], harness := (true, "422e1ed7ced054a7e5a826c5a93e1693f087d6460581195f04ae8b5178e0c8d5"), looks := false }, kinds := [], alts := [], laidByText := true, laidKinds := [.data, .data, .data], laidTests := true, laidLooks := .later }
def LabelsKeysCardSaid : Prop := Claim7.holds Tryd.pinned (.plain (OpenSpec.ofChange labelsKeysSpec)) labelsKeysCard

/-- THE SECOND FORM's CARD OF 'weirlaw16.LabelsKeys'. -/
def labelsKeysUptoCard : Claim7 := { stood := { row := labelsKeysUptoRow, standIns := [], harness := (true, "422e1ed7ced054a7e5a826c5a93e1693f087d6460581195f04ae8b5178e0c8d5"), looks := false }, kinds := [], alts := [], laidByText := true, laidKinds := [.data, .data, .data], laidTests := true, laidLooks := .later }
def LabelsKeysUptoCardSaid : Prop := Claim7.holds Tryd.pinned (.plain (OpenSpec.upto labelsKeysSpec)) labelsKeysUptoCard
end Rows
end Go.Proofs.YtjmninjaoemhjabDoor
