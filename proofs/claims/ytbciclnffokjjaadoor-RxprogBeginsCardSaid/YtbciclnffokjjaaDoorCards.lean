/-
  DERIVED. GIVEN WITH THE SEED: THE CARDS: each row of YtbciclnffokjjaaDoorRows.lean that lists a variable, with what it lists TIED to the program's text (the seventh form; the later family's looks); each row that meets fmt, with fmt's text TOLD by the authors' own Lean function (tested against real Go, not proved from fmt's source: count such statements apart). THE CARD IS WHAT COUNTS. Prove the row's statement (the work); the ties are given (YtbciclnffokjjaaDoorTie.lean); close each card by the builder's one call (the guide's Derived/Test/ToyasCard.lean, 'card_holds'). Laid BY PROGRAM, IN A SANDBOX (cutbox-door.mjs). By AI agents, Wed Nov 11 2026. No macro, syntax, notation, axiom, sorry.
-/
import Derived.Test.YtbciclnffokjjaaDoorRows
import GoSem.ClaimSeven
namespace Go.Proofs.YtbciclnffokjjaaDoor
namespace Rows

/-- THE TIED CARD OF 'weirlaw09.RxprogBegins'. -/
def rxprogBeginsCard : Claim7 := { stood := { row := rxprogBeginsRow, standIns := [], harness := (true, "a928769898a858acbaab4cc302ae47292df5ac06a0878208b3061a5258486a95"), looks := true }, kinds := [], alts := [], laidByText := true, laidKinds := [.data, .pinned], laidTests := true, laidLooks := .later }
def RxprogBeginsCardSaid : Prop := Claim7.holds Tryd.pinned (.plain (OpenSpec.ofChange rxprogBeginsSpec)) rxprogBeginsCard

/-- THE SECOND FORM's CARD OF 'weirlaw09.RxprogBegins'. -/
def rxprogBeginsUptoCard : Claim7 := { stood := { row := rxprogBeginsUptoRow, standIns := [], harness := (true, "a928769898a858acbaab4cc302ae47292df5ac06a0878208b3061a5258486a95"), looks := true }, kinds := [], alts := [], laidByText := true, laidKinds := [.data, .pinned], laidTests := true, laidLooks := .later }
def RxprogBeginsUptoCardSaid : Prop := Claim7.holds Tryd.pinned (.plain (OpenSpec.upto rxprogBeginsSpec)) rxprogBeginsUptoCard
end Rows
end Go.Proofs.YtbciclnffokjjaaDoor
