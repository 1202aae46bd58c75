/-
  DERIVED. GIVEN WITH THE SEED: THE CARDS: each row of YtnpgkiidpeaapaaDoorRows.lean that lists a variable, with what it lists TIED to the program's text (the seventh form; the later family's looks); each row that meets fmt, with fmt's text TOLD by the authors' own Lean function (tested against real Go, not proved from fmt's source: count such statements apart). THE CARD IS WHAT COUNTS. Prove the row's statement (the work); the ties are given (YtnpgkiidpeaapaaDoorTie.lean); close each card by the builder's one call (the guide's Derived/Test/ToyasCard.lean, 'card_holds'). Laid BY PROGRAM, IN A SANDBOX (cutbox-door.mjs). By AI agents, Wed Nov 11 2026. No macro, syntax, notation, axiom, sorry.
-/
import Derived.Test.YtnpgkiidpeaapaaDoorRows
import GoSem.ClaimSeven
namespace Go.Proofs.YtnpgkiidpeaapaaDoor
namespace Rows

/-- THE TIED CARD OF 'weirlaw10.RxRuns'. -/
def rxRunsCard : Claim7 := { stood := { row := rxRunsRow, standIns := [], harness := (true, "4910a6d6ce4ea25f42b4263d7979070d95141330d9cc45a9edc6e6edb6b20fc5"), looks := false }, kinds := [], alts := [], laidByText := true, laidKinds := [.data, .pinned], laidTests := true, laidLooks := .later }
def RxRunsCardSaid : Prop := Claim7.holds Tryd.pinned (.plain (OpenSpec.ofChange rxRunsSpec)) rxRunsCard

/-- THE SECOND FORM's CARD OF 'weirlaw10.RxRuns'. -/
def rxRunsUptoCard : Claim7 := { stood := { row := rxRunsUptoRow, standIns := [], harness := (true, "4910a6d6ce4ea25f42b4263d7979070d95141330d9cc45a9edc6e6edb6b20fc5"), looks := false }, kinds := [], alts := [], laidByText := true, laidKinds := [.data, .pinned], laidTests := true, laidLooks := .later }
def RxRunsUptoCardSaid : Prop := Claim7.holds Tryd.pinned (.plain (OpenSpec.upto rxRunsSpec)) rxRunsUptoCard
end Rows
end Go.Proofs.YtnpgkiidpeaapaaDoor
