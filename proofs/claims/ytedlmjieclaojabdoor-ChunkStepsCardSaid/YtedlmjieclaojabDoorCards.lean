/-
  DERIVED. GIVEN WITH THE SEED: THE CARDS: each row of YtedlmjieclaojabDoorRows.lean that lists a variable, with what it lists TIED to the program's text (the seventh form; the later family's looks); each row that meets fmt, with fmt's text TOLD by the authors' own Lean function (tested against real Go, not proved from fmt's source: count such statements apart). THE CARD IS WHAT COUNTS. Prove the row's statement (the work); the ties are given (YtedlmjieclaojabDoorTie.lean); close each card by the builder's one call (the guide's Derived/Test/ToyasCard.lean, 'card_holds'). Laid BY PROGRAM, IN A SANDBOX (cutbox-door.mjs). By AI agents, Wed Nov 11 2026. No macro, syntax, notation, axiom, sorry.
-/
import Derived.Test.YtedlmjieclaojabDoorRows
import GoSem.ClaimSeven
namespace Go.Proofs.YtedlmjieclaojabDoor
namespace Rows

/-- THE TIED CARD OF 'weirlaw17.ChunkSteps'. -/
def chunkStepsCard : Claim7 := { stood := { row := chunkStepsRow, standIns := [], harness := (true, "0b3bb6af563461b441f94459b01af7f46af6e155cdd880b36d6e38bbd16565d7"), looks := false }, kinds := [], alts := [], laidByText := true, laidKinds := [.data, .wider], laidTests := true, laidLooks := .later }
def ChunkStepsCardSaid : Prop := Claim7.holds Tryd.pinned (.plain (OpenSpec.ofChange chunkStepsSpec)) chunkStepsCard

/-- THE TIED CARD OF 'weirlaw17.ChunkReads'. -/
def chunkReadsCard : Claim7 := { stood := { row := chunkReadsRow, standIns := [], harness := (true, "0b3bb6af563461b441f94459b01af7f46af6e155cdd880b36d6e38bbd16565d7"), looks := false }, kinds := [], alts := [], laidByText := true, laidKinds := [.data, .wider], laidTests := true, laidLooks := .later }
def ChunkReadsCardSaid : Prop := Claim7.holds Tryd.pinned (.plain (OpenSpec.ofChange chunkReadsSpec)) chunkReadsCard

/-- THE SECOND FORM's CARD OF 'weirlaw17.ChunkSteps'. -/
def chunkStepsUptoCard : Claim7 := { stood := { row := chunkStepsUptoRow, standIns := [], harness := (true, "0b3bb6af563461b441f94459b01af7f46af6e155cdd880b36d6e38bbd16565d7"), looks := false }, kinds := [], alts := [], laidByText := true, laidKinds := [.data, .wider], laidTests := true, laidLooks := .later }
def ChunkStepsUptoCardSaid : Prop := Claim7.holds Tryd.pinned (.plain (OpenSpec.upto chunkStepsSpec)) chunkStepsUptoCard

/-- THE SECOND FORM's CARD OF 'weirlaw17.ChunkReads'. -/
def chunkReadsUptoCard : Claim7 := { stood := { row := chunkReadsUptoRow, standIns := [], harness := (true, "0b3bb6af563461b441f94459b01af7f46af6e155cdd880b36d6e38bbd16565d7"), looks := false }, kinds := [], alts := [], laidByText := true, laidKinds := [.data, .wider], laidTests := true, laidLooks := .later }
def ChunkReadsUptoCardSaid : Prop := Claim7.holds Tryd.pinned (.plain (OpenSpec.upto chunkReadsSpec)) chunkReadsUptoCard
end Rows
end Go.Proofs.YtedlmjieclaojabDoor
