/-
  DERIVED. GIVEN WITH THE SEED: THE CARDS: each row of YtmfeckpcnofkhabDoorRows.lean that lists a variable, with what it lists TIED to the program's text (the seventh form; the later family's looks); each row that meets fmt, with fmt's text TOLD by the authors' own Lean function (tested against real Go, not proved from fmt's source: count such statements apart). THE CARD IS WHAT COUNTS. Prove the row's statement (the work); the ties are given (YtmfeckpcnofkhabDoorTie.lean); close each card by the builder's one call (the guide's Derived/Test/ToyasCard.lean, 'card_holds'). Laid BY PROGRAM, IN A SANDBOX (cutbox-door.mjs). By AI agents, Wed Nov 11 2026. No macro, syntax, notation, axiom, sorry.
-/
import Derived.Test.YtmfeckpcnofkhabDoorRows
import GoSem.ClaimSeven
namespace Go.Proofs.YtmfeckpcnofkhabDoor
namespace Rows

/-- THE TIED CARD OF 'weirlaw03.SpanBack'. -/
def spanBackCard : Claim7 := { stood := { row := spanBackRow, standIns := [], harness := (true, "a35e89ab6d31440933039bd798446a0889ab4fc4764121979d857efcefbc2760"), looks := false }, kinds := [], alts := [], laidByText := true, laidKinds := [.data, .data, .data, .data, .data, .pinned], laidTests := true, laidLooks := .later }
def SpanBackCardSaid : Prop := Claim7.holds Tryd.pinned (.plain (OpenSpec.ofChange spanBackSpec)) spanBackCard

/-- THE TIED CARD OF 'weirlaw03.SpanRound'. -/
def spanRoundCard : Claim7 := { stood := { row := spanRoundRow, standIns := [], harness := (true, "a35e89ab6d31440933039bd798446a0889ab4fc4764121979d857efcefbc2760"), looks := false }, kinds := [], alts := [], laidByText := true, laidKinds := [.data, .data, .data, .data, .data, .pinned], laidTests := true, laidLooks := .later }
def SpanRoundCardSaid : Prop := Claim7.holds Tryd.pinned (.plain (OpenSpec.ofChange spanRoundSpec)) spanRoundCard

/-- THE TIED CARD OF 'weirlaw03.SpanTells'. -/
def spanTellsCard : Claim7 := { stood := { row := spanTellsRow, standIns := [], harness := (true, "a35e89ab6d31440933039bd798446a0889ab4fc4764121979d857efcefbc2760"), looks := false }, kinds := [], alts := [], laidByText := true, laidKinds := [.data, .data, .data, .data, .data, .pinned], laidTests := true, laidLooks := .later }
def SpanTellsCardSaid : Prop := Claim7.holds Tryd.pinned (.plain (OpenSpec.ofChange spanTellsSpec)) spanTellsCard

/-- THE SECOND FORM's CARD OF 'weirlaw03.SpanBack'. -/
def spanBackUptoCard : Claim7 := { stood := { row := spanBackUptoRow, standIns := [], harness := (true, "a35e89ab6d31440933039bd798446a0889ab4fc4764121979d857efcefbc2760"), looks := false }, kinds := [], alts := [], laidByText := true, laidKinds := [.data, .data, .data, .data, .data, .pinned], laidTests := true, laidLooks := .later }
def SpanBackUptoCardSaid : Prop := Claim7.holds Tryd.pinned (.plain (OpenSpec.upto spanBackSpec)) spanBackUptoCard

/-- THE SECOND FORM's CARD OF 'weirlaw03.SpanRound'. -/
def spanRoundUptoCard : Claim7 := { stood := { row := spanRoundUptoRow, standIns := [], harness := (true, "a35e89ab6d31440933039bd798446a0889ab4fc4764121979d857efcefbc2760"), looks := false }, kinds := [], alts := [], laidByText := true, laidKinds := [.data, .data, .data, .data, .data, .pinned], laidTests := true, laidLooks := .later }
def SpanRoundUptoCardSaid : Prop := Claim7.holds Tryd.pinned (.plain (OpenSpec.upto spanRoundSpec)) spanRoundUptoCard

/-- THE SECOND FORM's CARD OF 'weirlaw03.SpanTells'. -/
def spanTellsUptoCard : Claim7 := { stood := { row := spanTellsUptoRow, standIns := [], harness := (true, "a35e89ab6d31440933039bd798446a0889ab4fc4764121979d857efcefbc2760"), looks := false }, kinds := [], alts := [], laidByText := true, laidKinds := [.data, .data, .data, .data, .data, .pinned], laidTests := true, laidLooks := .later }
def SpanTellsUptoCardSaid : Prop := Claim7.holds Tryd.pinned (.plain (OpenSpec.upto spanTellsSpec)) spanTellsUptoCard
end Rows
end Go.Proofs.YtmfeckpcnofkhabDoor
