/-
  DERIVED. GIVEN WITH THE SEED: THE CARDS: each row of YtmfeckpcnofkhaaDoorRows.lean that lists a variable, with what it lists TIED to the program's text (the seventh form; the later family's looks); each row that meets fmt, with fmt's text TOLD by the authors' own Lean function (tested against real Go, not proved from fmt's source: count such statements apart). THE CARD IS WHAT COUNTS. Prove the row's statement (the work); the ties are given (YtmfeckpcnofkhaaDoorTie.lean); close each card by the builder's one call (the guide's Derived/Test/ToyasCard.lean, 'card_holds'). Laid BY PROGRAM, IN A SANDBOX (cutbox-door.mjs). By AI agents, Wed Nov 11 2026. No macro, syntax, notation, axiom, sorry.
-/
import Derived.Test.YtmfeckpcnofkhaaDoorRows
import GoSem.ClaimSeven
namespace Go.Proofs.YtmfeckpcnofkhaaDoor
namespace Rows

/-- THE TIED CARD OF 'weirlaw03.SpanDays'. -/
def spanDaysCard : Claim7 := { stood := { row := spanDaysRow, standIns := [], harness := (true, "6cf02cbd0bb90ac9a701a749969890d5340655b8bc25303b8181055ea8dc996d"), looks := false }, kinds := [], alts := [], laidByText := true, laidKinds := [.data], laidTests := true, laidLooks := .later }
def SpanDaysCardSaid : Prop := Claim7.holds Tryd.pinned (.plain (OpenSpec.ofChange spanDaysSpec)) spanDaysCard

/-- THE TIED CARD OF 'weirlaw03.SpanMoments'. -/
def spanMomentsCard : Claim7 := { stood := { row := spanMomentsRow, standIns := [], harness := (true, "6cf02cbd0bb90ac9a701a749969890d5340655b8bc25303b8181055ea8dc996d"), looks := false }, kinds := [], alts := [], laidByText := true, laidKinds := [.data], laidTests := true, laidLooks := .later }
def SpanMomentsCardSaid : Prop := Claim7.holds Tryd.pinned (.plain (OpenSpec.ofChange spanMomentsSpec)) spanMomentsCard

/-- THE TIED CARD OF 'weirlaw03.SpanDurations'. -/
def spanDurationsCard : Claim7 := { stood := { row := spanDurationsRow, standIns := [], harness := (true, "6cf02cbd0bb90ac9a701a749969890d5340655b8bc25303b8181055ea8dc996d"), looks := false }, kinds := [], alts := [], laidByText := true, laidKinds := [.data], laidTests := true, laidLooks := .later }
def SpanDurationsCardSaid : Prop := Claim7.holds Tryd.pinned (.plain (OpenSpec.ofChange spanDurationsSpec)) spanDurationsCard

/-- THE TIED CARD OF 'weirlaw03.SpanOffsets'. -/
def spanOffsetsCard : Claim7 := { stood := { row := spanOffsetsRow, standIns := [], harness := (true, "6cf02cbd0bb90ac9a701a749969890d5340655b8bc25303b8181055ea8dc996d"), looks := false }, kinds := [], alts := [], laidByText := true, laidKinds := [.data, .data, .data, .data, .data, .pinned], laidTests := true, laidLooks := .later }
def SpanOffsetsCardSaid : Prop := Claim7.holds Tryd.pinned (.plain (OpenSpec.ofChange spanOffsetsSpec)) spanOffsetsCard

/-- THE TIED CARD OF 'weirlaw03.SpanStamps'. -/
def spanStampsCard : Claim7 := { stood := { row := spanStampsRow, standIns := [], harness := (true, "6cf02cbd0bb90ac9a701a749969890d5340655b8bc25303b8181055ea8dc996d"), looks := false }, kinds := [], alts := [], laidByText := true, laidKinds := [.data, .data, .pinned], laidTests := true, laidLooks := .later }
def SpanStampsCardSaid : Prop := Claim7.holds Tryd.pinned (.plain (OpenSpec.ofChange spanStampsSpec)) spanStampsCard

/-- THE SECOND FORM's CARD OF 'weirlaw03.SpanDays'. -/
def spanDaysUptoCard : Claim7 := { stood := { row := spanDaysUptoRow, standIns := [], harness := (true, "6cf02cbd0bb90ac9a701a749969890d5340655b8bc25303b8181055ea8dc996d"), looks := false }, kinds := [], alts := [], laidByText := true, laidKinds := [.data], laidTests := true, laidLooks := .later }
def SpanDaysUptoCardSaid : Prop := Claim7.holds Tryd.pinned (.plain (OpenSpec.upto spanDaysSpec)) spanDaysUptoCard

/-- THE SECOND FORM's CARD OF 'weirlaw03.SpanMoments'. -/
def spanMomentsUptoCard : Claim7 := { stood := { row := spanMomentsUptoRow, standIns := [], harness := (true, "6cf02cbd0bb90ac9a701a749969890d5340655b8bc25303b8181055ea8dc996d"), looks := false }, kinds := [], alts := [], laidByText := true, laidKinds := [.data], laidTests := true, laidLooks := .later }
def SpanMomentsUptoCardSaid : Prop := Claim7.holds Tryd.pinned (.plain (OpenSpec.upto spanMomentsSpec)) spanMomentsUptoCard

/-- THE SECOND FORM's CARD OF 'weirlaw03.SpanDurations'. -/
def spanDurationsUptoCard : Claim7 := { stood := { row := spanDurationsUptoRow, standIns := [], harness := (true, "6cf02cbd0bb90ac9a701a749969890d5340655b8bc25303b8181055ea8dc996d"), looks := false }, kinds := [], alts := [], laidByText := true, laidKinds := [.data], laidTests := true, laidLooks := .later }
def SpanDurationsUptoCardSaid : Prop := Claim7.holds Tryd.pinned (.plain (OpenSpec.upto spanDurationsSpec)) spanDurationsUptoCard

/-- THE SECOND FORM's CARD OF 'weirlaw03.SpanOffsets'. -/
def spanOffsetsUptoCard : Claim7 := { stood := { row := spanOffsetsUptoRow, standIns := [], harness := (true, "6cf02cbd0bb90ac9a701a749969890d5340655b8bc25303b8181055ea8dc996d"), looks := false }, kinds := [], alts := [], laidByText := true, laidKinds := [.data, .data, .data, .data, .data, .pinned], laidTests := true, laidLooks := .later }
def SpanOffsetsUptoCardSaid : Prop := Claim7.holds Tryd.pinned (.plain (OpenSpec.upto spanOffsetsSpec)) spanOffsetsUptoCard

/-- THE SECOND FORM's CARD OF 'weirlaw03.SpanStamps'. -/
def spanStampsUptoCard : Claim7 := { stood := { row := spanStampsUptoRow, standIns := [], harness := (true, "6cf02cbd0bb90ac9a701a749969890d5340655b8bc25303b8181055ea8dc996d"), looks := false }, kinds := [], alts := [], laidByText := true, laidKinds := [.data, .data, .pinned], laidTests := true, laidLooks := .later }
def SpanStampsUptoCardSaid : Prop := Claim7.holds Tryd.pinned (.plain (OpenSpec.upto spanStampsSpec)) spanStampsUptoCard
end Rows
end Go.Proofs.YtmfeckpcnofkhaaDoor
