/-
  DERIVED. GIVEN WITH THE SEED: THE CARDS: each row of YtdnbkgbgpfmipabDoorRows.lean that lists a variable, with what it lists TIED to the program's text (the seventh form; the later family's looks); each row that meets fmt, with fmt's text TOLD by the authors' own Lean function (tested against real Go, not proved from fmt's source: count such statements apart). THE CARD IS WHAT COUNTS. Prove the row's statement (the work); the ties are given (YtdnbkgbgpfmipabDoorTie.lean); close each card by the builder's one call (the guide's Derived/Test/ToyasCard.lean, 'card_holds'). Laid BY PROGRAM, IN A SANDBOX (cutbox-door.mjs). By AI agents, Wed Nov 11 2026. No macro, syntax, notation, axiom, sorry.
-/
import Derived.Test.YtdnbkgbgpfmipabDoorRows
import GoSem.ClaimSeven
namespace Go.Proofs.YtdnbkgbgpfmipabDoor
namespace Rows

/-- THE TIED CARD OF 'weirlaw01.UtfJsonBack'. -/
def utfJsonBackCard : Claim7 := { stood := { row := utfJsonBackRow, standIns := [], harness := (true, "f11f1b039a4608ceae85cdaca9feaf87f848b9fa1fdb24b7aa659fd2a41013d5"), looks := false }, kinds := [], alts := [], laidByText := true, laidKinds := [.data, .pinned], laidTests := true, laidLooks := .later }
def UtfJsonBackCardSaid : Prop := Claim7.holds Tryd.pinned (.plain (OpenSpec.ofChange utfJsonBackSpec)) utfJsonBackCard

/-- THE TIED CARD OF 'weirlaw01.UtfSpells'. -/
def utfSpellsCard : Claim7 := { stood := { row := utfSpellsRow, standIns := [], harness := (true, "f11f1b039a4608ceae85cdaca9feaf87f848b9fa1fdb24b7aa659fd2a41013d5"), looks := false }, kinds := [], alts := [], laidByText := true, laidKinds := [.data, .pinned], laidTests := true, laidLooks := .later }
def UtfSpellsCardSaid : Prop := Claim7.holds Tryd.pinned (.plain (OpenSpec.ofChange utfSpellsSpec)) utfSpellsCard

/-- THE TIED CARD OF 'weirlaw01.UtfRunes'. -/
def utfRunesCard : Claim7 := { stood := { row := utfRunesRow, standIns := [], harness := (true, "f11f1b039a4608ceae85cdaca9feaf87f848b9fa1fdb24b7aa659fd2a41013d5"), looks := false }, kinds := [], alts := [], laidByText := true, laidKinds := [.data, .pinned], laidTests := true, laidLooks := .later }
def UtfRunesCardSaid : Prop := Claim7.holds Tryd.pinned (.plain (OpenSpec.ofChange utfRunesSpec)) utfRunesCard

/-- THE TIED CARD OF 'weirlaw01.UtfLiterals'. -/
def utfLiteralsCard : Claim7 := { stood := { row := utfLiteralsRow, standIns := [], harness := (true, "f11f1b039a4608ceae85cdaca9feaf87f848b9fa1fdb24b7aa659fd2a41013d5"), looks := false }, kinds := [], alts := [], laidByText := true, laidKinds := [.data, .pinned], laidTests := true, laidLooks := .later }
def UtfLiteralsCardSaid : Prop := Claim7.holds Tryd.pinned (.plain (OpenSpec.ofChange utfLiteralsSpec)) utfLiteralsCard

/-- THE TIED CARD OF 'weirlaw01.UtfWrites'. -/
def utfWritesCard : Claim7 := { stood := { row := utfWritesRow, standIns := [], harness := (true, "f11f1b039a4608ceae85cdaca9feaf87f848b9fa1fdb24b7aa659fd2a41013d5"), looks := false }, kinds := [], alts := [], laidByText := true, laidKinds := [.data, .pinned], laidTests := true, laidLooks := .later }
def UtfWritesCardSaid : Prop := Claim7.holds Tryd.pinned (.plain (OpenSpec.ofChange utfWritesSpec)) utfWritesCard

/-- THE SECOND FORM's CARD OF 'weirlaw01.UtfJsonBack'. -/
def utfJsonBackUptoCard : Claim7 := { stood := { row := utfJsonBackUptoRow, standIns := [], harness := (true, "f11f1b039a4608ceae85cdaca9feaf87f848b9fa1fdb24b7aa659fd2a41013d5"), looks := false }, kinds := [], alts := [], laidByText := true, laidKinds := [.data, .pinned], laidTests := true, laidLooks := .later }
def UtfJsonBackUptoCardSaid : Prop := Claim7.holds Tryd.pinned (.plain (OpenSpec.upto utfJsonBackSpec)) utfJsonBackUptoCard

/-- THE SECOND FORM's CARD OF 'weirlaw01.UtfSpells'. -/
def utfSpellsUptoCard : Claim7 := { stood := { row := utfSpellsUptoRow, standIns := [], harness := (true, "f11f1b039a4608ceae85cdaca9feaf87f848b9fa1fdb24b7aa659fd2a41013d5"), looks := false }, kinds := [], alts := [], laidByText := true, laidKinds := [.data, .pinned], laidTests := true, laidLooks := .later }
def UtfSpellsUptoCardSaid : Prop := Claim7.holds Tryd.pinned (.plain (OpenSpec.upto utfSpellsSpec)) utfSpellsUptoCard

/-- THE SECOND FORM's CARD OF 'weirlaw01.UtfRunes'. -/
def utfRunesUptoCard : Claim7 := { stood := { row := utfRunesUptoRow, standIns := [], harness := (true, "f11f1b039a4608ceae85cdaca9feaf87f848b9fa1fdb24b7aa659fd2a41013d5"), looks := false }, kinds := [], alts := [], laidByText := true, laidKinds := [.data, .pinned], laidTests := true, laidLooks := .later }
def UtfRunesUptoCardSaid : Prop := Claim7.holds Tryd.pinned (.plain (OpenSpec.upto utfRunesSpec)) utfRunesUptoCard

/-- THE SECOND FORM's CARD OF 'weirlaw01.UtfLiterals'. -/
def utfLiteralsUptoCard : Claim7 := { stood := { row := utfLiteralsUptoRow, standIns := [], harness := (true, "f11f1b039a4608ceae85cdaca9feaf87f848b9fa1fdb24b7aa659fd2a41013d5"), looks := false }, kinds := [], alts := [], laidByText := true, laidKinds := [.data, .pinned], laidTests := true, laidLooks := .later }
def UtfLiteralsUptoCardSaid : Prop := Claim7.holds Tryd.pinned (.plain (OpenSpec.upto utfLiteralsSpec)) utfLiteralsUptoCard

/-- THE SECOND FORM's CARD OF 'weirlaw01.UtfWrites'. -/
def utfWritesUptoCard : Claim7 := { stood := { row := utfWritesUptoRow, standIns := [], harness := (true, "f11f1b039a4608ceae85cdaca9feaf87f848b9fa1fdb24b7aa659fd2a41013d5"), looks := false }, kinds := [], alts := [], laidByText := true, laidKinds := [.data, .pinned], laidTests := true, laidLooks := .later }
def UtfWritesUptoCardSaid : Prop := Claim7.holds Tryd.pinned (.plain (OpenSpec.upto utfWritesSpec)) utfWritesUptoCard
end Rows
end Go.Proofs.YtdnbkgbgpfmipabDoor
