/-
  DERIVED. GIVEN WITH THE SEED: THE CARDS: each row of YtdnbkgbgpfmipaaDoorRows.lean that lists a variable, with what it lists TIED to the program's text (the seventh form; the later family's looks); each row that meets fmt, with fmt's text TOLD by the authors' own Lean function (tested against real Go, not proved from fmt's source: count such statements apart). THE CARD IS WHAT COUNTS. Prove the row's statement (the work); the ties are given (YtdnbkgbgpfmipaaDoorTie.lean); close each card by the builder's one call (the guide's Derived/Test/ToyasCard.lean, 'card_holds'). Laid BY PROGRAM, IN A SANDBOX (cutbox-door.mjs). By AI agents, Wed Nov 11 2026. No macro, syntax, notation, axiom, sorry.
-/
import Derived.Test.YtdnbkgbgpfmipaaDoorRows
import GoSem.ClaimSeven
namespace Go.Proofs.YtdnbkgbgpfmipaaDoor
namespace Rows

/-- THE TIED CARD OF 'weirlaw01.UtfJoins'. -/
def utfJoinsCard : Claim7 := { stood := { row := utfJoinsRow, standIns := [], harness := (true, "a6ca11feeb842b43cab1a55ec99d58dbd97fa609f3949dd23b2b8c9db89b40de"), looks := false }, kinds := [], alts := [], laidByText := true, laidKinds := [.data, .pinned], laidTests := true, laidLooks := .later }
def UtfJoinsCardSaid : Prop := Claim7.holds Tryd.pinned (.plain (OpenSpec.ofChange utfJoinsSpec)) utfJoinsCard

/-- THE TIED CARD OF 'weirlaw01.UtfNexts'. -/
def utfNextsCard : Claim7 := { stood := { row := utfNextsRow, standIns := [], harness := (true, "a6ca11feeb842b43cab1a55ec99d58dbd97fa609f3949dd23b2b8c9db89b40de"), looks := false }, kinds := [], alts := [], laidByText := true, laidKinds := [.data, .pinned], laidTests := true, laidLooks := .later }
def UtfNextsCardSaid : Prop := Claim7.holds Tryd.pinned (.plain (OpenSpec.ofChange utfNextsSpec)) utfNextsCard

/-- THE TIED CARD OF 'weirlaw01.UtfAlls'. -/
def utfAllsCard : Claim7 := { stood := { row := utfAllsRow, standIns := [], harness := (true, "a6ca11feeb842b43cab1a55ec99d58dbd97fa609f3949dd23b2b8c9db89b40de"), looks := false }, kinds := [], alts := [], laidByText := true, laidKinds := [.data, .pinned], laidTests := true, laidLooks := .later }
def UtfAllsCardSaid : Prop := Claim7.holds Tryd.pinned (.plain (OpenSpec.ofChange utfAllsSpec)) utfAllsCard

/-- THE TIED CARD OF 'weirlaw01.UtfPlaces'. -/
def utfPlacesCard : Claim7 := { stood := { row := utfPlacesRow, standIns := [], harness := (true, "a6ca11feeb842b43cab1a55ec99d58dbd97fa609f3949dd23b2b8c9db89b40de"), looks := false }, kinds := [], alts := [], laidByText := true, laidKinds := [.data, .pinned], laidTests := true, laidLooks := .later }
def UtfPlacesCardSaid : Prop := Claim7.holds Tryd.pinned (.plain (OpenSpec.ofChange utfPlacesSpec)) utfPlacesCard

/-- THE TIED CARD OF 'weirlaw01.UtfBack'. -/
def utfBackCard : Claim7 := { stood := { row := utfBackRow, standIns := [], harness := (true, "a6ca11feeb842b43cab1a55ec99d58dbd97fa609f3949dd23b2b8c9db89b40de"), looks := false }, kinds := [], alts := [], laidByText := true, laidKinds := [.data, .pinned], laidTests := true, laidLooks := .later }
def UtfBackCardSaid : Prop := Claim7.holds Tryd.pinned (.plain (OpenSpec.ofChange utfBackSpec)) utfBackCard

/-- THE TIED CARD OF 'weirlaw01.UtfQuoteBack'. -/
def utfQuoteBackCard : Claim7 := { stood := { row := utfQuoteBackRow, standIns := [], harness := (true, "a6ca11feeb842b43cab1a55ec99d58dbd97fa609f3949dd23b2b8c9db89b40de"), looks := false }, kinds := [], alts := [], laidByText := true, laidKinds := [.data, .pinned], laidTests := true, laidLooks := .later }
def UtfQuoteBackCardSaid : Prop := Claim7.holds Tryd.pinned (.plain (OpenSpec.ofChange utfQuoteBackSpec)) utfQuoteBackCard

/-- THE SECOND FORM's CARD OF 'weirlaw01.UtfJoins'. -/
def utfJoinsUptoCard : Claim7 := { stood := { row := utfJoinsUptoRow, standIns := [], harness := (true, "a6ca11feeb842b43cab1a55ec99d58dbd97fa609f3949dd23b2b8c9db89b40de"), looks := false }, kinds := [], alts := [], laidByText := true, laidKinds := [.data, .pinned], laidTests := true, laidLooks := .later }
def UtfJoinsUptoCardSaid : Prop := Claim7.holds Tryd.pinned (.plain (OpenSpec.upto utfJoinsSpec)) utfJoinsUptoCard

/-- THE SECOND FORM's CARD OF 'weirlaw01.UtfNexts'. -/
def utfNextsUptoCard : Claim7 := { stood := { row := utfNextsUptoRow, standIns := [], harness := (true, "a6ca11feeb842b43cab1a55ec99d58dbd97fa609f3949dd23b2b8c9db89b40de"), looks := false }, kinds := [], alts := [], laidByText := true, laidKinds := [.data, .pinned], laidTests := true, laidLooks := .later }
def UtfNextsUptoCardSaid : Prop := Claim7.holds Tryd.pinned (.plain (OpenSpec.upto utfNextsSpec)) utfNextsUptoCard

/-- THE SECOND FORM's CARD OF 'weirlaw01.UtfAlls'. -/
def utfAllsUptoCard : Claim7 := { stood := { row := utfAllsUptoRow, standIns := [], harness := (true, "a6ca11feeb842b43cab1a55ec99d58dbd97fa609f3949dd23b2b8c9db89b40de"), looks := false }, kinds := [], alts := [], laidByText := true, laidKinds := [.data, .pinned], laidTests := true, laidLooks := .later }
def UtfAllsUptoCardSaid : Prop := Claim7.holds Tryd.pinned (.plain (OpenSpec.upto utfAllsSpec)) utfAllsUptoCard

/-- THE SECOND FORM's CARD OF 'weirlaw01.UtfPlaces'. -/
def utfPlacesUptoCard : Claim7 := { stood := { row := utfPlacesUptoRow, standIns := [], harness := (true, "a6ca11feeb842b43cab1a55ec99d58dbd97fa609f3949dd23b2b8c9db89b40de"), looks := false }, kinds := [], alts := [], laidByText := true, laidKinds := [.data, .pinned], laidTests := true, laidLooks := .later }
def UtfPlacesUptoCardSaid : Prop := Claim7.holds Tryd.pinned (.plain (OpenSpec.upto utfPlacesSpec)) utfPlacesUptoCard

/-- THE SECOND FORM's CARD OF 'weirlaw01.UtfBack'. -/
def utfBackUptoCard : Claim7 := { stood := { row := utfBackUptoRow, standIns := [], harness := (true, "a6ca11feeb842b43cab1a55ec99d58dbd97fa609f3949dd23b2b8c9db89b40de"), looks := false }, kinds := [], alts := [], laidByText := true, laidKinds := [.data, .pinned], laidTests := true, laidLooks := .later }
def UtfBackUptoCardSaid : Prop := Claim7.holds Tryd.pinned (.plain (OpenSpec.upto utfBackSpec)) utfBackUptoCard

/-- THE SECOND FORM's CARD OF 'weirlaw01.UtfQuoteBack'. -/
def utfQuoteBackUptoCard : Claim7 := { stood := { row := utfQuoteBackUptoRow, standIns := [], harness := (true, "a6ca11feeb842b43cab1a55ec99d58dbd97fa609f3949dd23b2b8c9db89b40de"), looks := false }, kinds := [], alts := [], laidByText := true, laidKinds := [.data, .pinned], laidTests := true, laidLooks := .later }
def UtfQuoteBackUptoCardSaid : Prop := Claim7.holds Tryd.pinned (.plain (OpenSpec.upto utfQuoteBackSpec)) utfQuoteBackUptoCard
end Rows
end Go.Proofs.YtdnbkgbgpfmipaaDoor
