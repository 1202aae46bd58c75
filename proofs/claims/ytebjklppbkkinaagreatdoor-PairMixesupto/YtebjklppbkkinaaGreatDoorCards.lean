/-
  DERIVED. GIVEN WITH THE SEED: THE CARDS: each row of YtebjklppbkkinaaGreatDoorRows.lean that lists a variable, with what it lists TIED to the program's text (the seventh form; the later family's looks); each row that meets fmt, with fmt's text TOLD by the authors' own Lean function (tested against real Go, not proved from fmt's source: count such statements apart). THE CARD IS WHAT COUNTS. Prove the row's statement (the work); the ties are given (YtebjklppbkkinaaGreatDoorTie.lean); close each card by the builder's one call (the guide's Derived/Test/ToyasCard.lean, 'card_holds'). Laid BY PROGRAM, IN A SANDBOX (cutbox-door.mjs). By AI agents, Wed Nov 11 2026. No macro, syntax, notation, axiom, sorry.
-/
import Derived.Test.YtebjklppbkkinaaGreatDoorRows
import GoSem.ClaimSeven
namespace Go.Proofs.YtebjklppbkkinaaGreatDoor
namespace Rows

/-- THE TIED CARD OF 'weirlaw21.PairMixes'. -/
def pairMixesCard : Claim7 := { stood := { row := pairMixesRow, standIns := [], harness := (true, "df87b0b09c3f81b18b55daf879b1ac1ad7fc4f9bb664542c634206df89958490"), looks := false }, kinds := [], alts := [], laidByText := true, laidKinds := [.data, .pinned], laidTests := true, laidLooks := .later }
def PairMixesCardSaid : Prop := Claim7.holds Tryz.pinned (.plain (OpenSpec.ofChange pairMixesSpec)) pairMixesCard

/-- THE TIED CARD OF 'weirlaw21.PairSets'. -/
def pairSetsCard : Claim7 := { stood := { row := pairSetsRow, standIns := [], harness := (true, "df87b0b09c3f81b18b55daf879b1ac1ad7fc4f9bb664542c634206df89958490"), looks := false }, kinds := [], alts := [], laidByText := true, laidKinds := [.data, .data, .data, .data, .pinned], laidTests := true, laidLooks := .later }
def PairSetsCardSaid : Prop := Claim7.holds Tryz.pinned (.plain (OpenSpec.ofChange pairSetsSpec)) pairSetsCard

/-- THE TIED CARD OF 'weirlaw21.PairSides'. -/
def pairSidesCard : Claim7 := { stood := { row := pairSidesRow, standIns := [], harness := (true, "df87b0b09c3f81b18b55daf879b1ac1ad7fc4f9bb664542c634206df89958490"), looks := false }, kinds := [], alts := [], laidByText := true, laidKinds := [.data, .data, .data, .data, .pinned], laidTests := true, laidLooks := .later }
def PairSidesCardSaid : Prop := Claim7.holds Tryz.pinned (.plain (OpenSpec.ofChange pairSidesSpec)) pairSidesCard

/-- THE TIED CARD OF 'weirlaw21.PairLoose'. -/
def pairLooseCard : Claim7 := { stood := { row := pairLooseRow, standIns := [], harness := (true, "df87b0b09c3f81b18b55daf879b1ac1ad7fc4f9bb664542c634206df89958490"), looks := false }, kinds := [], alts := [], laidByText := true, laidKinds := [.data, .data, .data, .data, .pinned], laidTests := true, laidLooks := .later }
def PairLooseCardSaid : Prop := Claim7.holds Tryz.pinned (.plain (OpenSpec.ofChange pairLooseSpec)) pairLooseCard

/-- THE TIED CARD OF 'weirlaw21.PairEach'. -/
def pairEachCard : Claim7 := { stood := { row := pairEachRow, standIns := [], harness := (true, "df87b0b09c3f81b18b55daf879b1ac1ad7fc4f9bb664542c634206df89958490"), looks := false }, kinds := [], alts := [], laidByText := true, laidKinds := [.data, .data, .data, .data, .pinned], laidTests := true, laidLooks := .later }
def PairEachCardSaid : Prop := Claim7.holds Tryz.pinned (.plain (OpenSpec.ofChange pairEachSpec)) pairEachCard

/-- THE SECOND FORM's CARD OF 'weirlaw21.PairMixes'. -/
def pairMixesUptoCard : Claim7 := { stood := { row := pairMixesUptoRow, standIns := [], harness := (true, "df87b0b09c3f81b18b55daf879b1ac1ad7fc4f9bb664542c634206df89958490"), looks := false }, kinds := [], alts := [], laidByText := true, laidKinds := [.data, .pinned], laidTests := true, laidLooks := .later }
def PairMixesUptoCardSaid : Prop := Claim7.holds Tryz.pinned (.plain (OpenSpec.upto pairMixesSpec)) pairMixesUptoCard

/-- THE SECOND FORM's CARD OF 'weirlaw21.PairSets'. -/
def pairSetsUptoCard : Claim7 := { stood := { row := pairSetsUptoRow, standIns := [], harness := (true, "df87b0b09c3f81b18b55daf879b1ac1ad7fc4f9bb664542c634206df89958490"), looks := false }, kinds := [], alts := [], laidByText := true, laidKinds := [.data, .data, .data, .data, .pinned], laidTests := true, laidLooks := .later }
def PairSetsUptoCardSaid : Prop := Claim7.holds Tryz.pinned (.plain (OpenSpec.upto pairSetsSpec)) pairSetsUptoCard

/-- THE SECOND FORM's CARD OF 'weirlaw21.PairSides'. -/
def pairSidesUptoCard : Claim7 := { stood := { row := pairSidesUptoRow, standIns := [], harness := (true, "df87b0b09c3f81b18b55daf879b1ac1ad7fc4f9bb664542c634206df89958490"), looks := false }, kinds := [], alts := [], laidByText := true, laidKinds := [.data, .data, .data, .data, .pinned], laidTests := true, laidLooks := .later }
def PairSidesUptoCardSaid : Prop := Claim7.holds Tryz.pinned (.plain (OpenSpec.upto pairSidesSpec)) pairSidesUptoCard

/-- THE SECOND FORM's CARD OF 'weirlaw21.PairLoose'. -/
def pairLooseUptoCard : Claim7 := { stood := { row := pairLooseUptoRow, standIns := [], harness := (true, "df87b0b09c3f81b18b55daf879b1ac1ad7fc4f9bb664542c634206df89958490"), looks := false }, kinds := [], alts := [], laidByText := true, laidKinds := [.data, .data, .data, .data, .pinned], laidTests := true, laidLooks := .later }
def PairLooseUptoCardSaid : Prop := Claim7.holds Tryz.pinned (.plain (OpenSpec.upto pairLooseSpec)) pairLooseUptoCard

/-- THE SECOND FORM's CARD OF 'weirlaw21.PairEach'. -/
def pairEachUptoCard : Claim7 := { stood := { row := pairEachUptoRow, standIns := [], harness := (true, "df87b0b09c3f81b18b55daf879b1ac1ad7fc4f9bb664542c634206df89958490"), looks := false }, kinds := [], alts := [], laidByText := true, laidKinds := [.data, .data, .data, .data, .pinned], laidTests := true, laidLooks := .later }
def PairEachUptoCardSaid : Prop := Claim7.holds Tryz.pinned (.plain (OpenSpec.upto pairEachSpec)) pairEachUptoCard
end Rows
end Go.Proofs.YtebjklppbkkinaaGreatDoor
