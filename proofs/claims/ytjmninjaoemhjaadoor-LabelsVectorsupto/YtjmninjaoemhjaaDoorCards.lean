/-
  DERIVED. GIVEN WITH THE SEED: THE CARDS: each row of YtjmninjaoemhjaaDoorRows.lean that lists a variable, with what it lists TIED to the program's text (the seventh form; the later family's looks); each row that meets fmt, with fmt's text TOLD by the authors' own Lean function (tested against real Go, not proved from fmt's source: count such statements apart). THE CARD IS WHAT COUNTS. Prove the row's statement (the work); the ties are given (YtjmninjaoemhjaaDoorTie.lean); close each card by the builder's one call (the guide's Derived/Test/ToyasCard.lean, 'card_holds'). Laid BY PROGRAM, IN A SANDBOX (cutbox-door.mjs). By AI agents, Wed Nov 11 2026. No macro, syntax, notation, axiom, sorry.
-/
import Derived.Test.YtjmninjaoemhjaaDoorRows
import GoSem.ClaimSeven
namespace Go.Proofs.YtjmninjaoemhjaaDoor
namespace Rows

/-- THE TIED CARD OF 'weirlaw16.LabelsOrder'. -/
def labelsOrderCard : Claim7 := { stood := { row := labelsOrderRow, standIns := [], harness := (true, "f75c34fbb2f6d70f7ae54683e11886a15ab346643d408659d3fa30636be4baab"), looks := false }, kinds := [], alts := [], laidByText := true, laidKinds := [.data, .pinned], laidTests := true, laidLooks := .later }
def LabelsOrderCardSaid : Prop := Claim7.holds Tryd.pinned (.plain (OpenSpec.ofChange labelsOrderSpec)) labelsOrderCard

/-- THE TIED CARD OF 'weirlaw16.LabelsCuts'. -/
def labelsCutsCard : Claim7 := { stood := { row := labelsCutsRow, standIns := [], harness := (true, "f75c34fbb2f6d70f7ae54683e11886a15ab346643d408659d3fa30636be4baab"), looks := false }, kinds := [], alts := [], laidByText := true, laidKinds := [.data, .pinned], laidTests := true, laidLooks := .later }
def LabelsCutsCardSaid : Prop := Claim7.holds Tryd.pinned (.plain (OpenSpec.ofChange labelsCutsSpec)) labelsCutsCard

/-- THE TIED CARD OF 'weirlaw16.LabelsVectors'. -/
def labelsVectorsCard : Claim7 := { stood := { row := labelsVectorsRow, standIns := [], harness := (true, "f75c34fbb2f6d70f7ae54683e11886a15ab346643d408659d3fa30636be4baab"), looks := false }, kinds := [], alts := [], laidByText := true, laidKinds := [.data, .pinned], laidTests := true, laidLooks := .later }
def LabelsVectorsCardSaid : Prop := Claim7.holds Tryd.pinned (.plain (OpenSpec.ofChange labelsVectorsSpec)) labelsVectorsCard

/-- THE TIED CARD OF 'weirlaw16.LabelsMakes'. -/
def labelsMakesCard : Claim7 := { stood := { row := labelsMakesRow, standIns := [], harness := (true, "f75c34fbb2f6d70f7ae54683e11886a15ab346643d408659d3fa30636be4baab"), looks := false }, kinds := [], alts := [], laidByText := true, laidKinds := [.data, .pinned], laidTests := true, laidLooks := .later }
def LabelsMakesCardSaid : Prop := Claim7.holds Tryd.pinned (.plain (OpenSpec.ofChange labelsMakesSpec)) labelsMakesCard

/-- THE SECOND FORM's CARD OF 'weirlaw16.LabelsOrder'. -/
def labelsOrderUptoCard : Claim7 := { stood := { row := labelsOrderUptoRow, standIns := [], harness := (true, "f75c34fbb2f6d70f7ae54683e11886a15ab346643d408659d3fa30636be4baab"), looks := false }, kinds := [], alts := [], laidByText := true, laidKinds := [.data, .pinned], laidTests := true, laidLooks := .later }
def LabelsOrderUptoCardSaid : Prop := Claim7.holds Tryd.pinned (.plain (OpenSpec.upto labelsOrderSpec)) labelsOrderUptoCard

/-- THE SECOND FORM's CARD OF 'weirlaw16.LabelsCuts'. -/
def labelsCutsUptoCard : Claim7 := { stood := { row := labelsCutsUptoRow, standIns := [], harness := (true, "f75c34fbb2f6d70f7ae54683e11886a15ab346643d408659d3fa30636be4baab"), looks := false }, kinds := [], alts := [], laidByText := true, laidKinds := [.data, .pinned], laidTests := true, laidLooks := .later }
def LabelsCutsUptoCardSaid : Prop := Claim7.holds Tryd.pinned (.plain (OpenSpec.upto labelsCutsSpec)) labelsCutsUptoCard

/-- THE SECOND FORM's CARD OF 'weirlaw16.LabelsVectors'. -/
def labelsVectorsUptoCard : Claim7 := { stood := { row := labelsVectorsUptoRow, standIns := [], harness := (true, "f75c34fbb2f6d70f7ae54683e11886a15ab346643d408659d3fa30636be4baab"), looks := false }, kinds := [], alts := [], laidByText := true, laidKinds := [.data, .pinned], laidTests := true, laidLooks := .later }
def LabelsVectorsUptoCardSaid : Prop := Claim7.holds Tryd.pinned (.plain (OpenSpec.upto labelsVectorsSpec)) labelsVectorsUptoCard

/-- THE SECOND FORM's CARD OF 'weirlaw16.LabelsMakes'. -/
def labelsMakesUptoCard : Claim7 := { stood := { row := labelsMakesUptoRow, standIns := [], harness := (true, "f75c34fbb2f6d70f7ae54683e11886a15ab346643d408659d3fa30636be4baab"), looks := false }, kinds := [], alts := [], laidByText := true, laidKinds := [.data, .pinned], laidTests := true, laidLooks := .later }
def LabelsMakesUptoCardSaid : Prop := Claim7.holds Tryd.pinned (.plain (OpenSpec.upto labelsMakesSpec)) labelsMakesUptoCard
end Rows
end Go.Proofs.YtjmninjaoemhjaaDoor
