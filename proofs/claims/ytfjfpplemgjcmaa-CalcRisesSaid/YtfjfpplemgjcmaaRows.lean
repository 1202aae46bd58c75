/-
  No cell of these rows narrows 'for every input' (looked for: loops, veiled, ifaces, maps, wideKeys, modest, calm, conditions, laid).
  DERIVED. THE GIVEN ROWS OF THIS SEAT. 6 by the template 'for every input the law returns true; each argument reads behind the call as it read before'; 0 by the template 'total and deterministic' (their statements: YtfjfpplemgjcmaaTotals.lean).
  GIVEN WITH THE SEED: the statements are not yours to turn. If you find one false, say at which input.
  Laid BY PROGRAM, IN A SANDBOX (cutbox-rows.mjs): the forced cells as the released guide's own fill.sh prints them over the translation 1e79b26439d31c7d… (all of the seat's roots in one cut). By AI agents, Wed Nov 11 2026. No macro, syntax, notation, axiom, sorry.
-/
import Derived.Test.YtfjfpplemgjcmaaChecked
import GoSem.Claim
import GoSem.ClaimJoined
import GoSem.ClaimMapViews
import Derived.JoinedTies
import Derived.KernelRfl
namespace Go.Proofs.Ytfjfpplemgjcmaa
/- THE CELL 'sum', in the pinned program and in every row, IS THE sha256 OF THE DUMP (.gsa) THAT YtfjfpplemgjcmaaProg.lean LOADS. Nothing in Lean hashes anything: it is a label: what it is worth is what the hold of that sum in a sandbox is worth. -/
noncomputable def Try.pinned : Pinned := { name := "ytfjfpplemgjcmaa", sum := "1e79b26439d31c7d82506067744e535cad99e4c2d91a06b8e6d73644370b63b4", checked := Try.checked }
namespace Rows
def none {H : Type} : Left H := { results := [], args := [] }

/-- 'weirlaw06.CalcSmooths': WHATEVER THE INPUT: true; the input reads as it did. -/
def calcSmoothsSpec : ChangeSpec := { name := "calcSmooths", fn := fun _ => fun
  | [d1, d2, d3] => { results := [.lit (.bool true)], args := [d1, d2, d3] }
  | _ => none }
def calcSmoothsRow : OpenClaim := { program := "ytfjfpplemgjcmaa", sum := "1e79b26439d31c7d82506067744e535cad99e4c2d91a06b8e6d73644370b63b4", func := "weir/weirlaw06.CalcSmooths", spec := "calcSmooths", inPlace := ["math.Float64frombits", "math.Float64bits"], apart := false }
def CalcSmoothsSaid : Prop := calcSmoothsRow.holds Try.pinned (OpenSpec.ofChange calcSmoothsSpec)

/-- ITS FALSE NEIGHBOUR: 'it returns false'. Refute it at one input. -/
def calcSmoothsWrong : ChangeSpec := { name := "calcSmooths", fn := fun _ => fun
  | [d1, d2, d3] => { results := [.lit (.bool false)], args := [d1, d2, d3] }
  | _ => none }
def CalcSmoothsWrongFalsely : Prop := calcSmoothsRow.holds Try.pinned (OpenSpec.ofChange calcSmoothsWrong)

/-- 'weirlaw06.CalcWholes': WHATEVER THE INPUT: true; the input reads as it did. -/
def calcWholesSpec : ChangeSpec := { name := "calcWholes", fn := fun _ => fun
  | [d] => { results := [.lit (.bool true)], args := [d] }
  | _ => none }
def calcWholesRow : OpenClaim := { program := "ytfjfpplemgjcmaa", sum := "1e79b26439d31c7d82506067744e535cad99e4c2d91a06b8e6d73644370b63b4", func := "weir/weirlaw06.CalcWholes", spec := "calcWholes", inPlace := ["math.Float64bits", "math.Float64frombits"], unfollowed := true, recurses := true, apart := false }
def CalcWholesSaid : Prop := calcWholesRow.holds Try.pinned (OpenSpec.ofChange calcWholesSpec)

/-- ITS FALSE NEIGHBOUR: 'it returns false'. Refute it at one input. -/
def calcWholesWrong : ChangeSpec := { name := "calcWholes", fn := fun _ => fun
  | [d] => { results := [.lit (.bool false)], args := [d] }
  | _ => none }
def CalcWholesWrongFalsely : Prop := calcWholesRow.holds Try.pinned (OpenSpec.ofChange calcWholesWrong)

/-- 'weirlaw06.CalcRises': WHATEVER THE INPUT: true; the input reads as it did. -/
def calcRisesSpec : ChangeSpec := { name := "calcRises", fn := fun _ => fun
  | [d1, d2, d3, d4] => { results := [.lit (.bool true)], args := [d1, d2, d3, d4] }
  | _ => none }
def calcRisesRow : OpenClaim := { program := "ytfjfpplemgjcmaa", sum := "1e79b26439d31c7d82506067744e535cad99e4c2d91a06b8e6d73644370b63b4", func := "weir/weirlaw06.CalcRises", spec := "calcRises", inPlace := ["math.Float64frombits", "math.Float64bits"], unfollowed := true, recurses := true, apart := false }
def CalcRisesSaid : Prop := calcRisesRow.holds Try.pinned (OpenSpec.ofChange calcRisesSpec)

/-- ITS FALSE NEIGHBOUR: 'it returns false'. Refute it at one input. -/
def calcRisesWrong : ChangeSpec := { name := "calcRises", fn := fun _ => fun
  | [d1, d2, d3, d4] => { results := [.lit (.bool false)], args := [d1, d2, d3, d4] }
  | _ => none }
def CalcRisesWrongFalsely : Prop := calcRisesRow.holds Try.pinned (OpenSpec.ofChange calcRisesWrong)

/-- 'weirlaw06.CalcMoves': WHATEVER THE INPUT: true; the input reads as it did. -/
def calcMovesSpec : ChangeSpec := { name := "calcMoves", fn := fun _ => fun
  | [d1, d2, d3, d4] => { results := [.lit (.bool true)], args := [d1, d2, d3, d4] }
  | _ => none }
def calcMovesRow : OpenClaim := { program := "ytfjfpplemgjcmaa", sum := "1e79b26439d31c7d82506067744e535cad99e4c2d91a06b8e6d73644370b63b4", func := "weir/weirlaw06.CalcMoves", spec := "calcMoves", inPlace := ["math.Float64frombits", "math.sqrt", "math.Float64bits"], apart := false }
def CalcMovesSaid : Prop := calcMovesRow.holds Try.pinned (OpenSpec.ofChange calcMovesSpec)

/-- ITS FALSE NEIGHBOUR: 'it returns false'. Refute it at one input. -/
def calcMovesWrong : ChangeSpec := { name := "calcMoves", fn := fun _ => fun
  | [d1, d2, d3, d4] => { results := [.lit (.bool false)], args := [d1, d2, d3, d4] }
  | _ => none }
def CalcMovesWrongFalsely : Prop := calcMovesRow.holds Try.pinned (OpenSpec.ofChange calcMovesWrong)

/-- 'weirlaw06.CalcHistograms': WHATEVER THE INPUT: true; the input reads as it did. -/
def calcHistogramsSpec : ChangeSpec := { name := "calcHistograms", fn := fun _ => fun
  | [d1, d2] => { results := [.lit (.bool true)], args := [d1, d2] }
  | _ => none }
def calcHistogramsRow : OpenClaim := { program := "ytfjfpplemgjcmaa", sum := "1e79b26439d31c7d82506067744e535cad99e4c2d91a06b8e6d73644370b63b4", func := "weir/weirlaw06.CalcHistograms", spec := "calcHistograms", inPlace := ["math.Float64frombits", "math.Float64bits"], unfollowed := true, recurses := true, apart := false }
def CalcHistogramsSaid : Prop := calcHistogramsRow.holds Try.pinned (OpenSpec.ofChange calcHistogramsSpec)

/-- ITS FALSE NEIGHBOUR: 'it returns false'. Refute it at one input. -/
def calcHistogramsWrong : ChangeSpec := { name := "calcHistograms", fn := fun _ => fun
  | [d1, d2] => { results := [.lit (.bool false)], args := [d1, d2] }
  | _ => none }
def CalcHistogramsWrongFalsely : Prop := calcHistogramsRow.holds Try.pinned (OpenSpec.ofChange calcHistogramsWrong)

/-- 'weirlaw06.CalcSums': WHATEVER THE INPUT: true; the input reads as it did. -/
def calcSumsSpec : ChangeSpec := { name := "calcSums", fn := fun _ => fun
  | [d] => { results := [.lit (.bool true)], args := [d] }
  | _ => none }
def calcSumsRow : OpenClaim := { program := "ytfjfpplemgjcmaa", sum := "1e79b26439d31c7d82506067744e535cad99e4c2d91a06b8e6d73644370b63b4", func := "weir/weirlaw06.CalcSums", spec := "calcSums", inPlace := ["math.Float64bits", "math.Float64frombits", "math.sqrt"], unfollowed := true, recurses := true, apart := false }
def CalcSumsSaid : Prop := calcSumsRow.holds Try.pinned (OpenSpec.ofChange calcSumsSpec)

/-- ITS FALSE NEIGHBOUR: 'it returns false'. Refute it at one input. -/
def calcSumsWrong : ChangeSpec := { name := "calcSums", fn := fun _ => fun
  | [d] => { results := [.lit (.bool false)], args := [d] }
  | _ => none }
def CalcSumsWrongFalsely : Prop := calcSumsRow.holds Try.pinned (OpenSpec.ofChange calcSumsWrong)

/- THE SECOND FORM. 'bulk': how many values and letters a reading holds, each counted each time it is reached (what is shared counts as often as it is met; a slice's spare places count too). A statement '..UptoSaid' is the law's where the arguments, and the package variables that the reading takes, are together of bulk at most 1048576: NARROWER than '..Said'. Prove '..Said' where nothing that the law and all that it calls make is longer than what came in: it says more and counts as full. Else prove '..UptoSaid'. A law counts once. -/
mutual
def uptoBulk {H : Type} : DataW H → Nat
  | .lit (.string bytes) => bytes.length + 1
  | .lit _ => 1
  | .nil => 1
  | .ptr d => uptoBulk d + 1
  | .slice elems spare => uptoBulkAll elems + uptoBulkAll spare + 1
  | .agg parts => uptoBulkAll parts + 1
  | .iface _ d => uptoBulk d + 1
  | .map entries => uptoBulkEntries entries + 1
  | .held _ => 1
def uptoBulkAll {H : Type} : List (DataW H) → Nat
  | [] => 0
  | d :: r => uptoBulk d + uptoBulkAll r
def uptoBulkEntries {H : Type} : List (Lit × DataW H) → Nat
  | [] => 0
  | x :: r => uptoBulkEntry x + uptoBulkEntries r
def uptoBulkEntry {H : Type} : Lit × DataW H → Nat
  | (.string bytes, d) => bytes.length + uptoBulk d + 1
  | (_, d) => uptoBulk d + 1
 end
def uptoSmall : (H : Type) → List (DataW H) → Bool := fun _ ds => decide (uptoBulkAll ds ≤ 1048576)
def OpenSpec.upto (s : _root_.Go.ChangeSpec) : _root_.Go.OpenSpec := { _root_.Go.OpenSpec.ofChange s with cond := some uptoSmall }

/-- 'weirlaw06.CalcSmooths', WHERE WHAT IT READS IS OF BULK AT MOST 1048576: true; the input reads as it did. -/
def calcSmoothsUptoRow : OpenClaim := { program := "ytfjfpplemgjcmaa", sum := "1e79b26439d31c7d82506067744e535cad99e4c2d91a06b8e6d73644370b63b4", func := "weir/weirlaw06.CalcSmooths", spec := "calcSmooths", inPlace := ["math.Float64frombits", "math.Float64bits"], apart := false, narrowed := true }
def CalcSmoothsUptoSaid : Prop := calcSmoothsUptoRow.holds Try.pinned (OpenSpec.upto calcSmoothsSpec)

/-- 'weirlaw06.CalcWholes', WHERE WHAT IT READS IS OF BULK AT MOST 1048576: true; the input reads as it did. -/
def calcWholesUptoRow : OpenClaim := { program := "ytfjfpplemgjcmaa", sum := "1e79b26439d31c7d82506067744e535cad99e4c2d91a06b8e6d73644370b63b4", func := "weir/weirlaw06.CalcWholes", spec := "calcWholes", inPlace := ["math.Float64bits", "math.Float64frombits"], unfollowed := true, recurses := true, apart := false, narrowed := true }
def CalcWholesUptoSaid : Prop := calcWholesUptoRow.holds Try.pinned (OpenSpec.upto calcWholesSpec)

/-- 'weirlaw06.CalcRises', WHERE WHAT IT READS IS OF BULK AT MOST 1048576: true; the input reads as it did. -/
def calcRisesUptoRow : OpenClaim := { program := "ytfjfpplemgjcmaa", sum := "1e79b26439d31c7d82506067744e535cad99e4c2d91a06b8e6d73644370b63b4", func := "weir/weirlaw06.CalcRises", spec := "calcRises", inPlace := ["math.Float64frombits", "math.Float64bits"], unfollowed := true, recurses := true, apart := false, narrowed := true }
def CalcRisesUptoSaid : Prop := calcRisesUptoRow.holds Try.pinned (OpenSpec.upto calcRisesSpec)

/-- 'weirlaw06.CalcMoves', WHERE WHAT IT READS IS OF BULK AT MOST 1048576: true; the input reads as it did. -/
def calcMovesUptoRow : OpenClaim := { program := "ytfjfpplemgjcmaa", sum := "1e79b26439d31c7d82506067744e535cad99e4c2d91a06b8e6d73644370b63b4", func := "weir/weirlaw06.CalcMoves", spec := "calcMoves", inPlace := ["math.Float64frombits", "math.sqrt", "math.Float64bits"], apart := false, narrowed := true }
def CalcMovesUptoSaid : Prop := calcMovesUptoRow.holds Try.pinned (OpenSpec.upto calcMovesSpec)

/-- 'weirlaw06.CalcHistograms', WHERE WHAT IT READS IS OF BULK AT MOST 1048576: true; the input reads as it did. -/
def calcHistogramsUptoRow : OpenClaim := { program := "ytfjfpplemgjcmaa", sum := "1e79b26439d31c7d82506067744e535cad99e4c2d91a06b8e6d73644370b63b4", func := "weir/weirlaw06.CalcHistograms", spec := "calcHistograms", inPlace := ["math.Float64frombits", "math.Float64bits"], unfollowed := true, recurses := true, apart := false, narrowed := true }
def CalcHistogramsUptoSaid : Prop := calcHistogramsUptoRow.holds Try.pinned (OpenSpec.upto calcHistogramsSpec)

/-- 'weirlaw06.CalcSums', WHERE WHAT IT READS IS OF BULK AT MOST 1048576: true; the input reads as it did. -/
def calcSumsUptoRow : OpenClaim := { program := "ytfjfpplemgjcmaa", sum := "1e79b26439d31c7d82506067744e535cad99e4c2d91a06b8e6d73644370b63b4", func := "weir/weirlaw06.CalcSums", spec := "calcSums", inPlace := ["math.Float64bits", "math.Float64frombits", "math.sqrt"], unfollowed := true, recurses := true, apart := false, narrowed := true }
def CalcSumsUptoSaid : Prop := calcSumsUptoRow.holds Try.pinned (OpenSpec.upto calcSumsSpec)

end Rows
end Go.Proofs.Ytfjfpplemgjcmaa
