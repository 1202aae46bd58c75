/-
  No cell of these rows narrows 'for every input' (looked for: loops, veiled, ifaces, maps, wideKeys, modest, calm, conditions, laid).
  DERIVED. THE GIVEN ROWS OF THIS SEAT. 6 by the template 'for every input the law returns true; each argument reads behind the call as it read before'; 0 by the template 'total and deterministic' (their statements: YtfjfpplemgjcmabTotals.lean).
  GIVEN WITH THE SEED: the statements are not yours to turn. If you find one false, say at which input.
  Laid BY PROGRAM, IN A SANDBOX (cutbox-rows.mjs): the forced cells as the released guide's own fill.sh prints them over the translation d35b04b4e7db0b5c… (all of the seat's roots in one cut). By AI agents, Wed Nov 11 2026. No macro, syntax, notation, axiom, sorry.
-/
import Derived.Test.YtfjfpplemgjcmabChecked
import GoSem.Claim
import GoSem.ClaimJoined
import GoSem.ClaimMapViews
import Derived.JoinedTies
import Derived.KernelRfl
namespace Go.Proofs.Ytfjfpplemgjcmab
/- THE CELL 'sum', in the pinned program and in every row, IS THE sha256 OF THE DUMP (.gsa) THAT YtfjfpplemgjcmabProg.lean LOADS. Nothing in Lean hashes anything: it is a label: what it is worth is what the hold of that sum in a sandbox is worth. -/
noncomputable def Try.pinned : Pinned := { name := "ytfjfpplemgjcmab", sum := "d35b04b4e7db0b5c730f052132a1fde81bdbe0baa03ba469244f19f252f9fe6b", checked := Try.checked }
namespace Rows
def none {H : Type} : Left H := { results := [], args := [] }

/-- 'weirlaw06.CalcSamples': WHATEVER THE INPUT: true; the input reads as it did. -/
def calcSamplesSpec : ChangeSpec := { name := "calcSamples", fn := fun _ => fun
  | [d1, d2, d3] => { results := [.lit (.bool true)], args := [d1, d2, d3] }
  | _ => none }
def calcSamplesRow : OpenClaim := { program := "ytfjfpplemgjcmab", sum := "d35b04b4e7db0b5c730f052132a1fde81bdbe0baa03ba469244f19f252f9fe6b", func := "weir/weirlaw06.CalcSamples", spec := "calcSamples", inPlace := ["math.Float64frombits", "math.Float64bits", "math.sqrt"], apart := false }
def CalcSamplesSaid : Prop := calcSamplesRow.holds Try.pinned (OpenSpec.ofChange calcSamplesSpec)

/-- ITS FALSE NEIGHBOUR: 'it returns false'. Refute it at one input. -/
def calcSamplesWrong : ChangeSpec := { name := "calcSamples", fn := fun _ => fun
  | [d1, d2, d3] => { results := [.lit (.bool false)], args := [d1, d2, d3] }
  | _ => none }
def CalcSamplesWrongFalsely : Prop := calcSamplesRow.holds Try.pinned (OpenSpec.ofChange calcSamplesWrong)

/-- 'weirlaw06.CalcBacks': WHATEVER THE INPUT: true; the input reads as it did. -/
def calcBacksSpec : ChangeSpec := { name := "calcBacks", fn := fun _ => fun
  | [d] => { results := [.lit (.bool true)], args := [d] }
  | _ => none }
def calcBacksRow : OpenClaim := { program := "ytfjfpplemgjcmab", sum := "d35b04b4e7db0b5c730f052132a1fde81bdbe0baa03ba469244f19f252f9fe6b", func := "weir/weirlaw06.CalcBacks", spec := "calcBacks", inPlace := ["math.Float64frombits", "math.archFloor", "math.Float64bits", "math.archTrunc"], apart := false }
def CalcBacksSaid : Prop := calcBacksRow.holds Try.pinned (OpenSpec.ofChange calcBacksSpec)

/-- ITS FALSE NEIGHBOUR: 'it returns false'. Refute it at one input. -/
def calcBacksWrong : ChangeSpec := { name := "calcBacks", fn := fun _ => fun
  | [d] => { results := [.lit (.bool false)], args := [d] }
  | _ => none }
def CalcBacksWrongFalsely : Prop := calcBacksRow.holds Try.pinned (OpenSpec.ofChange calcBacksWrong)

/-- 'weirlaw06.CalcQuantiles': WHATEVER THE INPUT: true; the input reads as it did. -/
def calcQuantilesSpec : ChangeSpec := { name := "calcQuantiles", fn := fun _ => fun
  | [d1, d2] => { results := [.lit (.bool true)], args := [d1, d2] }
  | _ => none }
def calcQuantilesRow : OpenClaim := { program := "ytfjfpplemgjcmab", sum := "d35b04b4e7db0b5c730f052132a1fde81bdbe0baa03ba469244f19f252f9fe6b", func := "weir/weirlaw06.CalcQuantiles", spec := "calcQuantiles", inPlace := ["math.Float64frombits", "math.archFloor", "math.Float64bits", "math.archTrunc"], unfollowed := true, recurses := true, apart := false }
def CalcQuantilesSaid : Prop := calcQuantilesRow.holds Try.pinned (OpenSpec.ofChange calcQuantilesSpec)

/-- ITS FALSE NEIGHBOUR: 'it returns false'. Refute it at one input. -/
def calcQuantilesWrong : ChangeSpec := { name := "calcQuantiles", fn := fun _ => fun
  | [d1, d2] => { results := [.lit (.bool false)], args := [d1, d2] }
  | _ => none }
def CalcQuantilesWrongFalsely : Prop := calcQuantilesRow.holds Try.pinned (OpenSpec.ofChange calcQuantilesWrong)

/-- 'weirlaw06.CalcLeaves': WHATEVER THE INPUT: true; the input reads as it did. -/
def calcLeavesSpec : ChangeSpec := { name := "calcLeaves", fn := fun _ => fun
  | [d1, d2, d3] => { results := [.lit (.bool true)], args := [d1, d2, d3] }
  | _ => none }
def calcLeavesRow : OpenClaim := { program := "ytfjfpplemgjcmab", sum := "d35b04b4e7db0b5c730f052132a1fde81bdbe0baa03ba469244f19f252f9fe6b", func := "weir/weirlaw06.CalcLeaves", spec := "calcLeaves", inPlace := ["math.Float64frombits", "math.archFloor", "math.Float64bits", "math.archTrunc", "math.sqrt"], unfollowed := true, recurses := true, apart := false }
def CalcLeavesSaid : Prop := calcLeavesRow.holds Try.pinned (OpenSpec.ofChange calcLeavesSpec)

/-- ITS FALSE NEIGHBOUR: 'it returns false'. Refute it at one input. -/
def calcLeavesWrong : ChangeSpec := { name := "calcLeaves", fn := fun _ => fun
  | [d1, d2, d3] => { results := [.lit (.bool false)], args := [d1, d2, d3] }
  | _ => none }
def CalcLeavesWrongFalsely : Prop := calcLeavesRow.holds Try.pinned (OpenSpec.ofChange calcLeavesWrong)

/-- 'weirlaw06.CalcExps': WHATEVER THE INPUT: true; the input reads as it did. -/
def calcExpsSpec : ChangeSpec := { name := "calcExps", fn := fun _ => fun
  | [d] => { results := [.lit (.bool true)], args := [d] }
  | _ => none }
def calcExpsRow : OpenClaim := { program := "ytfjfpplemgjcmab", sum := "d35b04b4e7db0b5c730f052132a1fde81bdbe0baa03ba469244f19f252f9fe6b", func := "weir/weirlaw06.CalcExps", spec := "calcExps", inPlace := ["math.Float64frombits", "math.archFloor", "math.Float64bits", "math.archTrunc"], apart := false }
def CalcExpsSaid : Prop := calcExpsRow.holds Try.pinned (OpenSpec.ofChange calcExpsSpec)

/-- ITS FALSE NEIGHBOUR: 'it returns false'. Refute it at one input. -/
def calcExpsWrong : ChangeSpec := { name := "calcExps", fn := fun _ => fun
  | [d] => { results := [.lit (.bool false)], args := [d] }
  | _ => none }
def CalcExpsWrongFalsely : Prop := calcExpsRow.holds Try.pinned (OpenSpec.ofChange calcExpsWrong)

/-- 'weirlaw06.CalcPows': WHATEVER THE INPUT: true; the input reads as it did. -/
def calcPowsSpec : ChangeSpec := { name := "calcPows", fn := fun _ => fun
  | [d1, d2] => { results := [.lit (.bool true)], args := [d1, d2] }
  | _ => none }
def calcPowsRow : OpenClaim := { program := "ytfjfpplemgjcmab", sum := "d35b04b4e7db0b5c730f052132a1fde81bdbe0baa03ba469244f19f252f9fe6b", func := "weir/weirlaw06.CalcPows", spec := "calcPows", inPlace := ["math.Float64frombits", "math.Float64bits", "math.archFloor", "math.archTrunc"], apart := false }
def CalcPowsSaid : Prop := calcPowsRow.holds Try.pinned (OpenSpec.ofChange calcPowsSpec)

/-- ITS FALSE NEIGHBOUR: 'it returns false'. Refute it at one input. -/
def calcPowsWrong : ChangeSpec := { name := "calcPows", fn := fun _ => fun
  | [d1, d2] => { results := [.lit (.bool false)], args := [d1, d2] }
  | _ => none }
def CalcPowsWrongFalsely : Prop := calcPowsRow.holds Try.pinned (OpenSpec.ofChange calcPowsWrong)

/- THE SECOND FORM. 'bulk': how many values and letters a reading holds, each counted each time it is reached (what is shared counts as often as it is met; a slice's spare places count too). A statement '..UptoSaid' is the law's where the arguments, and the package variables that the reading takes, are together of bulk at most 1048576: NARROWER than '..Said'. Prove '..Said' where nothing that the law and all that it calls make is longer than what came in: it says more and counts as full. Else prove '..UptoSaid'. A law counts once. -/
mutual
def uptoBulk {H : Type} : DataW H → Nat
  | .lit (.string bytes) => bytes.length + 1
  | .lit _ => 1
  | .nil => 1
  | .ptr d => uptoBulk d + 1
  | .slice elems spare => uptoBulkAll elems + uptoBulkAll spare + 1
  | .agg parts => uptoBulkAll parts + 1
  | .iface _ d => uptoBulk d + 1
  | .map entries => uptoBulkEntries entries + 1
  | .held _ => 1
def uptoBulkAll {H : Type} : List (DataW H) → Nat
  | [] => 0
  | d :: r => uptoBulk d + uptoBulkAll r
def uptoBulkEntries {H : Type} : List (Lit × DataW H) → Nat
  | [] => 0
  | x :: r => uptoBulkEntry x + uptoBulkEntries r
def uptoBulkEntry {H : Type} : Lit × DataW H → Nat
  | (.string bytes, d) => bytes.length + uptoBulk d + 1
  | (_, d) => uptoBulk d + 1
 end
def uptoSmall : (H : Type) → List (DataW H) → Bool := fun _ ds => decide (uptoBulkAll ds ≤ 1048576)
def OpenSpec.upto (s : _root_.Go.ChangeSpec) : _root_.Go.OpenSpec := { _root_.Go.OpenSpec.ofChange s with cond := some uptoSmall }

/-- 'weirlaw06.CalcSamples', WHERE WHAT IT READS IS OF BULK AT MOST 1048576: true; the input reads as it did. -/
def calcSamplesUptoRow : OpenClaim := { program := "ytfjfpplemgjcmab", sum := "d35b04b4e7db0b5c730f052132a1fde81bdbe0baa03ba469244f19f252f9fe6b", func := "weir/weirlaw06.CalcSamples", spec := "calcSamples", inPlace := ["math.Float64frombits", "math.Float64bits", "math.sqrt"], apart := false, narrowed := true }
def CalcSamplesUptoSaid : Prop := calcSamplesUptoRow.holds Try.pinned (OpenSpec.upto calcSamplesSpec)

/-- 'weirlaw06.CalcBacks', WHERE WHAT IT READS IS OF BULK AT MOST 1048576: true; the input reads as it did. -/
def calcBacksUptoRow : OpenClaim := { program := "ytfjfpplemgjcmab", sum := "d35b04b4e7db0b5c730f052132a1fde81bdbe0baa03ba469244f19f252f9fe6b", func := "weir/weirlaw06.CalcBacks", spec := "calcBacks", inPlace := ["math.Float64frombits", "math.archFloor", "math.Float64bits", "math.archTrunc"], apart := false, narrowed := true }
def CalcBacksUptoSaid : Prop := calcBacksUptoRow.holds Try.pinned (OpenSpec.upto calcBacksSpec)

/-- 'weirlaw06.CalcQuantiles', WHERE WHAT IT READS IS OF BULK AT MOST 1048576: true; the input reads as it did. -/
def calcQuantilesUptoRow : OpenClaim := { program := "ytfjfpplemgjcmab", sum := "d35b04b4e7db0b5c730f052132a1fde81bdbe0baa03ba469244f19f252f9fe6b", func := "weir/weirlaw06.CalcQuantiles", spec := "calcQuantiles", inPlace := ["math.Float64frombits", "math.archFloor", "math.Float64bits", "math.archTrunc"], unfollowed := true, recurses := true, apart := false, narrowed := true }
def CalcQuantilesUptoSaid : Prop := calcQuantilesUptoRow.holds Try.pinned (OpenSpec.upto calcQuantilesSpec)

/-- 'weirlaw06.CalcLeaves', WHERE WHAT IT READS IS OF BULK AT MOST 1048576: true; the input reads as it did. -/
def calcLeavesUptoRow : OpenClaim := { program := "ytfjfpplemgjcmab", sum := "d35b04b4e7db0b5c730f052132a1fde81bdbe0baa03ba469244f19f252f9fe6b", func := "weir/weirlaw06.CalcLeaves", spec := "calcLeaves", inPlace := ["math.Float64frombits", "math.archFloor", "math.Float64bits", "math.archTrunc", "math.sqrt"], unfollowed := true, recurses := true, apart := false, narrowed := true }
def CalcLeavesUptoSaid : Prop := calcLeavesUptoRow.holds Try.pinned (OpenSpec.upto calcLeavesSpec)

/-- 'weirlaw06.CalcExps', WHERE WHAT IT READS IS OF BULK AT MOST 1048576: true; the input reads as it did. -/
def calcExpsUptoRow : OpenClaim := { program := "ytfjfpplemgjcmab", sum := "d35b04b4e7db0b5c730f052132a1fde81bdbe0baa03ba469244f19f252f9fe6b", func := "weir/weirlaw06.CalcExps", spec := "calcExps", inPlace := ["math.Float64frombits", "math.archFloor", "math.Float64bits", "math.archTrunc"], apart := false, narrowed := true }
def CalcExpsUptoSaid : Prop := calcExpsUptoRow.holds Try.pinned (OpenSpec.upto calcExpsSpec)

/-- 'weirlaw06.CalcPows', WHERE WHAT IT READS IS OF BULK AT MOST 1048576: true; the input reads as it did. -/
def calcPowsUptoRow : OpenClaim := { program := "ytfjfpplemgjcmab", sum := "d35b04b4e7db0b5c730f052132a1fde81bdbe0baa03ba469244f19f252f9fe6b", func := "weir/weirlaw06.CalcPows", spec := "calcPows", inPlace := ["math.Float64frombits", "math.Float64bits", "math.archFloor", "math.archTrunc"], apart := false, narrowed := true }
def CalcPowsUptoSaid : Prop := calcPowsUptoRow.holds Try.pinned (OpenSpec.upto calcPowsSpec)

end Rows
end Go.Proofs.Ytfjfpplemgjcmab
