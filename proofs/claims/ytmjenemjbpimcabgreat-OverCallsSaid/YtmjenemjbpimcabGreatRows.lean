/-
  No cell of these rows narrows 'for every input' (looked for: loops, veiled, ifaces, maps, wideKeys, modest, calm, conditions, laid).
  DERIVED. THE GIVEN ROWS OF THIS SEAT. 2 by the template 'for every input the law returns true; each argument reads behind the call as it read before'; 0 by the template 'total and deterministic' (their statements: YtmjenemjbpimcabGreatTotals.lean).
  GIVEN WITH THE SEED: the statements are not yours to turn. If you find one false, say at which input.
  Laid BY PROGRAM, IN A SANDBOX (cutbox-rows.mjs): the forced cells as the released guide's own fill.sh prints them over the translation c4ad1404ce2f6589… (all of the seat's roots in one cut). By AI agents, Wed Nov 11 2026. No macro, syntax, notation, axiom, sorry.
-/
import Derived.Test.YtmjenemjbpimcabGreatChecked
import GoSem.Claim
import GoSem.ClaimJoined
import GoSem.ClaimMapViews
import Derived.JoinedTies
import Derived.KernelRfl
namespace Go.Proofs.YtmjenemjbpimcabGreat
/- THE CELL 'sum', in the pinned program and in every row, IS THE sha256 OF THE DUMP (.gsa) THAT YtmjenemjbpimcabGreatProg.lean LOADS. Nothing in Lean hashes anything: it is a label: what it is worth is what the hold of that sum in a sandbox is worth. -/
noncomputable def Tryz.pinned : Pinned := { name := "ytmjenemjbpimcabgreat", sum := "c4ad1404ce2f65894f32ac0c265d72ca471e4c0212d9ad8cbb9ec4eedc0b80a0", checked := Tryz.checked }
namespace Rows
def none {H : Type} : Left H := { results := [], args := [] }

/-- 'weirlaw20.OverShift': WHATEVER THE INPUT: true; the input reads as it did. -/
def overShiftSpec : ChangeSpec := { name := "overShift", fn := fun _ => fun
  | [d1, d2, d3] => { results := [.lit (.bool true)], args := [d1, d2, d3] }
  | _ => none }
def overShiftRow : OpenClaim := { program := "ytmjenemjbpimcabgreat", sum := "c4ad1404ce2f65894f32ac0c265d72ca471e4c0212d9ad8cbb9ec4eedc0b80a0", func := "weir/weirlaw20.OverShift", spec := "overShift", inPlace := ["math.Float64bits", "math.Float64frombits", "math.sqrt", "math.archFloor", "math.archTrunc"], unfollowed := true, recurses := true, apart := false }
def OverShiftSaid : Prop := overShiftRow.holds Tryz.pinned (OpenSpec.ofChange overShiftSpec)

/-- ITS FALSE NEIGHBOUR: 'it returns false'. Refute it at one input. -/
def overShiftWrong : ChangeSpec := { name := "overShift", fn := fun _ => fun
  | [d1, d2, d3] => { results := [.lit (.bool false)], args := [d1, d2, d3] }
  | _ => none }
def OverShiftWrongFalsely : Prop := overShiftRow.holds Tryz.pinned (OpenSpec.ofChange overShiftWrong)

/-- 'weirlaw20.OverCalls': WHATEVER THE INPUT: true; the input reads as it did. -/
def overCallsSpec : ChangeSpec := { name := "overCalls", fn := fun _ => fun
  | [d1, d2, d3] => { results := [.lit (.bool true)], args := [d1, d2, d3] }
  | _ => none }
def overCallsRow : OpenClaim := { program := "ytmjenemjbpimcabgreat", sum := "c4ad1404ce2f65894f32ac0c265d72ca471e4c0212d9ad8cbb9ec4eedc0b80a0", func := "weir/weirlaw20.OverCalls", spec := "overCalls", inPlace := ["math.Float64bits", "math.Float64frombits", "math.sqrt", "math.archFloor", "math.archTrunc"], unfollowed := true, recurses := true, apart := false }
def OverCallsSaid : Prop := overCallsRow.holds Tryz.pinned (OpenSpec.ofChange overCallsSpec)

/-- ITS FALSE NEIGHBOUR: 'it returns false'. Refute it at one input. -/
def overCallsWrong : ChangeSpec := { name := "overCalls", fn := fun _ => fun
  | [d1, d2, d3] => { results := [.lit (.bool false)], args := [d1, d2, d3] }
  | _ => none }
def OverCallsWrongFalsely : Prop := overCallsRow.holds Tryz.pinned (OpenSpec.ofChange overCallsWrong)

/- THE SECOND FORM. 'bulk': how many values and letters a reading holds, each counted each time it is reached (what is shared counts as often as it is met; a slice's spare places count too). A statement '..UptoSaid' is the law's where the arguments, and the package variables that the reading takes, are together of bulk at most 1048576: NARROWER than '..Said'. Prove '..Said' where nothing that the law and all that it calls make is longer than what came in: it says more and counts as full. Else prove '..UptoSaid'. A law counts once. -/
mutual
def uptoBulk {H : Type} : DataW H → Nat
  | .lit (.string bytes) => bytes.length + 1
  | .lit _ => 1
  | .nil => 1
  | .ptr d => uptoBulk d + 1
  | .slice elems spare => uptoBulkAll elems + uptoBulkAll spare + 1
  | .agg parts => uptoBulkAll parts + 1
  | .iface _ d => uptoBulk d + 1
  | .map entries => uptoBulkEntries entries + 1
  | .held _ => 1
def uptoBulkAll {H : Type} : List (DataW H) → Nat
  | [] => 0
  | d :: r => uptoBulk d + uptoBulkAll r
def uptoBulkEntries {H : Type} : List (Lit × DataW H) → Nat
  | [] => 0
  | x :: r => uptoBulkEntry x + uptoBulkEntries r
def uptoBulkEntry {H : Type} : Lit × DataW H → Nat
  | (.string bytes, d) => bytes.length + uptoBulk d + 1
  | (_, d) => uptoBulk d + 1
 end
def uptoSmall : (H : Type) → List (DataW H) → Bool := fun _ ds => decide (uptoBulkAll ds ≤ 1048576)
def OpenSpec.upto (s : _root_.Go.ChangeSpec) : _root_.Go.OpenSpec := { _root_.Go.OpenSpec.ofChange s with cond := some uptoSmall }

/-- 'weirlaw20.OverShift', WHERE WHAT IT READS IS OF BULK AT MOST 1048576: true; the input reads as it did. -/
def overShiftUptoRow : OpenClaim := { program := "ytmjenemjbpimcabgreat", sum := "c4ad1404ce2f65894f32ac0c265d72ca471e4c0212d9ad8cbb9ec4eedc0b80a0", func := "weir/weirlaw20.OverShift", spec := "overShift", inPlace := ["math.Float64bits", "math.Float64frombits", "math.sqrt", "math.archFloor", "math.archTrunc"], unfollowed := true, recurses := true, apart := false, narrowed := true }
def OverShiftUptoSaid : Prop := overShiftUptoRow.holds Tryz.pinned (OpenSpec.upto overShiftSpec)

/-- 'weirlaw20.OverCalls', WHERE WHAT IT READS IS OF BULK AT MOST 1048576: true; the input reads as it did. -/
def overCallsUptoRow : OpenClaim := { program := "ytmjenemjbpimcabgreat", sum := "c4ad1404ce2f65894f32ac0c265d72ca471e4c0212d9ad8cbb9ec4eedc0b80a0", func := "weir/weirlaw20.OverCalls", spec := "overCalls", inPlace := ["math.Float64bits", "math.Float64frombits", "math.sqrt", "math.archFloor", "math.archTrunc"], unfollowed := true, recurses := true, apart := false, narrowed := true }
def OverCallsUptoSaid : Prop := overCallsUptoRow.holds Tryz.pinned (OpenSpec.upto overCallsSpec)

end Rows
end Go.Proofs.YtmjenemjbpimcabGreat
