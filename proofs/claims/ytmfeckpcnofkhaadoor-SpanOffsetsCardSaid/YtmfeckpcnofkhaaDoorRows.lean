/-
  NARROWER THAN 'FOR EVERY INPUT', by the rows' own cells (each row's printed sentence says how): SpanDays: laid · SpanMoments: laid · SpanDurations: laid · SpanOffsets: laid · SpanStamps: laid.
  DERIVED. THE GIVEN ROWS OF THIS SEAT. 5 by the template 'for every input the law returns true; each argument reads behind the call as it read before'; 0 by the template 'total and deterministic' (their statements: YtmfeckpcnofkhaaDoorTotals.lean).
  GIVEN WITH THE SEED: the statements are not yours to turn. If you find one false, say at which input.
  Laid BY PROGRAM, IN A SANDBOX (cutbox-rows.mjs): the forced cells as the released guide's own fill.sh prints them over the translation fb12885960b3a6bb… (all of the seat's roots in one cut). By AI agents, Wed Nov 11 2026. No macro, syntax, notation, axiom, sorry.
-/
import Derived.Test.YtmfeckpcnofkhaaDoorChecked
import GoSem.PinnedTables
import GoSem.Claim
import GoSem.ClaimJoined
import GoSem.ClaimMapViews
import Derived.JoinedTies
import Derived.KernelRfl
namespace Go.Proofs.YtmfeckpcnofkhaaDoor
/- THE CELL 'sum', in the pinned program and in every row, IS THE sha256 OF THE DUMP (.gsa) THAT YtmfeckpcnofkhaaDoorProg.lean LOADS. Nothing in Lean hashes anything: it is a label: what it is worth is what the hold of that sum in a sandbox is worth. -/
noncomputable def Tryd.pinned : Pinned := { name := "ytmfeckpcnofkhaadoor", sum := "fb12885960b3a6bb1ab8805c7e065e9ef7b26b81aa72a1ae2745db711edf4f5f", checked := Tryd.checked }
namespace Rows
def none {H : Type} : Left H := { results := [], args := [] }

/- WHAT THE LISTED PACKAGE-LEVEL VARIABLES READ AS WHEN THE CALL BEGINS. Each datum BY PROGRAM (the guide's laid-datum.mjs) off the statement by which the dump's own 'gosem.cut.vars' lays the variable. In a bare row this is a premise. The card (YtmfeckpcnofkhaaDoorCards.lean) ties it to the program's text. -/
def laid_weir_span_units {H : Type} : DataW H := .agg [.agg [.lit (.string [121]), .lit (.int .i64 31536000000)], .agg [.lit (.string [119]), .lit (.int .i64 604800000)], .agg [.lit (.string [100]), .lit (.int .i64 86400000)], .agg [.lit (.string [104]), .lit (.int .i64 3600000)], .agg [.lit (.string [109]), .lit (.int .i64 60000)], .agg [.lit (.string [115]), .lit (.int .i64 1000)], .agg [.lit (.string [109, 115]), .lit (.int .i64 1)]]
def laid_math_bits_deBruijn32tab {H : Type} : DataW H := .agg [.lit (.int .u8 0), .lit (.int .u8 1), .lit (.int .u8 28), .lit (.int .u8 2), .lit (.int .u8 29), .lit (.int .u8 14), .lit (.int .u8 24), .lit (.int .u8 3), .lit (.int .u8 30), .lit (.int .u8 22), .lit (.int .u8 20), .lit (.int .u8 15), .lit (.int .u8 25), .lit (.int .u8 17), .lit (.int .u8 4), .lit (.int .u8 8), .lit (.int .u8 31), .lit (.int .u8 27), .lit (.int .u8 13), .lit (.int .u8 23), .lit (.int .u8 21), .lit (.int .u8 19), .lit (.int .u8 16), .lit (.int .u8 7), .lit (.int .u8 26), .lit (.int .u8 12), .lit (.int .u8 18), .lit (.int .u8 6), .lit (.int .u8 11), .lit (.int .u8 5), .lit (.int .u8 10), .lit (.int .u8 9)]
def laid_math_bits_deBruijn64tab {H : Type} : DataW H := .agg [.lit (.int .u8 0), .lit (.int .u8 1), .lit (.int .u8 56), .lit (.int .u8 2), .lit (.int .u8 57), .lit (.int .u8 49), .lit (.int .u8 28), .lit (.int .u8 3), .lit (.int .u8 61), .lit (.int .u8 58), .lit (.int .u8 42), .lit (.int .u8 50), .lit (.int .u8 38), .lit (.int .u8 29), .lit (.int .u8 17), .lit (.int .u8 4), .lit (.int .u8 62), .lit (.int .u8 47), .lit (.int .u8 59), .lit (.int .u8 36), .lit (.int .u8 45), .lit (.int .u8 43), .lit (.int .u8 51), .lit (.int .u8 22), .lit (.int .u8 53), .lit (.int .u8 39), .lit (.int .u8 33), .lit (.int .u8 30), .lit (.int .u8 24), .lit (.int .u8 18), .lit (.int .u8 12), .lit (.int .u8 5), .lit (.int .u8 63), .lit (.int .u8 55), .lit (.int .u8 48), .lit (.int .u8 27), .lit (.int .u8 60), .lit (.int .u8 41), .lit (.int .u8 37), .lit (.int .u8 16), .lit (.int .u8 46), .lit (.int .u8 35), .lit (.int .u8 44), .lit (.int .u8 21), .lit (.int .u8 52), .lit (.int .u8 32), .lit (.int .u8 23), .lit (.int .u8 11), .lit (.int .u8 54), .lit (.int .u8 26), .lit (.int .u8 40), .lit (.int .u8 15), .lit (.int .u8 34), .lit (.int .u8 20), .lit (.int .u8 31), .lit (.int .u8 10), .lit (.int .u8 25), .lit (.int .u8 14), .lit (.int .u8 19), .lit (.int .u8 9), .lit (.int .u8 13), .lit (.int .u8 8), .lit (.int .u8 7), .lit (.int .u8 6)]
def laid_internal_strconv_uint64pow10 {H : Type} : DataW H := .agg [.lit (.int .u64 1), .lit (.int .u64 10), .lit (.int .u64 100), .lit (.int .u64 1000), .lit (.int .u64 10000), .lit (.int .u64 100000), .lit (.int .u64 1000000), .lit (.int .u64 10000000), .lit (.int .u64 100000000), .lit (.int .u64 1000000000), .lit (.int .u64 10000000000), .lit (.int .u64 100000000000), .lit (.int .u64 1000000000000), .lit (.int .u64 10000000000000), .lit (.int .u64 100000000000000), .lit (.int .u64 1000000000000000), .lit (.int .u64 10000000000000000), .lit (.int .u64 100000000000000000), .lit (.int .u64 1000000000000000000), .lit (.int .u64 10000000000000000000)]
def laid_unicode_utf8_acceptRanges {H : Type} : DataW H := .agg [.agg [.lit (.int .u8 128), .lit (.int .u8 191)], .agg [.lit (.int .u8 160), .lit (.int .u8 191)], .agg [.lit (.int .u8 128), .lit (.int .u8 159)], .agg [.lit (.int .u8 144), .lit (.int .u8 191)], .agg [.lit (.int .u8 128), .lit (.int .u8 143)], .agg [.lit (.int .u8 0), .lit (.int .u8 0)], .agg [.lit (.int .u8 0), .lit (.int .u8 0)], .agg [.lit (.int .u8 0), .lit (.int .u8 0)], .agg [.lit (.int .u8 0), .lit (.int .u8 0)], .agg [.lit (.int .u8 0), .lit (.int .u8 0)], .agg [.lit (.int .u8 0), .lit (.int .u8 0)], .agg [.lit (.int .u8 0), .lit (.int .u8 0)], .agg [.lit (.int .u8 0), .lit (.int .u8 0)], .agg [.lit (.int .u8 0), .lit (.int .u8 0)], .agg [.lit (.int .u8 0), .lit (.int .u8 0)], .agg [.lit (.int .u8 0), .lit (.int .u8 0)]]
/-- One of Go's own tables, pinned by name: the form's constant. -/
def laid_unicode_utf8_first : DataW Unit := Go.Pinned.utf8First

/-- 'weirlaw03.SpanDays': WHATEVER THE INPUT: true; the input reads as it did. -/
def spanDaysSpec : ChangeSpec := { name := "spanDays", fn := fun _ => fun
  | [d] => { results := [.lit (.bool true)], args := [d] }
  | _ => none }
def spanDaysRow : OpenClaim := { program := "ytmfeckpcnofkhaadoor", sum := "fb12885960b3a6bb1ab8805c7e065e9ef7b26b81aa72a1ae2745db711edf4f5f", func := "weir/weirlaw03.SpanDays", spec := "spanDays", named := ["weir/span.units"], apart := false, laid := [("weir/span.units", laid_weir_span_units)] }
def SpanDaysSaid : Prop := spanDaysRow.holds Tryd.pinned (OpenSpec.ofChange spanDaysSpec)

/-- ITS FALSE NEIGHBOUR: 'it returns false'. Refute it at one input. -/
def spanDaysWrong : ChangeSpec := { name := "spanDays", fn := fun _ => fun
  | [d] => { results := [.lit (.bool false)], args := [d] }
  | _ => none }
def SpanDaysWrongFalsely : Prop := spanDaysRow.holds Tryd.pinned (OpenSpec.ofChange spanDaysWrong)

/-- 'weirlaw03.SpanMoments': WHATEVER THE INPUT: true; the input reads as it did. -/
def spanMomentsSpec : ChangeSpec := { name := "spanMoments", fn := fun _ => fun
  | [d] => { results := [.lit (.bool true)], args := [d] }
  | _ => none }
def spanMomentsRow : OpenClaim := { program := "ytmfeckpcnofkhaadoor", sum := "fb12885960b3a6bb1ab8805c7e065e9ef7b26b81aa72a1ae2745db711edf4f5f", func := "weir/weirlaw03.SpanMoments", spec := "spanMoments", named := ["weir/span.units"], apart := false, laid := [("weir/span.units", laid_weir_span_units)] }
def SpanMomentsSaid : Prop := spanMomentsRow.holds Tryd.pinned (OpenSpec.ofChange spanMomentsSpec)

/-- ITS FALSE NEIGHBOUR: 'it returns false'. Refute it at one input. -/
def spanMomentsWrong : ChangeSpec := { name := "spanMoments", fn := fun _ => fun
  | [d] => { results := [.lit (.bool false)], args := [d] }
  | _ => none }
def SpanMomentsWrongFalsely : Prop := spanMomentsRow.holds Tryd.pinned (OpenSpec.ofChange spanMomentsWrong)

/-- 'weirlaw03.SpanDurations': WHATEVER THE INPUT: true; the input reads as it did. -/
def spanDurationsSpec : ChangeSpec := { name := "spanDurations", fn := fun _ => fun
  | [d] => { results := [.lit (.bool true)], args := [d] }
  | _ => none }
def spanDurationsRow : OpenClaim := { program := "ytmfeckpcnofkhaadoor", sum := "fb12885960b3a6bb1ab8805c7e065e9ef7b26b81aa72a1ae2745db711edf4f5f", func := "weir/weirlaw03.SpanDurations", spec := "spanDurations", named := ["weir/span.units"], apart := false, laid := [("weir/span.units", laid_weir_span_units)] }
def SpanDurationsSaid : Prop := spanDurationsRow.holds Tryd.pinned (OpenSpec.ofChange spanDurationsSpec)

/-- ITS FALSE NEIGHBOUR: 'it returns false'. Refute it at one input. -/
def spanDurationsWrong : ChangeSpec := { name := "spanDurations", fn := fun _ => fun
  | [d] => { results := [.lit (.bool false)], args := [d] }
  | _ => none }
def SpanDurationsWrongFalsely : Prop := spanDurationsRow.holds Tryd.pinned (OpenSpec.ofChange spanDurationsWrong)

/-- 'weirlaw03.SpanOffsets': WHATEVER THE INPUT: true; the input reads as it did. -/
def spanOffsetsSpec : ChangeSpec := { name := "spanOffsets", fn := fun _ => fun
  | [d1, d2] => { results := [.lit (.bool true)], args := [d1, d2] }
  | _ => none }
def spanOffsetsRow : OpenClaim := { program := "ytmfeckpcnofkhaadoor", sum := "fb12885960b3a6bb1ab8805c7e065e9ef7b26b81aa72a1ae2745db711edf4f5f", func := "weir/weirlaw03.SpanOffsets", spec := "spanOffsets", inPlace := ["internal/bytealg.IndexByteString", "internal/bytealg.IndexString", "internal/bytealg.abigen_runtime_cmpstring", "internal/abi.NoEscape", "internal/bytealg.MakeNoZero"], named := ["unicode/utf8.first", "unicode/utf8.acceptRanges", "weir/span.units", "internal/strconv.uint64pow10", "math/bits.deBruijn32tab", "math/bits.deBruijn64tab", "internal/bytealg.MaxLen"], apart := false, laid := [("math/bits.deBruijn32tab", laid_math_bits_deBruijn32tab), ("math/bits.deBruijn64tab", laid_math_bits_deBruijn64tab), ("internal/strconv.uint64pow10", laid_internal_strconv_uint64pow10), ("unicode/utf8.acceptRanges", laid_unicode_utf8_acceptRanges), ("weir/span.units", laid_weir_span_units), ("unicode/utf8.first", laid_unicode_utf8_first)] }
def SpanOffsetsSaid : Prop := spanOffsetsRow.holds Tryd.pinned (OpenSpec.ofChange spanOffsetsSpec)

/-- ITS FALSE NEIGHBOUR: 'it returns false'. Refute it at one input. -/
def spanOffsetsWrong : ChangeSpec := { name := "spanOffsets", fn := fun _ => fun
  | [d1, d2] => { results := [.lit (.bool false)], args := [d1, d2] }
  | _ => none }
def SpanOffsetsWrongFalsely : Prop := spanOffsetsRow.holds Tryd.pinned (OpenSpec.ofChange spanOffsetsWrong)

/-- 'weirlaw03.SpanStamps': WHATEVER THE INPUT: true; the input reads as it did. -/
def spanStampsSpec : ChangeSpec := { name := "spanStamps", fn := fun _ => fun
  | [d] => { results := [.lit (.bool true)], args := [d] }
  | _ => none }
def spanStampsRow : OpenClaim := { program := "ytmfeckpcnofkhaadoor", sum := "fb12885960b3a6bb1ab8805c7e065e9ef7b26b81aa72a1ae2745db711edf4f5f", func := "weir/weirlaw03.SpanStamps", spec := "spanStamps", inPlace := ["internal/bytealg.IndexByteString", "internal/bytealg.IndexString", "internal/bytealg.abigen_runtime_cmpstring"], named := ["unicode/utf8.first", "unicode/utf8.acceptRanges", "weir/span.units", "internal/bytealg.MaxLen"], apart := false, laid := [("unicode/utf8.acceptRanges", laid_unicode_utf8_acceptRanges), ("weir/span.units", laid_weir_span_units), ("unicode/utf8.first", laid_unicode_utf8_first)] }
def SpanStampsSaid : Prop := spanStampsRow.holds Tryd.pinned (OpenSpec.ofChange spanStampsSpec)

/-- ITS FALSE NEIGHBOUR: 'it returns false'. Refute it at one input. -/
def spanStampsWrong : ChangeSpec := { name := "spanStamps", fn := fun _ => fun
  | [d] => { results := [.lit (.bool false)], args := [d] }
  | _ => none }
def SpanStampsWrongFalsely : Prop := spanStampsRow.holds Tryd.pinned (OpenSpec.ofChange spanStampsWrong)

/- THE SECOND FORM. 'bulk': how many values and letters a reading holds, each counted each time it is reached (what is shared counts as often as it is met; a slice's spare places count too). A statement '..UptoSaid' is the law's where the arguments, and the package variables that the reading takes, are together of bulk at most 1048576: NARROWER than '..Said'. Prove '..Said' where nothing that the law and all that it calls make is longer than what came in: it says more and counts as full. Else prove '..UptoSaid'. A law counts once. -/
mutual
def uptoBulk {H : Type} : DataW H → Nat
  | .lit (.string bytes) => bytes.length + 1
  | .lit _ => 1
  | .nil => 1
  | .ptr d => uptoBulk d + 1
  | .slice elems spare => uptoBulkAll elems + uptoBulkAll spare + 1
  | .agg parts => uptoBulkAll parts + 1
  | .iface _ d => uptoBulk d + 1
  | .map entries => uptoBulkEntries entries + 1
  | .held _ => 1
def uptoBulkAll {H : Type} : List (DataW H) → Nat
  | [] => 0
  | d :: r => uptoBulk d + uptoBulkAll r
def uptoBulkEntries {H : Type} : List (Lit × DataW H) → Nat
  | [] => 0
  | x :: r => uptoBulkEntry x + uptoBulkEntries r
def uptoBulkEntry {H : Type} : Lit × DataW H → Nat
  | (.string bytes, d) => bytes.length + uptoBulk d + 1
  | (_, d) => uptoBulk d + 1
 end
def uptoSmall : (H : Type) → List (DataW H) → Bool := fun _ ds => decide (uptoBulkAll ds ≤ 1048576)
def OpenSpec.upto (s : _root_.Go.ChangeSpec) : _root_.Go.OpenSpec := { _root_.Go.OpenSpec.ofChange s with cond := some uptoSmall }

/-- 'weirlaw03.SpanDays', WHERE WHAT IT READS IS OF BULK AT MOST 1048576: true; the input reads as it did. -/
def spanDaysUptoRow : OpenClaim := { program := "ytmfeckpcnofkhaadoor", sum := "fb12885960b3a6bb1ab8805c7e065e9ef7b26b81aa72a1ae2745db711edf4f5f", func := "weir/weirlaw03.SpanDays", spec := "spanDays", named := ["weir/span.units"], apart := false, laid := [("weir/span.units", laid_weir_span_units)], narrowed := true }
def SpanDaysUptoSaid : Prop := spanDaysUptoRow.holds Tryd.pinned (OpenSpec.upto spanDaysSpec)

/-- 'weirlaw03.SpanMoments', WHERE WHAT IT READS IS OF BULK AT MOST 1048576: true; the input reads as it did. -/
def spanMomentsUptoRow : OpenClaim := { program := "ytmfeckpcnofkhaadoor", sum := "fb12885960b3a6bb1ab8805c7e065e9ef7b26b81aa72a1ae2745db711edf4f5f", func := "weir/weirlaw03.SpanMoments", spec := "spanMoments", named := ["weir/span.units"], apart := false, laid := [("weir/span.units", laid_weir_span_units)], narrowed := true }
def SpanMomentsUptoSaid : Prop := spanMomentsUptoRow.holds Tryd.pinned (OpenSpec.upto spanMomentsSpec)

/-- 'weirlaw03.SpanDurations', WHERE WHAT IT READS IS OF BULK AT MOST 1048576: true; the input reads as it did. -/
def spanDurationsUptoRow : OpenClaim := { program := "ytmfeckpcnofkhaadoor", sum := "fb12885960b3a6bb1ab8805c7e065e9ef7b26b81aa72a1ae2745db711edf4f5f", func := "weir/weirlaw03.SpanDurations", spec := "spanDurations", named := ["weir/span.units"], apart := false, laid := [("weir/span.units", laid_weir_span_units)], narrowed := true }
def SpanDurationsUptoSaid : Prop := spanDurationsUptoRow.holds Tryd.pinned (OpenSpec.upto spanDurationsSpec)

/-- 'weirlaw03.SpanOffsets', WHERE WHAT IT READS IS OF BULK AT MOST 1048576: true; the input reads as it did. -/
def spanOffsetsUptoRow : OpenClaim := { program := "ytmfeckpcnofkhaadoor", sum := "fb12885960b3a6bb1ab8805c7e065e9ef7b26b81aa72a1ae2745db711edf4f5f", func := "weir/weirlaw03.SpanOffsets", spec := "spanOffsets", inPlace := ["internal/bytealg.IndexByteString", "internal/bytealg.IndexString", "internal/bytealg.abigen_runtime_cmpstring", "internal/abi.NoEscape", "internal/bytealg.MakeNoZero"], named := ["unicode/utf8.first", "unicode/utf8.acceptRanges", "weir/span.units", "internal/strconv.uint64pow10", "math/bits.deBruijn32tab", "math/bits.deBruijn64tab", "internal/bytealg.MaxLen"], apart := false, laid := [("math/bits.deBruijn32tab", laid_math_bits_deBruijn32tab), ("math/bits.deBruijn64tab", laid_math_bits_deBruijn64tab), ("internal/strconv.uint64pow10", laid_internal_strconv_uint64pow10), ("unicode/utf8.acceptRanges", laid_unicode_utf8_acceptRanges), ("weir/span.units", laid_weir_span_units), ("unicode/utf8.first", laid_unicode_utf8_first)], narrowed := true }
def SpanOffsetsUptoSaid : Prop := spanOffsetsUptoRow.holds Tryd.pinned (OpenSpec.upto spanOffsetsSpec)

/-- 'weirlaw03.SpanStamps', WHERE WHAT IT READS IS OF BULK AT MOST 1048576: true; the input reads as it did. -/
def spanStampsUptoRow : OpenClaim := { program := "ytmfeckpcnofkhaadoor", sum := "fb12885960b3a6bb1ab8805c7e065e9ef7b26b81aa72a1ae2745db711edf4f5f", func := "weir/weirlaw03.SpanStamps", spec := "spanStamps", inPlace := ["internal/bytealg.IndexByteString", "internal/bytealg.IndexString", "internal/bytealg.abigen_runtime_cmpstring"], named := ["unicode/utf8.first", "unicode/utf8.acceptRanges", "weir/span.units", "internal/bytealg.MaxLen"], apart := false, laid := [("unicode/utf8.acceptRanges", laid_unicode_utf8_acceptRanges), ("weir/span.units", laid_weir_span_units), ("unicode/utf8.first", laid_unicode_utf8_first)], narrowed := true }
def SpanStampsUptoSaid : Prop := spanStampsUptoRow.holds Tryd.pinned (OpenSpec.upto spanStampsSpec)

end Rows
end Go.Proofs.YtmfeckpcnofkhaaDoor
