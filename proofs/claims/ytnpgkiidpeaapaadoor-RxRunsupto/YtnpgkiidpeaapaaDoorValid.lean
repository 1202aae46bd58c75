/- The walk of utf.Valid: a range over the text. -/
import Derived.Test.YtnpgkiidpeaapaaDoorNext
import Derived.Lib.OthersKept
import Derived.WalkSmall
import Derived.LoopTactic
namespace Go.Proofs.YtnpgkiidpeaapaaDoor
open Go.RowKit Go.Lib

theorem iterPos_at {w : World} {k : Nat} {s : ByteArray} {pos : Nat} (h : w.heap[k]? = some (.stringIter s pos)) : w.iterPos k = pos := by
  unfold World.iterPos; rw [h]

theorem vld_bad' (s : ByteArray) (b i : Nat) (h : i < s.size) (hb : 0 < b) (hz : (nxt s i).2 = 0) : vld s b i = false := by
  obtain ⟨f, rfl⟩ : ∃ f, b = f + 1 := ⟨b - 1, by omega⟩
  exact vld_bad s f i h hz
theorem vld_good' (s : ByteArray) (b i : Nat) (h : i < s.size) (hb : 0 < b) (hz : (nxt s i).2 ≠ 0) : vld s b i = vld s (b - 1) (i + (Utf8.decode s i).2) := by
  obtain ⟨f, rfl⟩ : ∃ f, b = f + 1 := ⟨b - 1, by omega⟩
  exact vld_good s f i h hz

end Go.Proofs.YtnpgkiidpeaapaaDoor
