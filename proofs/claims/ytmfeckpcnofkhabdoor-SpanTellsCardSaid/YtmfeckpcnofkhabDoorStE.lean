/- The walk of the reference's seconds. -/
import Derived.Test.YtmfeckpcnofkhabDoorStD
namespace Go.Proofs.YtmfeckpcnofkhabDoor
open Go.RowKit

theorem ext_ext (s : ByteArray) (a b : Nat) (hb : a + b ≤ s.size) : (s.extract a s.size).extract b (s.extract a s.size).size = s.extract (a + b) s.size := by
  refine ba_ext ?_ (fun i hi => ?_)
  · simp only [ByteArray.size_extract]; omega
  · rw [bt_extract, bt_extract, bt_extract]
    congr 1
    omega
theorem ext_pre (s : ByteArray) (a b : Nat) (hb : a + b ≤ s.size) : (s.extract a s.size).extract 0 b = s.extract a (a + b) := by
  have e : (s.extract a s.size).size = s.size - a := by rw [ByteArray.size_extract]; omega
  refine ba_ext ?_ (fun i hi => ?_)
  · simp only [ByteArray.size_extract]; omega
  · rw [ByteArray.size_extract, e] at hi
    rw [bt_ext _ 0 b i (by omega) (by omega), bt_extract, bt_ext s a (a + b) i (by omega) hb]
    congr 1
    omega
theorem sa_le (s : ByteArray) : sa s ≤ s.size ∧ sa s ≤ 1 := by
  unfold sa
  split
  · rename_i h
    have : 0 < s.size := h.elim (·.1) (·.1)
    omega
  · omega
/-- The parts of a number of seconds, by places in the text itself. -/
theorem sec_parts (s : ByteArray) : ∃ j : Nat, rn s (sa s) = j ∧ sa s ≤ j ∧ j ≤ s.size ∧ rn (sT s) 0 + sa s = j ∧ sR s = s.extract j s.size ∧ (sT s).extract 0 (rn (sT s) 0) = s.extract (sa s) j ∧ (j < s.size → sU s = s.extract (j + 1) s.size ∧ rn (sU s) 0 + (j + 1) = rn s (j + 1)) := by
  have h1 := rn_bd s (sa s) (sa_le s).1
  have h2 := rn_ext s (sa s)
  have h3 : rn (sT s) 0 + sa s = rn s (sa s) := h2
  refine ⟨rn s (sa s), rfl, h1.1, h1.2, h3, ?_, ?_, fun hj => ?_⟩
  · unfold sR
    have := ext_ext s (sa s) (rn (sT s) 0) (by omega)
    rw [show sa s + rn (sT s) 0 = rn s (sa s) by omega] at this
    exact this
  · have := ext_pre s (sa s) (rn (sT s) 0) (by omega)
    rw [show sa s + rn (sT s) 0 = rn s (sa s) by omega] at this
    exact this
  · have e : sU s = s.extract (rn s (sa s) + 1) s.size := by
      unfold sU
      have h4 : sR s = s.extract (rn s (sa s)) s.size := by
        unfold sR
        have := ext_ext s (sa s) (rn (sT s) 0) (by omega)
        rw [show sa s + rn (sT s) 0 = rn s (sa s) by omega] at this
        exact this
      rw [h4]
      exact ext_ext s (rn s (sa s)) 1 (by omega)
    refine ⟨e, ?_⟩
    rw [e]
    exact rn_ext s (rn s (sa s) + 1)
theorem hp_R (s : ByteArray) (j : Nat) (h : sR s = s.extract j s.size) : hp (sR s) 46 ↔ j < s.size ∧ bt s j = 46 := by
  unfold hp
  rw [h, bt_extract, Nat.add_zero, ByteArray.size_extract]
  have : ((46 : UInt8).toNat : Int) = 46 := rfl
  rw [this]
  constructor
  · rintro ⟨a, b⟩; exact ⟨by omega, b⟩
  · rintro ⟨a, b⟩; exact ⟨by omega, b⟩

end Go.Proofs.YtmfeckpcnofkhabDoor
