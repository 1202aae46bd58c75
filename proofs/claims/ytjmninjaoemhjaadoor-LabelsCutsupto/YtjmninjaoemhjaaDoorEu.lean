/- The plain mathematics of layer 1: what Next answers, by the model's own decoder. -/
import Derived.Lib.DecodeN
import Derived.Test.YtjmninjaoemhjaaDoorDb
import Derived.Lib.Strings
import Derived.Lib.IndexBytes
namespace Go.Proofs.YtjmninjaoemhjaaDoor

/-- The rune that begins at a place, and its width; -1 and 0: none. -/
def nxt (s : ByteArray) (i : Nat) : Int × Int :=
  if i < s.size then (if (Utf8.decode s i).1 = 65533 ∧ (Utf8.decode s i).2 = 1 then (-1, 0) else (((Utf8.decode s i).1 : Nat), ((Utf8.decode s i).2 : Nat))) else (-1, 0)

theorem get!_big (s : ByteArray) (k : Nat) (h : s.size ≤ k) : s.get! k = 0 := by
  cases s with
  | mk d =>
    show d[k]! = 0
    rw [getElem!_neg d k (by have h' : d.size ≤ k := h; omega)]
    rfl
theorem get!_lt (s : ByteArray) (k : Nat) (h : k < s.size) : s.get! k = s[k]'h := by
  cases s with
  | mk d => exact getElem!_pos d k h

theorem get!_extract (s : ByteArray) (a i : Nat) : (s.extract a s.size).get! i = s.get! (a + i) := by
  by_cases h : a + i < s.size
  · rw [get!_lt _ _ (by simp; omega), get!_lt _ _ h]
    simp [ByteArray.getElem_extract]
  · rw [get!_big s _ (by omega), get!_big _ _ (by simp; omega)]

theorem decode_extract (s : ByteArray) (a : Nat) : Utf8.decode (s.extract a s.size) 0 = Utf8.decode s a := by
  rw [Lib.decode_at, Lib.decode_at]
  simp only [get!_extract, Nat.zero_add, Nat.add_zero]
  congr 1
  simp
/-- The same at a place that may be below 0. -/
def nxtZ (s : ByteArray) (a : Int) : Int × Int := if 0 ≤ a then nxt s a.toNat else (-1, 0)
theorem nxt_out (s : ByteArray) (i : Nat) (h : s.size ≤ i) : nxt s i = (-1, 0) := by
  unfold nxt; rw [if_neg (by omega)]
/-- A rune begins at a place of the text just where the decoder does not answer (65533, 1). -/
theorem nxt_no (s : ByteArray) (i : Nat) (h : i < s.size) : (nxt s i).2 = 0 ↔ (Utf8.decode s i).1 = 65533 ∧ (Utf8.decode s i).2 = 1 := by
  have hw := decode_width s i
  unfold nxt
  rw [if_pos h]
  by_cases hc : (Utf8.decode s i).1 = 65533 ∧ (Utf8.decode s i).2 = 1
  · rw [if_pos hc]; simp [hc]
  · rw [if_neg hc]
    constructor
    · intro h2
      have : ((Utf8.decode s i).2 : Int) = 0 := h2
      omega
    · intro h2; exact absurd h2 hc
theorem nxt_pos (s : ByteArray) (i : Nat) : 0 ≤ (nxt s i).2 := by
  unfold nxt
  repeat' split
  all_goals simp
theorem nxt_width (s : ByteArray) (i : Nat) (h : (nxt s i).2 ≠ 0) : (nxt s i).2 = ((Utf8.decode s i).2 : Nat) ∧ (nxt s i).1 = ((Utf8.decode s i).1 : Nat) := by
  unfold nxt at h ⊢
  split
  · split
    · simp_all
    · exact ⟨rfl, rfl⟩
  · simp_all
/-- Is the text UTF-8 from a place on? -/
def vld (s : ByteArray) : Nat → Nat → Bool
  | 0, _ => true
  | f + 1, i => if i < s.size then (if (nxt s i).2 = 0 then false else vld s f (i + (Utf8.decode s i).2)) else true
theorem vld_end (s : ByteArray) (f i : Nat) (h : ¬ i < s.size) : vld s f i = true := by
  cases f with
  | zero => rfl
  | succ f => simp [vld, h]
theorem vld_bad (s : ByteArray) (f i : Nat) (h : i < s.size) (hz : (nxt s i).2 = 0) : vld s (f + 1) i = false := by
  simp [vld, h, hz]
theorem vld_good (s : ByteArray) (f i : Nat) (h : i < s.size) (hz : (nxt s i).2 ≠ 0) : vld s (f + 1) i = vld s f (i + (Utf8.decode s i).2) := by
  simp [vld, h, hz]
end Go.Proofs.YtjmninjaoemhjaaDoor
