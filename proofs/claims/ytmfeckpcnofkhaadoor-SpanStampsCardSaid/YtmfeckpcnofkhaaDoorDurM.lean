/- Durations, as plain mathematics: digits, numbers, units. -/
import Derived.Lib.Strings
import Derived.Lib.IndexBytes
import Derived.Lib.IndexLaws
namespace Go.Proofs.YtmfeckpcnofkhaaDoor

theorem get!_big (s : ByteArray) (k : Nat) (h : s.size ≤ k) : s.get! k = 0 := by
  cases s with
  | mk d =>
    show d[k]! = 0
    rw [getElem!_neg d k (by have h' : d.size ≤ k := h; omega)]
    rfl
theorem get!_lt (s : ByteArray) (k : Nat) (h : k < s.size) : s.get! k = s[k]'h := by
  cases s with
  | mk d => exact getElem!_pos d k h
theorem get!_extract (s : ByteArray) (a i : Nat) : (s.extract a s.size).get! i = s.get! (a + i) := by
  by_cases h : a + i < s.size
  · rw [get!_lt _ _ (by simp; omega), get!_lt _ _ h]
    simp [ByteArray.getElem_extract]
  · rw [get!_big s _ (by omega), get!_big _ _ (by simp; omega)]
/-- A byte, as a number. -/
def bt (s : ByteArray) (i : Nat) : Int := ((s.get! i).toNat : Int)
theorem bt_bd (s : ByteArray) (i : Nat) : 0 ≤ bt s i ∧ bt s i ≤ 255 := by
  unfold bt
  have := (s.get! i).toNat_lt
  omega
theorem bt_at (s : ByteArray) (i : Nat) (h : i < s.size) : ((s[i]'h).toNat : Int) = bt s i := by
  unfold bt; rw [get!_lt s i h]
theorem bt_extract (s : ByteArray) (a i : Nat) : bt (s.extract a s.size) i = bt s (a + i) := by unfold bt; rw [get!_extract]
theorem bt_ext (s : ByteArray) (a e i : Nat) (h : a + i < e) (he : e ≤ s.size) : bt (s.extract a e) i = bt s (a + i) := by
  unfold bt
  rw [get!_lt _ i (by simp; omega), get!_lt s (a + i) (by omega), ByteArray.getElem_extract]

/-- A digit stands there. -/
abbrev isD (s : ByteArray) (i : Nat) : Prop := i < s.size ∧ 48 ≤ bt s i ∧ bt s i ≤ 57
/-- The place behind the digits. -/
def runF (s : ByteArray) : Nat → Nat → Nat
  | 0, i => i
  | f + 1, i => if isD s i then runF s f (i + 1) else i
theorem runF_end (s : ByteArray) (f i : Nat) (h : ¬ isD s i) : runF s f i = i := by
  cases f with
  | zero => rfl
  | succ f => rw [runF, if_neg h]
theorem runF_go (s : ByteArray) (f i : Nat) (h : isD s i) (hf : 0 < f) : runF s f i = runF s (f - 1) (i + 1) := by
  cases f with
  | zero => omega
  | succ f => rw [runF, if_pos h]; rfl
theorem runF_bd (s : ByteArray) : ∀ (f i : Nat), i ≤ s.size → i ≤ runF s f i ∧ runF s f i ≤ s.size
  | 0, i, h => by simp [runF]; exact h
  | f + 1, i, h => by
    rw [runF]
    split
    · rename_i hd
      have := runF_bd s f (i + 1) (by have := hd.1; omega)
      omega
    · omega
theorem runF_digits (s : ByteArray) : ∀ (f i k : Nat), i ≤ k → k < runF s f i → isD s k
  | 0, i, k, h1, h2 => by simp [runF] at h2; omega
  | f + 1, i, k, h1, h2 => by
    rw [runF] at h2
    split at h2
    · rename_i hd
      by_cases e : k = i
      · subst e; exact hd
      · exact runF_digits s f (i + 1) k (by omega) h2
    · omega
theorem isD_ext (s : ByteArray) (a i : Nat) : isD (s.extract a s.size) i ↔ isD s (a + i) := by
  unfold isD
  rw [bt_extract]
  simp
  omega
theorem runF_ext (s : ByteArray) (a : Nat) : ∀ (f i : Nat), runF (s.extract a s.size) f i + a = runF s f (a + i)
  | 0, i => by simp [runF]; omega
  | f + 1, i => by
    rw [runF, runF]
    by_cases h : isD s (a + i)
    · rw [if_pos h, if_pos ((isD_ext s a i).2 h)]
      exact runF_ext s a f (i + 1)
    · rw [if_neg h, if_neg (fun x => h ((isD_ext s a i).1 x))]; omega
def rn (s : ByteArray) (i : Nat) : Nat := runF s (s.size - i) i
theorem rn_bd (s : ByteArray) (i : Nat) (h : i ≤ s.size) : i ≤ rn s i ∧ rn s i ≤ s.size := runF_bd s _ i h
theorem rn_ext (s : ByteArray) (a : Nat) : rn (s.extract a s.size) 0 + a = rn s a := by
  unfold rn
  have := runF_ext s a (s.size - a) 0
  rw [show (s.extract a s.size).size - 0 = s.size - a by simp]
  simpa using this

/-- The unit at a place; 7: none. -/
def uAt (s : ByteArray) (j : Nat) : Nat :=
  if j < s.size then (if bt s j = 121 then 0 else if bt s j = 119 then 1 else if bt s j = 100 then 2 else if bt s j = 104 then 3 else if bt s j = 109 then (if j + 1 < s.size ∧ bt s (j + 1) = 115 then 6 else 4) else if bt s j = 115 then 5 else 7) else 7
theorem uAt_ext (s : ByteArray) (a : Nat) : uAt (s.extract a s.size) 0 = uAt s a := by
  unfold uAt
  have e : (s.extract a s.size).size = s.size - a := by simp
  rw [bt_extract, bt_extract, e]
  simp only [Nat.add_zero]
  by_cases h : a < s.size
  · rw [if_pos h, if_pos (by omega)]
    by_cases h2 : a + 1 < s.size
    · simp [h2, show 0 + 1 < s.size - a by omega]
    · simp [h2, show ¬ 1 < s.size - a by omega]
  · rw [if_neg h, if_neg (by omega)]
/-- How many bytes a unit's name has. -/
def uw (u : Nat) : Nat := if u = 6 then 2 else 1
theorem uAt_lt (s : ByteArray) (j : Nat) (h : uAt s j < 7) : j < s.size := by
  by_cases hj : j < s.size
  · exact hj
  · unfold uAt at h; rw [if_neg hj] at h; omega
theorem uAt_le (s : ByteArray) (j : Nat) : uAt s j ≤ 7 := by
  unfold uAt
  repeat' split
  all_goals omega
theorem uAt_6 (s : ByteArray) (j : Nat) (h : uAt s j = 6) : j + 1 < s.size := by
  unfold uAt at h
  repeat' split at h
  all_goals first
    | omega
    | (rename_i hh; exact hh.1)
theorem uAt_fit (s : ByteArray) (j : Nat) (h : uAt s j < 7) : j + uw (uAt s j) ≤ s.size := by
  have h1 := uAt_lt s j h
  unfold uw
  split
  · rename_i h6
    have := uAt_6 s j h6
    omega
  · omega

/-- The number that the first digits of a text tell. -/
def vl (s : ByteArray) : Nat → Int
  | 0 => 0
  | i + 1 => vl s i * 10 + (bt s i - 48)
theorem vl_nn (s : ByteArray) (h : ∀ i, i < s.size → isD s i) : ∀ i, i ≤ s.size → 0 ≤ vl s i
  | 0, _ => by simp [vl]
  | i + 1, hi => by
    have h1 := vl_nn s h i (by omega)
    have h2 := h i (by omega)
    unfold isD at h2
    rw [vl]; omega
theorem vl_mono (s : ByteArray) (h : ∀ i, i < s.size → isD s i) (i : Nat) : ∀ k, i + k ≤ s.size → vl s i ≤ vl s (i + k)
  | 0, _ => by simp
  | k + 1, hk => by
    have h1 := vl_mono s h i k (by omega)
    have h2 := vl_nn s h (i + k) (by omega)
    have h3 := h (i + k) (by omega)
    unfold isD at h3
    rw [show i + (k + 1) = (i + k) + 1 by omega, vl]
    omega
end Go.Proofs.YtmfeckpcnofkhaaDoor
