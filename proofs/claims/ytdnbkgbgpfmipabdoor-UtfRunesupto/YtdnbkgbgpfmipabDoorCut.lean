/- The walks of strings.Cut at a backslash, and of the appends of texts. -/
import Derived.Test.YtdnbkgbgpfmipabDoorRead
import Derived.Lib.AppendStr
import Derived.Deep.QuietTactic
import Derived.BigQuiet
import Derived.WalkSmall
namespace Go.Proofs.YtdnbkgbgpfmipabDoor
open Go.RowKit Go.Lib

/-- The bytes of a text from a place on, so many. -/
def bts (s : ByteArray) : Nat → Nat → List Int
  | 0, _ => []
  | k + 1, i => bt s i :: bts s k (i + 1)
theorem bts_len (s : ByteArray) : ∀ k i, (bts s k i).length = k
  | 0, _ => rfl
  | k + 1, i => by simp [bts, bts_len s k]

/-- The place of the first backslash from a place on; the text's end, if none stands there. -/
def bsF (s : ByteArray) : Nat → Nat → Nat
  | 0, i => i
  | f + 1, i => if i < s.size then (if bt s i = 92 then i else bsF s f (i + 1)) else i
theorem bsF_ge (s : ByteArray) : ∀ f i, i ≤ bsF s f i
  | 0, i => Nat.le_refl _
  | f + 1, i => by
    unfold bsF
    split
    · split
      · exact Nat.le_refl _
      · have := bsF_ge s f (i + 1); omega
    · exact Nat.le_refl _
theorem bsF_le (s : ByteArray) : ∀ f i, i ≤ s.size → bsF s f i ≤ s.size
  | 0, i, h => h
  | f + 1, i, h => by
    unfold bsF
    split
    · split
      · exact h
      · exact bsF_le s f (i + 1) (by omega)
    · exact h
theorem bsF_at (s : ByteArray) : ∀ f i, s.size ≤ i + f → bsF s f i < s.size → bt s (bsF s f i) = 92
  | 0, i, h, h2 => by unfold bsF at h2; omega
  | f + 1, i, h, h2 => by
    unfold bsF at h2 ⊢
    split at h2
    · rename_i hl
      rw [if_pos hl]
      split at h2
      · rename_i hb; rw [if_pos hb]; exact hb
      · rename_i hb; rw [if_neg hb]; exact bsF_at s f (i + 1) (by omega) h2
    · omega
theorem bsF_before (s : ByteArray) : ∀ f i j, i ≤ j → j < bsF s f i → bt s j ≠ 92
  | 0, i, j, h1, h2 => by unfold bsF at h2; omega
  | f + 1, i, j, h1, h2 => by
    unfold bsF at h2
    split at h2
    · split at h2
      · omega
      · rename_i hb
        rcases Nat.lt_or_ge i j with h | h
        · exact bsF_before s f (i + 1) j (by omega) h2
        · have : j = i := by omega
          rw [this]; exact hb
    · omega

theorem bsF_index (s : ByteArray) : ∀ (f i : Nat), s.size ≤ i + f → i ≤ s.size → Lib.indexByte (s.data.toList.drop i) 92 = if bsF s f i < s.size then ((bsF s f i - i : Nat) : Int) else -1
  | 0, i, h, h2 => by
    rw [data_drop_end s i (by omega)]
    unfold bsF
    rw [if_neg (by omega)]; rfl
  | f + 1, i, h, h2 => by
    by_cases hl : i < s.size
    · rw [data_drop s i hl]
      unfold Lib.indexByte
      have ih := bsF_index s f (i + 1) (by omega) (by omega)
      have hge := bsF_ge s f (i + 1)
      by_cases hq : bt s i = 92
      · have hb : (s.get! i == 92) = true := by
          rw [beq_iff_eq]
          apply UInt8.toNat_inj.1
          have h1 : bt s i = ((s.get! i).toNat : Int) := rfl
          have h2 : (92 : UInt8).toNat = 92 := rfl
          omega
        rw [if_pos hb]
        unfold bsF
        rw [if_pos hl, if_pos hq, if_pos hl]
        simp
      · have hb : (s.get! i == 92) = false := by
          rw [beq_eq_false_iff_ne]
          intro hx
          apply hq
          show ((s.get! i).toNat : Int) = 92
          rw [hx]; rfl
        rw [if_neg (by rw [hb]; exact Bool.false_ne_true), ih]
        have e1 : bsF s (f + 1) i = bsF s f (i + 1) := by rw [bsF, if_pos hl, if_neg hq]
        rw [e1]
        by_cases hc : bsF s f (i + 1) < s.size
        · rw [if_pos hc, if_pos hc]
          have hne : (((bsF s f (i + 1) - (i + 1) : Nat) : Int) == -1) = false := by rw [beq_eq_false_iff_ne]; omega
          rw [hne, if_neg Bool.false_ne_true]
          omega
        · rw [if_neg hc, if_neg hc]; rfl
    · rw [data_drop_end s i hl]
      have e1 : bsF s (f + 1) i = i := by rw [bsF, if_neg hl]
      rw [e1, if_neg hl]; rfl

theorem suffix_data (s : ByteArray) (p : Nat) : (s.extract p s.size).data.toList = s.data.toList.drop p := by
  rw [Lib.extract_data]
  apply List.take_of_length_le
  have : s.data.toList.length = s.size := by simp
  rw [List.length_drop]; omega

set_option maxHeartbeats 1000000 in
set_option maxRecDepth 100000 in
/-- Cut of what is left of a text, where a backslash stands in it. -/
theorem cut_yes (s : ByteArray) (p : Nat) (w : World) (hp : p ≤ s.size) (hsz : s.size ≤ 140737488355328) (h : bsF s s.size p < s.size) :
    Calls Tryd.prog 55 #[.string (s.extract p s.size), .string ⟨#[92]⟩] w fun r w' => r = .returned (.tuple #[.string (s.extract p (bsF s s.size p)), .string (s.extract (bsF s s.size p + 1) s.size), .bool true]) ∧ Below w.heap.size w w' := by
  have ki := Tryd.stringslite_Index_one (s.extract p s.size) 92 w
  rw [suffix_data, bsF_index s s.size p (by omega) hp, if_pos h] at ki
  have hge := bsF_ge s s.size p
  have e1 : (s.extract p s.size).extract 0 (bsF s s.size p - p) = s.extract p (bsF s s.size p) := by
    rw [ByteArray.extract_extract]
    congr 1 <;> omega
  have e2 : (s.extract p s.size).extract (bsF s s.size p - p + 1) (s.extract p s.size).size = s.extract (bsF s s.size p + 1) s.size := by
    rw [ByteArray.extract_extract]
    congr 1
    · omega
    · simp; omega
  have hxs : (s.extract p s.size).size = s.size - p := by simp
  generalize bsF s s.size p = b at *
  rw [← e1, ← e2]
  obtain ⟨d, rfl⟩ : ∃ d, b = p + d := ⟨b - p, by omega⟩
  rw [show p + d - p = d by omega] at ki ⊢
  generalize s.extract p s.size = T at *
  have hd : (d : Int) < T.size := by omega
  have hd1 : (d : Int) + 1 ≤ T.size := by omega
  clear e1 e2 hxs
  have kc : Calls Tryd.prog 71 #[.string T, .string ⟨#[92]⟩] w fun r w' => r = .returned (.tuple #[.string (T.extract 0 d), .string (T.extract (d + 1) T.size), .bool true]) ∧ Below w.heap.size w w' := by
    go_enter Tryd.func71, Tryd.ntmps71
    go_wp2_with fail
    go_fit ki
    rintro x w1 ⟨rfl, rfl⟩
    go_wp2
    go_quiet (fail)
    go_wp2
    go_ret3
    exact ⟨rfl, below_drewN (Below.refl _ _) nq⟩
  clear ki
  go_enter Tryd.func55, Tryd.ntmps55
  go_wp2_with (go_at_call 71; go_fit kc; rintro x w1 ⟨rfl, hb⟩)
  go_ret3
  exact ⟨rfl, hb⟩

set_option maxHeartbeats 1000000 in
set_option maxRecDepth 100000 in
/-- Cut of what is left of a text, where none does. -/
theorem cut_no (s : ByteArray) (p : Nat) (w : World) (hp : p ≤ s.size) (h : ¬ bsF s s.size p < s.size) :
    Calls Tryd.prog 55 #[.string (s.extract p s.size), .string ⟨#[92]⟩] w fun r w' => r = .returned (.tuple #[.string (s.extract p s.size), .string ⟨#[]⟩, .bool false]) ∧ Below w.heap.size w w' := by
  have ki := Tryd.stringslite_Index_one (s.extract p s.size) 92 w
  rw [suffix_data, bsF_index s s.size p (by omega) hp, if_neg h] at ki
  generalize s.extract p s.size = T at *
  have kc : Calls Tryd.prog 71 #[.string T, .string ⟨#[92]⟩] w fun r w' => r = .returned (.tuple #[.string T, .string ⟨#[]⟩, .bool false]) ∧ Below w.heap.size w w' := by
    go_enter Tryd.func71, Tryd.ntmps71
    go_wp2_with fail
    go_fit ki
    rintro x w1 ⟨rfl, rfl⟩
    go_wp2
    go_ret3
    exact ⟨rfl, Below.refl _ _⟩
  clear ki
  go_enter Tryd.func55, Tryd.ntmps55
  go_wp2_with (go_at_call 71; go_fit kc; rintro x w1 ⟨rfl, hb⟩)
  go_ret3
  exact ⟨rfl, hb⟩
end Go.Proofs.YtdnbkgbgpfmipabDoor
