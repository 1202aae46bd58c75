/- The plain mathematics of the reference's Next: the first width whose guess has just those bytes as its form, and the decoder. -/
import Derived.Test.YtnpgkiidpeaapaaDoorGuess
namespace Go.Proofs.YtnpgkiidpeaapaaDoor
open Go.RowKit Go.Lib

theorem dec1 (n b0 b1 b2 b3 : Nat) (h : b0 < 128) : decodeN n b0 b1 b2 b3 = (b0, 1) := by
  unfold decodeN; rw [if_pos h]
set_option maxHeartbeats 1000000 in
theorem dec2 (n b0 b1 b2 b3 : Nat) (g : Int) (hn : 1 < n) (h0 : b0 < 256) (h1 : b1 < 256) (hg : g = ((b0 : Int) - 192) * 64 + b1 - 128) (l : 128 ≤ g) (u : g < 2048)
    (e0 : (b0 : Int) = 192 + g / 64) (_e1 : (b1 : Int) = 128 + g % 64) : decodeN n b0 b1 b2 b3 = (g.toNat, 2) := by
  unfold decodeN
  repeat' split
  all_goals first | (exfalso; omega) | (apply Prod.ext <;> simp only <;> omega)
set_option maxHeartbeats 1000000 in
theorem dec3 (n b0 b1 b2 b3 : Nat) (g : Int) (hn : 2 < n) (h0 : b0 < 256) (h1 : b1 < 256) (h2 : b2 < 256) (hg : g = (((b0 : Int) - 224) * 64 + b1 - 128) * 64 + b2 - 128) (l : 2048 ≤ g) (u : g < 65536)
    (r : g < 55296 ∨ 57343 < g) (e0 : (b0 : Int) = 224 + g / 4096) (e1 : (b1 : Int) = 128 + g / 64 % 64) (e2 : (b2 : Int) = 128 + g % 64) : decodeN n b0 b1 b2 b3 = (g.toNat, 3) := by
  unfold decodeN
  repeat' split
  all_goals first | (exfalso; omega) | (apply Prod.ext <;> simp only <;> omega)
set_option maxHeartbeats 1000000 in
theorem dec4 (n b0 b1 b2 b3 : Nat) (g : Int) (hn : 3 < n) (h0 : b0 < 256) (_h1 : b1 < 256) (h2 : b2 < 256) (_h3 : b3 < 256) (hg : g = ((((b0 : Int) - 240) * 64 + b1 - 128) * 64 + b2 - 128) * 64 + b3 - 128) (l : 65536 ≤ g) (u : g ≤ 1114111)
    (e0 : (b0 : Int) = 240 + g / 262144) (e1 : (b1 : Int) = 128 + g / 4096 % 64) (e2 : (b2 : Int) = 128 + g / 64 % 64) (e3 : (b3 : Int) = 128 + g % 64) : decodeN n b0 b1 b2 b3 = (g.toNat, 4) := by
  unfold decodeN
  repeat' split
  all_goals first | (exfalso; omega) | (apply Prod.ext <;> simp only <;> omega)
set_option maxHeartbeats 4000000 in
theorem decNone (n b0 b1 b2 b3 : Nat) (g2 g3 g4 : Int) (_h0 : b0 < 256) (_h1 : b1 < 256) (h2 : b2 < 256) (h3 : b3 < 256) (hg2 : g2 = ((b0 : Int) - 192) * 64 + b1 - 128) (hg3 : g3 = (((b0 : Int) - 224) * 64 + b1 - 128) * 64 + b2 - 128)
    (hg4 : g4 = ((((b0 : Int) - 240) * 64 + b1 - 128) * 64 + b2 - 128) * 64 + b3 - 128) (n1 : ¬ b0 < 128)
    (n2 : 1 < n → ¬ (128 ≤ g2 ∧ g2 < 2048 ∧ (b0 : Int) = 192 + g2 / 64 ∧ (b1 : Int) = 128 + g2 % 64))
    (n3 : 2 < n → ¬ (2048 ≤ g3 ∧ g3 < 65536 ∧ (g3 < 55296 ∨ 57343 < g3) ∧ (b0 : Int) = 224 + g3 / 4096 ∧ (b1 : Int) = 128 + g3 / 64 % 64 ∧ (b2 : Int) = 128 + g3 % 64))
    (n4 : 3 < n → ¬ (65536 ≤ g4 ∧ g4 ≤ 1114111 ∧ (b0 : Int) = 240 + g4 / 262144 ∧ (b1 : Int) = 128 + g4 / 4096 % 64 ∧ (b2 : Int) = 128 + g4 / 64 % 64 ∧ (b3 : Int) = 128 + g4 % 64)) : decodeN n b0 b1 b2 b3 = (65533, 1) := by
  unfold decodeN
  rw [if_neg n1]
  split
  · rename_i hc
    split
    · exfalso
      exact n2 (by omega) ⟨by omega, by omega, by omega, by omega⟩
    · rfl
  · split
    · split
      · exfalso
        exact n3 (by omega) ⟨by omega, by omega, by omega, by omega, by omega, by omega⟩
      · rfl
    · split
      · split
        · exfalso
          exact n4 (by omega) ⟨by omega, by omega, by omega, by omega, by omega, by omega⟩
        · rfl
      · rfl

/-- The number that k bytes from a place on would be the form of. -/
def gs (s : ByteArray) (i k : Nat) : Int :=
  if k = 1 then bt s i else if k = 2 then gacc s i (bt s i - 192) 1 else if k = 3 then gacc s i (bt s i - 224) 2 else gacc s i (bt s i - 240) 3
/-- A rune's form, as numbers. -/
def formL (n : Int) : List Int :=
  if isRune n then (if n < 128 then [n] else if n < 2048 then [192 + n / 64, 128 + n % 64] else if n < 65536 then [224 + n / 4096, 128 + n / 64 % 64, 128 + n % 64]
    else [240 + n / 262144, 128 + n / 4096 % 64, 128 + n / 64 % 64, 128 + n % 64]) else []
theorem isRune_iff (n : Int) : isRune n = true ↔ 0 ≤ n ∧ n ≤ 1114111 ∧ (n < 55296 ∨ 57343 < n) := by unfold isRune; simp

theorem form_any (n : Int) (w : World) : Calls Tryd.prog 23 #[.int .i64 n] w fun e w' => e = .returned (.string (strOfNums (formL n))) ∧ Below w.heap.size w w' := by
  by_cases hr : isRune n = true
  · have hq := (isRune_iff n).1 hr
    unfold formL
    rw [if_pos hr]
    by_cases h1 : n < 128
    · rw [if_pos h1]; exact form_one n w hq.1 h1
    · rw [if_neg h1]
      by_cases h2 : n < 2048
      · rw [if_pos h2]; exact form_two n w (by omega) h2
      · rw [if_neg h2]
        by_cases h3 : n < 65536
        · rw [if_pos h3]; exact form_three n w hr (by omega) h3
        · rw [if_neg h3]; exact form_four n w (by omega) hq.2.1
  · unfold formL
    rw [if_neg hr]
    exact form_no n w (by simpa using hr)
theorem guess_any (s : ByteArray) (i k : Nat) (w : World) (hs : s.size ≤ maxLen) (h1 : 1 ≤ k) (h4 : k ≤ 4) (h : i + k ≤ s.size) :
    Calls Tryd.prog 22 #[.string s, .int .i64 i, .int .i64 k] w fun e w' => e = .returned (.int .i64 (gs s i k)) ∧ w' = w := by
  by_cases e1 : k = 1
  · subst e1; exact guess_one s i w hs (by omega)
  · by_cases e2 : k = 2
    · subst e2; exact guess_more s i 2 _ w hs (Or.inl ⟨rfl, rfl⟩) h
    · by_cases e3 : k = 3
      · subst e3; exact guess_more s i 3 _ w hs (Or.inr (Or.inl ⟨rfl, rfl⟩)) h
      · obtain rfl : k = 4 := by omega
        exact guess_more s i 4 _ w hs (Or.inr (Or.inr ⟨rfl, rfl⟩)) h

/-- Are these k bytes the form of their guess? -/
def hit (s : ByteArray) (i k : Nat) : Prop := (strOfNums (formL (gs s i k))).size = k ∧ s.extract i (i + k) = strOfNums (formL (gs s i k))

theorem extract_nums (s : ByteArray) (i : Nat) (xs : List Int) (h : i + xs.length ≤ s.size) (hb : ∀ x ∈ xs, 0 ≤ x ∧ x ≤ 255) :
    s.extract i (i + xs.length) = strOfNums xs ↔ ∀ j, j < xs.length → bt s (i + j) = xs.getD j 0 := by
  constructor
  · intro he j hj
    have h1 : (s.extract i (i + xs.length)).get! j = (strOfNums xs).get! j := by rw [he]
    rw [get!_lt _ j (by simp; omega), get!_lt _ j (by rw [strOfNums_size]; exact hj)] at h1
    rw [ByteArray.getElem_extract] at h1
    have h2 : (strOfNums xs)[j]'(by rw [strOfNums_size]; exact hj) = UInt8.ofNat (xs[j]).toNat := by
      show ((xs.map fun n => UInt8.ofNat n.toNat).toArray)[j]'(by simpa using hj) = _
      simp
    rw [h2] at h1
    have hx := hb xs[j] (List.getElem_mem hj)
    unfold bt
    rw [get!_lt s (i + j) (by omega), h1]
    simp only [UInt8.toNat_ofNat', List.getD, List.getElem?_eq_getElem hj, Option.getD_some]
    omega
  · intro hall
    apply ByteArray.ext
    apply Array.ext
    · show (s.extract i (i + xs.length)).size = (strOfNums xs).size
      rw [strOfNums_size]; simp; omega
    · intro j h1 h2
      have hj : j < xs.length := by
        have : j < (strOfNums xs).size := h2
        rwa [strOfNums_size] at this
      have e1 : (s.extract i (i + xs.length))[j]'h1 = s[i + j]'(by omega) := by rw [ByteArray.getElem_extract]
      have e2 : (strOfNums xs)[j]'h2 = UInt8.ofNat (xs[j]).toNat := by
        show ((xs.map fun n => UInt8.ofNat n.toNat).toArray)[j]'(by simpa using hj) = _
        simp
      show (s.extract i (i + xs.length))[j]'h1 = (strOfNums xs)[j]'h2
      rw [e1, e2]
      have hb1 := hall j hj
      simp only [List.getD, List.getElem?_eq_getElem hj, Option.getD_some] at hb1
      rw [← hb1]
      unfold bt
      rw [get!_lt s (i + j) (by omega)]
      simp
end Go.Proofs.YtnpgkiidpeaapaaDoor
