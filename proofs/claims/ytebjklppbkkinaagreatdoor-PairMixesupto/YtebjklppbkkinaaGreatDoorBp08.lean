/- A bundle of texts. -/
import Derived.Test.YtebjklppbkkinaaGreatDoorBp01
import Derived.LoopTactic
import Derived.Laws.BytesArg
/- The walks of the reference's IsRune, Form and guess. -/
namespace Go.Proofs.YtebjklppbkkinaaGreatDoor.R
open Go.RowKit Go.Lib

def isRune (n : Int) : Bool := decide (0 ≤ n ∧ n ≤ 1114111 ∧ (n < 55296 ∨ 57343 < n))

set_option maxHeartbeats 400000 in
theorem isRune_any (n : Int) (w : World) : Calls Tryz.prog 205 #[.int .i64 n] w fun e w' => e = .returned (.bool (isRune n)) ∧ w' = w := by
  by_cases h0 : 0 ≤ n
  · by_cases h1 : n ≤ 1114111
    · by_cases h2 : n < 55296
      · have e1 : isRune n = true := by unfold isRune; simp; omega
        rw [e1]
        go_enter Tryz.func205, Tryz.ntmps205
        go_wp2
        go_ret
        exact ⟨rfl, rfl⟩
      · by_cases h3 : 57343 < n
        · have e1 : isRune n = true := by unfold isRune; simp; omega
          rw [e1]
          go_enter Tryz.func205, Tryz.ntmps205
          go_wp2
          go_ret
          exact ⟨rfl, rfl⟩
        · have e1 : isRune n = false := by unfold isRune; simp; omega
          rw [e1]
          go_enter Tryz.func205, Tryz.ntmps205
          go_wp2
          go_ret
          exact ⟨rfl, rfl⟩
    · have e1 : isRune n = false := by unfold isRune; simp; omega
      rw [e1]
      go_enter Tryz.func205, Tryz.ntmps205
      go_wp2
      go_ret
      exact ⟨rfl, rfl⟩
  · have e1 : isRune n = false := by unfold isRune; simp; omega
    rw [e1]
    go_enter Tryz.func205, Tryz.ntmps205
    go_wp2
    go_ret
    exact ⟨rfl, rfl⟩

set_option maxHeartbeats 400000 in
theorem form_no (n : Int) (w : World) (h : isRune n = false) : Calls Tryz.prog 171 #[.int .i64 n] w fun e w' => e = .returned (.string ⟨#[]⟩) ∧ Below w.heap.size w w' := by
  have cI := isRune_any n w
  rw [h] at cI
  clear h
  go_enter Tryz.func171, Tryz.ntmps171
  go_wp2_with (go_at_call 205; go_fit cI; rintro e w' ⟨rfl, rfl⟩)
  go_ret
  exact ⟨rfl, Below.refl _ _⟩

theorem conv_new (w : World) (xs : List Int) (c : Nat) :
    (convert 114 9 (.slice (some ⟨w.heap.size, 0, none⟩) xs.length c)).run Tryz.prog (w.alloc (.cells (xs.map (Value.int .u8)).toArray 5)) = .ok (.string (strOfNums xs)) (w.alloc (.cells (xs.map (Value.int .u8)).toArray 5)) := by
  refine run_convert_bytes_arg (P := Tryz.prog) _ 114 5 Tryz.underlying114 Tryz.underlying5 w.heap.size 0 xs.length c xs rfl (fun i hi => ?_) 9 Tryz.underlying9
  rw [Nat.zero_add]
  have hh : (w.alloc (.cells (xs.map (Value.int .u8)).toArray 5)).heap[w.heap.size]? = some (.cells (xs.map (Value.int .u8)).toArray 5) := by
    show (w.heap.push _)[w.heap.size]? = _
    simp
  unfold World.cell?
  rw [hh]
  simp [List.getD, hi]
theorem conv1 (w : World) (a : Int) : (convert 114 9 (.slice (some ⟨w.heap.size, 0, none⟩) 1 1)).run Tryz.prog (w.alloc (.cells #[.int .u8 a] 5)) = .ok (.string (strOfNums [a])) (w.alloc (.cells #[.int .u8 a] 5)) := conv_new w [a] 1
theorem conv2 (w : World) (a b : Int) : (convert 114 9 (.slice (some ⟨w.heap.size, 0, none⟩) 2 2)).run Tryz.prog (w.alloc (.cells #[.int .u8 a, .int .u8 b] 5)) = .ok (.string (strOfNums [a, b])) (w.alloc (.cells #[.int .u8 a, .int .u8 b] 5)) := conv_new w [a, b] 2
theorem conv3 (w : World) (a b c : Int) : (convert 114 9 (.slice (some ⟨w.heap.size, 0, none⟩) 3 3)).run Tryz.prog (w.alloc (.cells #[.int .u8 a, .int .u8 b, .int .u8 c] 5)) = .ok (.string (strOfNums [a, b, c])) (w.alloc (.cells #[.int .u8 a, .int .u8 b, .int .u8 c] 5)) := conv_new w [a, b, c] 3
theorem conv4 (w : World) (a b c d : Int) : (convert 114 9 (.slice (some ⟨w.heap.size, 0, none⟩) 4 4)).run Tryz.prog (w.alloc (.cells #[.int .u8 a, .int .u8 b, .int .u8 c, .int .u8 d] 5)) = .ok (.string (strOfNums [a, b, c, d])) (w.alloc (.cells #[.int .u8 a, .int .u8 b, .int .u8 c, .int .u8 d] 5)) := conv_new w [a, b, c, d] 4

set_option maxHeartbeats 1000000 in
theorem form_one (n : Int) (w : World) (h0 : 0 ≤ n) (h1 : n < 128) : Calls Tryz.prog 171 #[.int .i64 n] w fun e w' => e = .returned (.string (strOfNums [n])) ∧ Below w.heap.size w w' := by
  have cI := isRune_any n w
  rw [show isRune n = true by unfold isRune; simp; omega] at cI
  have cv := conv1
  have h2 : decide (n < 128) = true := by simpa using h1
  go_enter Tryz.func171, Tryz.ntmps171
  go_wp2_with (go_at_call 205; go_fit cI; rintro e w' ⟨rfl, rfl⟩)
  go_ret
  exact ⟨rfl, (Below.refl _ _).alloc (Nat.le_refl _) _⟩
set_option maxHeartbeats 1000000 in
theorem form_two (n : Int) (w : World) (h0 : 128 ≤ n) (h1 : n < 2048) : Calls Tryz.prog 171 #[.int .i64 n] w fun e w' => e = .returned (.string (strOfNums [192 + n / 64, 128 + n % 64])) ∧ Below w.heap.size w w' := by
  have cI := isRune_any n w
  rw [show isRune n = true by unfold isRune; simp; omega] at cI
  have cv := conv2
  have h2 : decide (n < 128) = false := by simp; omega
  have h3 : decide (n < 2048) = true := by simpa using h1
  have q0 : 0 ≤ n := by omega
  go_enter Tryz.func171, Tryz.ntmps171
  go_wp2_with (go_at_call 205; go_fit cI; rintro e w' ⟨rfl, rfl⟩)
  go_ret
  exact ⟨rfl, (Below.refl _ _).alloc (Nat.le_refl _) _⟩
set_option maxHeartbeats 1000000 in
theorem form_three (n : Int) (w : World) (hr : isRune n = true) (h0 : 2048 ≤ n) (h1 : n < 65536) : Calls Tryz.prog 171 #[.int .i64 n] w fun e w' => e = .returned (.string (strOfNums [224 + n / 4096, 128 + n / 64 % 64, 128 + n % 64])) ∧ Below w.heap.size w w' := by
  have cI := isRune_any n w
  rw [hr] at cI
  clear hr
  have cv := conv3
  have h2 : decide (n < 128) = false := by simp; omega
  have h3 : decide (n < 2048) = false := by simp; omega
  have h4 : decide (n < 65536) = true := by simpa using h1
  have q0 : 0 ≤ n := by omega
  go_enter Tryz.func171, Tryz.ntmps171
  go_wp2_with (go_at_call 205; go_fit cI; rintro e w' ⟨rfl, rfl⟩)
  go_ret
  exact ⟨rfl, (Below.refl _ _).alloc (Nat.le_refl _) _⟩
set_option maxHeartbeats 1000000 in
theorem form_four (n : Int) (w : World) (h0 : 65536 ≤ n) (h1 : n ≤ 1114111) : Calls Tryz.prog 171 #[.int .i64 n] w fun e w' => e = .returned (.string (strOfNums [240 + n / 262144, 128 + n / 4096 % 64, 128 + n / 64 % 64, 128 + n % 64])) ∧ Below w.heap.size w w' := by
  have cI := isRune_any n w
  rw [show isRune n = true by unfold isRune; simp; omega] at cI
  have cv := conv4
  have h2 : decide (n < 128) = false := by simp; omega
  have h3 : decide (n < 2048) = false := by simp; omega
  have h4 : decide (n < 65536) = false := by simp; omega
  have q0 : 0 ≤ n := by omega
  go_enter Tryz.func171, Tryz.ntmps171
  go_wp2_with (go_at_call 205; go_fit cI; rintro e w' ⟨rfl, rfl⟩)
  go_ret
  exact ⟨rfl, (Below.refl _ _).alloc (Nat.le_refl _) _⟩
end Go.Proofs.YtebjklppbkkinaaGreatDoor.R
/- The walk of the reference's guess. -/
namespace Go.Proofs.YtebjklppbkkinaaGreatDoor.R
open Go.RowKit Go.Lib

/-- The byte at a place, as a number. -/
def bt (s : ByteArray) (i : Nat) : Int := ((s.get! i).toNat : Int)
theorem bt_bd (s : ByteArray) (i : Nat) : 0 ≤ bt s i ∧ bt s i ≤ 255 := by
  have := (s.get! i).toNat_lt
  unfold bt; omega
theorem bt_at (s : ByteArray) (i : Nat) (h : i < s.size) : ((s[i]'h).toNat : Int) = bt s i := by
  unfold bt; rw [get!_lt s i h]
def gacc (s : ByteArray) (i : Nat) (n0 : Int) : Nat → Int
  | 0 => n0
  | j + 1 => gacc s i n0 j * 64 + bt s (i + (j + 1)) - 128
theorem gacc_bd (s : ByteArray) (i : Nat) (n0 : Int) (h0 : -240 ≤ n0) (h1 : n0 ≤ 255) : ∀ j, j ≤ 3 → -100000000 ≤ gacc s i n0 j ∧ gacc s i n0 j ≤ 100000000
  | 0, _ => by simp only [gacc]; omega
  | 1, _ => by have b1 := bt_bd s (i + (0 + 1)); simp only [gacc]; omega
  | 2, _ => by have b1 := bt_bd s (i + (0 + 1)); have b2 := bt_bd s (i + (1 + 1)); simp only [gacc]; omega
  | 3, _ => by have b1 := bt_bd s (i + (0 + 1)); have b2 := bt_bd s (i + (1 + 1)); have b3 := bt_bd s (i + (2 + 1)); simp only [gacc]; omega
  | j + 4, h => by omega

set_option maxHeartbeats 400000 in
theorem guess_one (s : ByteArray) (i : Nat) (w : World) (_hs : s.size ≤ maxLen) (h : i < s.size) :
    Calls Tryz.prog 170 #[.string s, .int .i64 i, .int .i64 1] w fun e w' => e = .returned (.int .i64 (bt s i)) ∧ w' = w := by
  unfold maxLen at _hs
  have hi : (i : Int) < s.size := by omega
  have hat := bt_at s i h
  obtain ⟨hb1, hb2⟩ := bt_bd s i
  go_enter Tryz.func170, Tryz.ntmps170
  go_wp2
  go_ret
  exact ⟨rfl, rfl⟩

set_option maxHeartbeats 1000000 in
theorem guess_more (s : ByteArray) (i k : Nat) (n0 : Int) (w : World) (hs : s.size ≤ maxLen) (hk : k = 2 ∧ n0 = bt s i - 192 ∨ k = 3 ∧ n0 = bt s i - 224 ∨ k = 4 ∧ n0 = bt s i - 240) (h : i + k ≤ s.size) :
    Calls Tryz.prog 170 #[.string s, .int .i64 i, .int .i64 k] w fun e w' => e = .returned (.int .i64 (gacc s i n0 (k - 1))) ∧ w' = w := by
  unfold maxLen at hs
  have hi : (i : Int) < s.size := by omega
  have hi' : i < s.size := by omega
  have hb := bt_bd s i
  have hg := gacc_bd s i n0 (by omega) (by omega)
  have hat := bt_at s i hi'
  obtain ⟨hb1, hb2⟩ := hb
  rcases hk with ⟨rfl, hn⟩ | ⟨rfl, hn⟩ | ⟨rfl, hn⟩
  · have HN : Hid (n0 = _) := hn
    have HG : Hid (∀ j, j ≤ 3 → -100000000 ≤ gacc s i n0 j ∧ gacc s i n0 j ≤ 100000000) := hg
    clear hn hg
    change Calls Tryz.prog 170 #[.string s, .int .i64 i, .int .i64 2] w _
    go_enter Tryz.func170, Tryz.ntmps170
    go_wp2
    go_loop [8, 9] (fun n t => ∃ j : Nat, j + 1 ≤ 2 ∧ t = .int .i64 (j + 1) ∧ n = .int .i64 (gacc s i n0 j)) (fun _ t => 2 - (RowKit.intOf t).toNat)
    case atStart => exact ⟨0, by omega, rfl, by rw [gacc, HN.out]⟩
    case round =>
      obtain ⟨j, hj, rfl, rfl⟩ := hrel
      obtain ⟨hg1, hg2⟩ := HG.out j (by omega)
      by_cases hlt : j + 1 < 2
      · have hx := bt_at s (i + (j + 1)) (by omega)
        obtain ⟨hx1, hx2⟩ := bt_bd s (i + (j + 1))
        go_wp2
        go_round
        case rel => exact ⟨j + 1, by omega, by go_num, by simp only [gacc]⟩
        case measure => simp [RowKit.intOf]; omega
      · go_wp2
        go_ret
        obtain rfl : j = 2 - 1 := by omega
        exact ⟨rfl, rfl⟩
  · have HN : Hid (n0 = _) := hn
    have HG : Hid (∀ j, j ≤ 3 → -100000000 ≤ gacc s i n0 j ∧ gacc s i n0 j ≤ 100000000) := hg
    clear hn hg
    change Calls Tryz.prog 170 #[.string s, .int .i64 i, .int .i64 3] w _
    go_enter Tryz.func170, Tryz.ntmps170
    go_wp2
    go_loop [8, 9] (fun n t => ∃ j : Nat, j + 1 ≤ 3 ∧ t = .int .i64 (j + 1) ∧ n = .int .i64 (gacc s i n0 j)) (fun _ t => 3 - (RowKit.intOf t).toNat)
    case atStart => exact ⟨0, by omega, rfl, by rw [gacc, HN.out]⟩
    case round =>
      obtain ⟨j, hj, rfl, rfl⟩ := hrel
      obtain ⟨hg1, hg2⟩ := HG.out j (by omega)
      by_cases hlt : j + 1 < 3
      · have hx := bt_at s (i + (j + 1)) (by omega)
        obtain ⟨hx1, hx2⟩ := bt_bd s (i + (j + 1))
        go_wp2
        go_round
        case rel => exact ⟨j + 1, by omega, by go_num, by simp only [gacc]⟩
        case measure => simp [RowKit.intOf]; omega
      · go_wp2
        go_ret
        obtain rfl : j = 3 - 1 := by omega
        exact ⟨rfl, rfl⟩
  · have HN : Hid (n0 = _) := hn
    have HG : Hid (∀ j, j ≤ 3 → -100000000 ≤ gacc s i n0 j ∧ gacc s i n0 j ≤ 100000000) := hg
    clear hn hg
    change Calls Tryz.prog 170 #[.string s, .int .i64 i, .int .i64 4] w _
    go_enter Tryz.func170, Tryz.ntmps170
    go_wp2
    go_loop [8, 9] (fun n t => ∃ j : Nat, j + 1 ≤ 4 ∧ t = .int .i64 (j + 1) ∧ n = .int .i64 (gacc s i n0 j)) (fun _ t => 4 - (RowKit.intOf t).toNat)
    case atStart => exact ⟨0, by omega, rfl, by rw [gacc, HN.out]⟩
    case round =>
      obtain ⟨j, hj, rfl, rfl⟩ := hrel
      obtain ⟨hg1, hg2⟩ := HG.out j (by omega)
      by_cases hlt : j + 1 < 4
      · have hx := bt_at s (i + (j + 1)) (by omega)
        obtain ⟨hx1, hx2⟩ := bt_bd s (i + (j + 1))
        go_wp2
        go_round
        case rel => exact ⟨j + 1, by omega, by go_num, by simp only [gacc]⟩
        case measure => simp [RowKit.intOf]; omega
      · go_wp2
        go_ret
        obtain rfl : j = 4 - 1 := by omega
        exact ⟨rfl, rfl⟩
end Go.Proofs.YtebjklppbkkinaaGreatDoor.R
/- The plain mathematics of the reference's Next: the first width whose guess has just those bytes as its form, and the decoder. -/
namespace Go.Proofs.YtebjklppbkkinaaGreatDoor.R
open Go.RowKit Go.Lib

theorem dec1 (n b0 b1 b2 b3 : Nat) (h : b0 < 128) : decodeN n b0 b1 b2 b3 = (b0, 1) := by
  unfold decodeN; rw [if_pos h]
set_option maxHeartbeats 1000000 in
theorem dec2 (n b0 b1 b2 b3 : Nat) (g : Int) (hn : 1 < n) (h0 : b0 < 256) (h1 : b1 < 256) (hg : g = ((b0 : Int) - 192) * 64 + b1 - 128) (l : 128 ≤ g) (u : g < 2048)
    (e0 : (b0 : Int) = 192 + g / 64) (_e1 : (b1 : Int) = 128 + g % 64) : decodeN n b0 b1 b2 b3 = (g.toNat, 2) := by
  unfold decodeN
  repeat' split
  all_goals first | (exfalso; omega) | (apply Prod.ext <;> simp only <;> omega)
set_option maxHeartbeats 1000000 in
theorem dec3 (n b0 b1 b2 b3 : Nat) (g : Int) (hn : 2 < n) (h0 : b0 < 256) (h1 : b1 < 256) (h2 : b2 < 256) (hg : g = (((b0 : Int) - 224) * 64 + b1 - 128) * 64 + b2 - 128) (l : 2048 ≤ g) (u : g < 65536)
    (r : g < 55296 ∨ 57343 < g) (e0 : (b0 : Int) = 224 + g / 4096) (e1 : (b1 : Int) = 128 + g / 64 % 64) (e2 : (b2 : Int) = 128 + g % 64) : decodeN n b0 b1 b2 b3 = (g.toNat, 3) := by
  unfold decodeN
  repeat' split
  all_goals first | (exfalso; omega) | (apply Prod.ext <;> simp only <;> omega)
set_option maxHeartbeats 1000000 in
theorem dec4 (n b0 b1 b2 b3 : Nat) (g : Int) (hn : 3 < n) (h0 : b0 < 256) (_h1 : b1 < 256) (h2 : b2 < 256) (_h3 : b3 < 256) (hg : g = ((((b0 : Int) - 240) * 64 + b1 - 128) * 64 + b2 - 128) * 64 + b3 - 128) (l : 65536 ≤ g) (u : g ≤ 1114111)
    (e0 : (b0 : Int) = 240 + g / 262144) (e1 : (b1 : Int) = 128 + g / 4096 % 64) (e2 : (b2 : Int) = 128 + g / 64 % 64) (e3 : (b3 : Int) = 128 + g % 64) : decodeN n b0 b1 b2 b3 = (g.toNat, 4) := by
  unfold decodeN
  repeat' split
  all_goals first | (exfalso; omega) | (apply Prod.ext <;> simp only <;> omega)
set_option maxHeartbeats 4000000 in
theorem decNone (n b0 b1 b2 b3 : Nat) (g2 g3 g4 : Int) (_h0 : b0 < 256) (_h1 : b1 < 256) (h2 : b2 < 256) (h3 : b3 < 256) (hg2 : g2 = ((b0 : Int) - 192) * 64 + b1 - 128) (hg3 : g3 = (((b0 : Int) - 224) * 64 + b1 - 128) * 64 + b2 - 128)
    (hg4 : g4 = ((((b0 : Int) - 240) * 64 + b1 - 128) * 64 + b2 - 128) * 64 + b3 - 128) (n1 : ¬ b0 < 128)
    (n2 : 1 < n → ¬ (128 ≤ g2 ∧ g2 < 2048 ∧ (b0 : Int) = 192 + g2 / 64 ∧ (b1 : Int) = 128 + g2 % 64))
    (n3 : 2 < n → ¬ (2048 ≤ g3 ∧ g3 < 65536 ∧ (g3 < 55296 ∨ 57343 < g3) ∧ (b0 : Int) = 224 + g3 / 4096 ∧ (b1 : Int) = 128 + g3 / 64 % 64 ∧ (b2 : Int) = 128 + g3 % 64))
    (n4 : 3 < n → ¬ (65536 ≤ g4 ∧ g4 ≤ 1114111 ∧ (b0 : Int) = 240 + g4 / 262144 ∧ (b1 : Int) = 128 + g4 / 4096 % 64 ∧ (b2 : Int) = 128 + g4 / 64 % 64 ∧ (b3 : Int) = 128 + g4 % 64)) : decodeN n b0 b1 b2 b3 = (65533, 1) := by
  unfold decodeN
  rw [if_neg n1]
  split
  · rename_i hc
    split
    · exfalso
      exact n2 (by omega) ⟨by omega, by omega, by omega, by omega⟩
    · rfl
  · split
    · split
      · exfalso
        exact n3 (by omega) ⟨by omega, by omega, by omega, by omega, by omega, by omega⟩
      · rfl
    · split
      · split
        · exfalso
          exact n4 (by omega) ⟨by omega, by omega, by omega, by omega, by omega, by omega⟩
        · rfl
      · rfl

/-- The number that k bytes from a place on would be the form of. -/
def gs (s : ByteArray) (i k : Nat) : Int :=
  if k = 1 then bt s i else if k = 2 then gacc s i (bt s i - 192) 1 else if k = 3 then gacc s i (bt s i - 224) 2 else gacc s i (bt s i - 240) 3
/-- A rune's form, as numbers. -/
def formL (n : Int) : List Int :=
  if isRune n then (if n < 128 then [n] else if n < 2048 then [192 + n / 64, 128 + n % 64] else if n < 65536 then [224 + n / 4096, 128 + n / 64 % 64, 128 + n % 64]
    else [240 + n / 262144, 128 + n / 4096 % 64, 128 + n / 64 % 64, 128 + n % 64]) else []
theorem isRune_iff (n : Int) : isRune n = true ↔ 0 ≤ n ∧ n ≤ 1114111 ∧ (n < 55296 ∨ 57343 < n) := by unfold isRune; simp

theorem form_any (n : Int) (w : World) : Calls Tryz.prog 171 #[.int .i64 n] w fun e w' => e = .returned (.string (strOfNums (formL n))) ∧ Below w.heap.size w w' := by
  by_cases hr : isRune n = true
  · have hq := (isRune_iff n).1 hr
    unfold formL
    rw [if_pos hr]
    by_cases h1 : n < 128
    · rw [if_pos h1]; exact form_one n w hq.1 h1
    · rw [if_neg h1]
      by_cases h2 : n < 2048
      · rw [if_pos h2]; exact form_two n w (by omega) h2
      · rw [if_neg h2]
        by_cases h3 : n < 65536
        · rw [if_pos h3]; exact form_three n w hr (by omega) h3
        · rw [if_neg h3]; exact form_four n w (by omega) hq.2.1
  · unfold formL
    rw [if_neg hr]
    exact form_no n w (by simpa using hr)
theorem guess_any (s : ByteArray) (i k : Nat) (w : World) (hs : s.size ≤ maxLen) (h1 : 1 ≤ k) (h4 : k ≤ 4) (h : i + k ≤ s.size) :
    Calls Tryz.prog 170 #[.string s, .int .i64 i, .int .i64 k] w fun e w' => e = .returned (.int .i64 (gs s i k)) ∧ w' = w := by
  by_cases e1 : k = 1
  · subst e1; exact guess_one s i w hs (by omega)
  · by_cases e2 : k = 2
    · subst e2; exact guess_more s i 2 _ w hs (Or.inl ⟨rfl, rfl⟩) h
    · by_cases e3 : k = 3
      · subst e3; exact guess_more s i 3 _ w hs (Or.inr (Or.inl ⟨rfl, rfl⟩)) h
      · obtain rfl : k = 4 := by omega
        exact guess_more s i 4 _ w hs (Or.inr (Or.inr ⟨rfl, rfl⟩)) h

/-- Are these k bytes the form of their guess? -/
def hit (s : ByteArray) (i k : Nat) : Prop := (strOfNums (formL (gs s i k))).size = k ∧ s.extract i (i + k) = strOfNums (formL (gs s i k))

theorem extract_nums (s : ByteArray) (i : Nat) (xs : List Int) (h : i + xs.length ≤ s.size) (hb : ∀ x ∈ xs, 0 ≤ x ∧ x ≤ 255) :
    s.extract i (i + xs.length) = strOfNums xs ↔ ∀ j, j < xs.length → bt s (i + j) = xs.getD j 0 := by
  constructor
  · intro he j hj
    have h1 : (s.extract i (i + xs.length)).get! j = (strOfNums xs).get! j := by rw [he]
    rw [get!_lt _ j (by simp; omega), get!_lt _ j (by rw [strOfNums_size]; exact hj)] at h1
    rw [ByteArray.getElem_extract] at h1
    have h2 : (strOfNums xs)[j]'(by rw [strOfNums_size]; exact hj) = UInt8.ofNat (xs[j]).toNat := by
      show ((xs.map fun n => UInt8.ofNat n.toNat).toArray)[j]'(by simpa using hj) = _
      simp
    rw [h2] at h1
    have hx := hb xs[j] (List.getElem_mem hj)
    unfold bt
    rw [get!_lt s (i + j) (by omega), h1]
    simp only [UInt8.toNat_ofNat', List.getD, List.getElem?_eq_getElem hj, Option.getD_some]
    omega
  · intro hall
    apply ByteArray.ext
    apply Array.ext
    · show (s.extract i (i + xs.length)).size = (strOfNums xs).size
      rw [strOfNums_size]; simp; omega
    · intro j h1 h2
      have hj : j < xs.length := by
        have : j < (strOfNums xs).size := h2
        rwa [strOfNums_size] at this
      have e1 : (s.extract i (i + xs.length))[j]'h1 = s[i + j]'(by omega) := by rw [ByteArray.getElem_extract]
      have e2 : (strOfNums xs)[j]'h2 = UInt8.ofNat (xs[j]).toNat := by
        show ((xs.map fun n => UInt8.ofNat n.toNat).toArray)[j]'(by simpa using hj) = _
        simp
      show (s.extract i (i + xs.length))[j]'h1 = (strOfNums xs)[j]'h2
      rw [e1, e2]
      have hb1 := hall j hj
      simp only [List.getD, List.getElem?_eq_getElem hj, Option.getD_some] at hb1
      rw [← hb1]
      unfold bt
      rw [get!_lt s (i + j) (by omega)]
      simp
end Go.Proofs.YtebjklppbkkinaaGreatDoor.R
/- The reference's Next, by widths, is the decoder's. -/
namespace Go.Proofs.YtebjklppbkkinaaGreatDoor.R
open Go.RowKit Go.Lib

theorem gs1 (s : ByteArray) (i : Nat) : gs s i 1 = bt s i := rfl
theorem gs2 (s : ByteArray) (i : Nat) : gs s i 2 = (bt s i - 192) * 64 + bt s (i + 1) - 128 := rfl
theorem gs3 (s : ByteArray) (i : Nat) : gs s i 3 = ((bt s i - 224) * 64 + bt s (i + 1) - 128) * 64 + bt s (i + 2) - 128 := rfl
theorem gs4 (s : ByteArray) (i : Nat) : gs s i 4 = (((bt s i - 240) * 64 + bt s (i + 1) - 128) * 64 + bt s (i + 2) - 128) * 64 + bt s (i + 3) - 128 := rfl

theorem formL_bd (n : Int) : ∀ x ∈ formL n, 0 ≤ x ∧ x ≤ 255 := by
  unfold formL
  by_cases hr : isRune n = true
  · have hq := (isRune_iff n).1 hr
    rw [if_pos hr]
    intro x hx
    repeat' split at hx
    all_goals simp only [List.mem_cons, List.mem_nil_iff, or_false] at hx
    all_goals omega
  · rw [if_neg hr]; intro x hx; cases hx

theorem hit_iff (s : ByteArray) (i k : Nat) (h : i + k ≤ s.size) : hit s i k ↔ (formL (gs s i k)).length = k ∧ ∀ j, j < k → bt s (i + j) = (formL (gs s i k)).getD j 0 := by
  unfold hit
  rw [strOfNums_size]
  constructor
  · rintro ⟨h1, h2⟩
    refine ⟨h1, ?_⟩
    have := (extract_nums s i (formL (gs s i k)) (by omega) (formL_bd _)).1
    rw [h1] at this
    exact this h2
  · rintro ⟨h1, h2⟩
    refine ⟨h1, ?_⟩
    have := (extract_nums s i (formL (gs s i k)) (by omega) (formL_bd _)).2
    rw [h1] at this
    exact this h2

theorem len1 (n : Int) : (formL n).length = 1 ↔ 0 ≤ n ∧ n < 128 := by
  unfold formL
  by_cases hr : isRune n = true
  · have hq := (isRune_iff n).1 hr
    rw [if_pos hr]
    repeat' split
    all_goals simp
    all_goals omega
  · rw [if_neg hr]
    have hq := mt (isRune_iff n).2 hr
    simp
    omega
theorem len2 (n : Int) : (formL n).length = 2 ↔ 128 ≤ n ∧ n < 2048 := by
  unfold formL
  by_cases hr : isRune n = true
  · have hq := (isRune_iff n).1 hr
    rw [if_pos hr]
    repeat' split
    all_goals simp
    all_goals omega
  · rw [if_neg hr]
    have hq := mt (isRune_iff n).2 hr
    simp
    omega
theorem len3 (n : Int) : (formL n).length = 3 ↔ 2048 ≤ n ∧ n < 65536 ∧ (n < 55296 ∨ 57343 < n) := by
  unfold formL
  by_cases hr : isRune n = true
  · have hq := (isRune_iff n).1 hr
    rw [if_pos hr]
    repeat' split
    all_goals simp
    all_goals omega
  · rw [if_neg hr]
    have hq := mt (isRune_iff n).2 hr
    simp
    omega
theorem len4 (n : Int) : (formL n).length = 4 ↔ 65536 ≤ n ∧ n ≤ 1114111 := by
  unfold formL
  by_cases hr : isRune n = true
  · have hq := (isRune_iff n).1 hr
    rw [if_pos hr]
    repeat' split
    all_goals simp
    all_goals omega
  · rw [if_neg hr]
    have hq := mt (isRune_iff n).2 hr
    simp
    omega
theorem form1 (n : Int) (h : 0 ≤ n ∧ n < 128) : formL n = [n] := by
  unfold formL; rw [if_pos ((isRune_iff n).2 (by omega)), if_pos h.2]
theorem form2 (n : Int) (h : 128 ≤ n ∧ n < 2048) : formL n = [192 + n / 64, 128 + n % 64] := by
  unfold formL; rw [if_pos ((isRune_iff n).2 (by omega)), if_neg (by omega), if_pos h.2]
theorem form3 (n : Int) (h : 2048 ≤ n ∧ n < 65536 ∧ (n < 55296 ∨ 57343 < n)) : formL n = [224 + n / 4096, 128 + n / 64 % 64, 128 + n % 64] := by
  unfold formL; rw [if_pos ((isRune_iff n).2 (by omega)), if_neg (by omega), if_neg (by omega), if_pos h.2.1]
theorem form4 (n : Int) (h : 65536 ≤ n ∧ n ≤ 1114111) : formL n = [240 + n / 262144, 128 + n / 4096 % 64, 128 + n / 64 % 64, 128 + n % 64] := by
  unfold formL; rw [if_pos ((isRune_iff n).2 (by omega)), if_neg (by omega), if_neg (by omega), if_neg (by omega)]

theorem nb (s : ByteArray) (i : Nat) : bt s i = ((s.get! i).toNat : Int) ∧ (s.get! i).toNat < 256 := ⟨rfl, (s.get! i).toNat_lt⟩

theorem hit1_iff (s : ByteArray) (i : Nat) (h : i + 1 ≤ s.size) : hit s i 1 ↔ bt s i < 128 := by
  have hb := bt_bd s i
  rw [hit_iff s i 1 h, len1, gs1]
  constructor
  · intro q; exact q.1.2
  · intro q
    refine ⟨⟨hb.1, q⟩, fun j hj => ?_⟩
    obtain rfl : j = 0 := by omega
    rw [form1 _ ⟨hb.1, q⟩]
    rfl
theorem hit2_iff (s : ByteArray) (i : Nat) (h : i + 2 ≤ s.size) : hit s i 2 ↔ 128 ≤ gs s i 2 ∧ gs s i 2 < 2048 ∧ bt s i = 192 + gs s i 2 / 64 ∧ bt s (i + 1) = 128 + gs s i 2 % 64 := by
  rw [hit_iff s i 2 h, len2]
  constructor
  · rintro ⟨q, hq⟩
    rw [form2 _ q] at hq
    exact ⟨q.1, q.2, hq 0 (by omega), hq 1 (by omega)⟩
  · rintro ⟨q1, q2, e0, e1⟩
    refine ⟨⟨q1, q2⟩, fun j hj => ?_⟩
    rw [form2 _ ⟨q1, q2⟩]
    match j, hj with
    | 0, _ => exact e0
    | 1, _ => exact e1
theorem hit3_iff (s : ByteArray) (i : Nat) (h : i + 3 ≤ s.size) : hit s i 3 ↔ 2048 ≤ gs s i 3 ∧ gs s i 3 < 65536 ∧ (gs s i 3 < 55296 ∨ 57343 < gs s i 3) ∧ bt s i = 224 + gs s i 3 / 4096 ∧ bt s (i + 1) = 128 + gs s i 3 / 64 % 64 ∧ bt s (i + 2) = 128 + gs s i 3 % 64 := by
  rw [hit_iff s i 3 h, len3]
  constructor
  · rintro ⟨q, hq⟩
    rw [form3 _ q] at hq
    exact ⟨q.1, q.2.1, q.2.2, hq 0 (by omega), hq 1 (by omega), hq 2 (by omega)⟩
  · rintro ⟨q1, q2, q3, e0, e1, e2⟩
    refine ⟨⟨q1, q2, q3⟩, fun j hj => ?_⟩
    rw [form3 _ ⟨q1, q2, q3⟩]
    match j, hj with
    | 0, _ => exact e0
    | 1, _ => exact e1
    | 2, _ => exact e2
theorem hit4_iff (s : ByteArray) (i : Nat) (h : i + 4 ≤ s.size) : hit s i 4 ↔ 65536 ≤ gs s i 4 ∧ gs s i 4 ≤ 1114111 ∧ bt s i = 240 + gs s i 4 / 262144 ∧ bt s (i + 1) = 128 + gs s i 4 / 4096 % 64 ∧ bt s (i + 2) = 128 + gs s i 4 / 64 % 64 ∧ bt s (i + 3) = 128 + gs s i 4 % 64 := by
  rw [hit_iff s i 4 h, len4]
  constructor
  · rintro ⟨q, hq⟩
    rw [form4 _ q] at hq
    exact ⟨q.1, q.2, hq 0 (by omega), hq 1 (by omega), hq 2 (by omega), hq 3 (by omega)⟩
  · rintro ⟨q1, q2, e0, e1, e2, e3⟩
    refine ⟨⟨q1, q2⟩, fun j hj => ?_⟩
    rw [form4 _ ⟨q1, q2⟩]
    match j, hj with
    | 0, _ => exact e0
    | 1, _ => exact e1
    | 2, _ => exact e2
    | 3, _ => exact e3

theorem nxt_of (s : ByteArray) (i : Nat) (h : i < s.size) (g : Int) (k : Nat) (hg : 0 ≤ g) (hd : Utf8.decode s i = (g.toNat, k)) (hne : ¬ (g = 65533 ∧ k = 1)) : nxt s i = (g, (k : Int)) := by
  unfold nxt
  rw [if_pos h, hd, if_neg (by simp only; omega)]
  simp only
  rw [Int.toNat_of_nonneg hg]

theorem ref_hit (s : ByteArray) (i k : Nat) (h1 : 1 ≤ k) (h4 : k ≤ 4) (h : i + k ≤ s.size) (hh : hit s i k) : nxt s i = (gs s i k, (k : Int)) := by
  have b0 := nb s i; have b1 := nb s (i + 1); have b2 := nb s (i + 2); have b3 := nb s (i + 3)
  have hd := decode_at s i
  match k, h1, h4 with
  | 1, _, _ =>
    have q := (hit1_iff s i h).1 hh
    rw [gs1]
    refine nxt_of s i (by omega) _ 1 (by omega) ?_ (by omega)
    rw [hd, dec1 _ _ _ _ _ (by omega), b0.1, Int.toNat_natCast]
  | 2, _, _ =>
    obtain ⟨q1, q2, e0, e1⟩ := (hit2_iff s i h).1 hh
    have hg := gs2 s i
    refine nxt_of s i (by omega) _ 2 (by omega) ?_ (by omega)
    rw [b0.1] at hg e0; rw [b1.1] at hg e1
    rw [hd, dec2 _ _ _ _ _ _ (by omega) b0.2 b1.2 hg q1 q2 e0 e1]
  | 3, _, _ =>
    obtain ⟨q1, q2, q3, e0, e1, e2⟩ := (hit3_iff s i h).1 hh
    have hg := gs3 s i
    refine nxt_of s i (by omega) _ 3 (by omega) ?_ (by omega)
    rw [b0.1] at hg e0; rw [b1.1] at hg e1; rw [b2.1] at hg e2
    rw [hd, dec3 _ _ _ _ _ _ (by omega) b0.2 b1.2 b2.2 hg q1 q2 q3 e0 e1 e2]
  | 4, _, _ =>
    obtain ⟨q1, q2, e0, e1, e2, e3⟩ := (hit4_iff s i h).1 hh
    have hg := gs4 s i
    refine nxt_of s i (by omega) _ 4 (by omega) ?_ (by omega)
    rw [b0.1] at hg e0; rw [b1.1] at hg e1; rw [b2.1] at hg e2; rw [b3.1] at hg e3
    rw [hd, dec4 _ _ _ _ _ _ (by omega) b0.2 b1.2 b2.2 b3.2 hg q1 q2 e0 e1 e2 e3]

theorem ref_none (s : ByteArray) (i : Nat) (h : i < s.size) (hn : ∀ k, 1 ≤ k → k ≤ 4 → i + k ≤ s.size → ¬ hit s i k) : nxt s i = (-1, 0) := by
  have b0 := nb s i; have b1 := nb s (i + 1); have b2 := nb s (i + 2); have b3 := nb s (i + 3)
  have hd := decode_at s i
  have e1 := mt (hit1_iff s i (by omega)).2 (hn 1 (by omega) (by omega) (by omega))
  have g2 := gs2 s i; have g3 := gs3 s i; have g4 := gs4 s i
  have n2 : 1 < s.size - i → ¬ _ := fun hq => mt (hit2_iff s i (by omega)).2 (hn 2 (by omega) (by omega) (by omega))
  have n3 : 2 < s.size - i → ¬ _ := fun hq => mt (hit3_iff s i (by omega)).2 (hn 3 (by omega) (by omega) (by omega))
  have n4 : 3 < s.size - i → ¬ _ := fun hq => mt (hit4_iff s i (by omega)).2 (hn 4 (by omega) (by omega) (by omega))
  rw [b0.1] at e1 n2 n3 n4 g2 g3 g4
  rw [b1.1] at n2 n3 n4 g2 g3 g4
  rw [b2.1] at n3 n4 g3 g4
  rw [b3.1] at n4 g4
  have := decNone (s.size - i) _ _ _ _ _ _ _ b0.2 b1.2 b2.2 b3.2 g2 g3 g4 (by omega) n2 n3 n4
  unfold nxt
  rw [if_pos h, hd, this, if_pos ⟨rfl, rfl⟩]
end Go.Proofs.YtebjklppbkkinaaGreatDoor.R
