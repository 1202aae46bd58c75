/- A bundle of texts. -/
import Derived.Test.YtajaadagejhllaaGreatDoorBs34
import Derived.Test.YtajaadagejhllaaGreatDoorBs02
import Derived.LoopTactic
import Derived.Laws.BytesArg
/- The walks of the reference's IsRune, Form and guess. -/
namespace Go.Proofs.YtajaadagejhllaaGreatDoor
open Go.RowKit Go.Lib

set_option maxHeartbeats 400000 in
set_option maxRecDepth 100000 in
theorem rIsRune_any (n : Int) (w : World) : Calls Tryz.prog 51 #[.int .i64 n] w fun e w' => e = .returned (.bool (isRune n)) ∧ w' = w := by
  by_cases h0 : 0 ≤ n
  · by_cases h1 : n ≤ 1114111
    · by_cases h2 : n < 55296
      · have e1 : isRune n = true := by unfold isRune; simp; omega
        rw [e1]
        go_enter Tryz.func51, Tryz.ntmps51
        go_wp2
        go_ret
        exact ⟨rfl, rfl⟩
      · by_cases h3 : 57343 < n
        · have e1 : isRune n = true := by unfold isRune; simp; omega
          rw [e1]
          go_enter Tryz.func51, Tryz.ntmps51
          go_wp2
          go_ret
          exact ⟨rfl, rfl⟩
        · have e1 : isRune n = false := by unfold isRune; simp; omega
          rw [e1]
          go_enter Tryz.func51, Tryz.ntmps51
          go_wp2
          go_ret
          exact ⟨rfl, rfl⟩
    · have e1 : isRune n = false := by unfold isRune; simp; omega
      rw [e1]
      go_enter Tryz.func51, Tryz.ntmps51
      go_wp2
      go_ret
      exact ⟨rfl, rfl⟩
  · have e1 : isRune n = false := by unfold isRune; simp; omega
    rw [e1]
    go_enter Tryz.func51, Tryz.ntmps51
    go_wp2
    go_ret
    exact ⟨rfl, rfl⟩

set_option maxHeartbeats 400000 in
set_option maxRecDepth 100000 in
theorem form_no (n : Int) (w : World) (h : isRune n = false) : Calls Tryz.prog 39 #[.int .i64 n] w fun e w' => e = .returned (.string ⟨#[]⟩) ∧ Below w.heap.size w w' := by
  have cI := rIsRune_any n w
  rw [h] at cI
  clear h
  go_enter Tryz.func39, Tryz.ntmps39
  go_wp2_with (go_at_call 51; go_fit cI; rintro e w' ⟨rfl, rfl⟩)
  go_ret
  exact ⟨rfl, Below.refl _ _⟩

set_option maxRecDepth 100000 in
theorem conv_new (w : World) (xs : List Int) (c : Nat) :
    (convert 53 9 (.slice (some ⟨w.heap.size, 0, none⟩) xs.length c)).run Tryz.prog (w.alloc (.cells (xs.map (Value.int .u8)).toArray 5)) = .ok (.string (strOfNums xs)) (w.alloc (.cells (xs.map (Value.int .u8)).toArray 5)) := by
  refine run_convert_bytes_arg (P := Tryz.prog) _ 53 5 Tryz.underlying53 Tryz.underlying5 w.heap.size 0 xs.length c xs rfl (fun i hi => ?_) 9 Tryz.underlying9
  rw [Nat.zero_add]
  have hh : (w.alloc (.cells (xs.map (Value.int .u8)).toArray 5)).heap[w.heap.size]? = some (.cells (xs.map (Value.int .u8)).toArray 5) := by
    show (w.heap.push _)[w.heap.size]? = _
    simp
  unfold World.cell?
  rw [hh]
  simp [List.getD, hi]
set_option maxRecDepth 100000 in
theorem conv1 (w : World) (a : Int) : (convert 53 9 (.slice (some ⟨w.heap.size, 0, none⟩) 1 1)).run Tryz.prog (w.alloc (.cells #[.int .u8 a] 5)) = .ok (.string (strOfNums [a])) (w.alloc (.cells #[.int .u8 a] 5)) := conv_new w [a] 1
set_option maxRecDepth 100000 in
theorem conv2 (w : World) (a b : Int) : (convert 53 9 (.slice (some ⟨w.heap.size, 0, none⟩) 2 2)).run Tryz.prog (w.alloc (.cells #[.int .u8 a, .int .u8 b] 5)) = .ok (.string (strOfNums [a, b])) (w.alloc (.cells #[.int .u8 a, .int .u8 b] 5)) := conv_new w [a, b] 2
set_option maxRecDepth 100000 in
theorem conv3 (w : World) (a b c : Int) : (convert 53 9 (.slice (some ⟨w.heap.size, 0, none⟩) 3 3)).run Tryz.prog (w.alloc (.cells #[.int .u8 a, .int .u8 b, .int .u8 c] 5)) = .ok (.string (strOfNums [a, b, c])) (w.alloc (.cells #[.int .u8 a, .int .u8 b, .int .u8 c] 5)) := conv_new w [a, b, c] 3
set_option maxRecDepth 100000 in
theorem conv4 (w : World) (a b c d : Int) : (convert 53 9 (.slice (some ⟨w.heap.size, 0, none⟩) 4 4)).run Tryz.prog (w.alloc (.cells #[.int .u8 a, .int .u8 b, .int .u8 c, .int .u8 d] 5)) = .ok (.string (strOfNums [a, b, c, d])) (w.alloc (.cells #[.int .u8 a, .int .u8 b, .int .u8 c, .int .u8 d] 5)) := conv_new w [a, b, c, d] 4

set_option maxHeartbeats 1000000 in
set_option maxRecDepth 100000 in
theorem form_one (n : Int) (w : World) (h0 : 0 ≤ n) (h1 : n < 128) : Calls Tryz.prog 39 #[.int .i64 n] w fun e w' => e = .returned (.string (strOfNums [n])) ∧ Below w.heap.size w w' := by
  have cI := rIsRune_any n w
  rw [show isRune n = true by unfold isRune; simp; omega] at cI
  have cv := conv1
  have h2 : decide (n < 128) = true := by simpa using h1
  go_enter Tryz.func39, Tryz.ntmps39
  go_wp2_with (go_at_call 51; go_fit cI; rintro e w' ⟨rfl, rfl⟩)
  go_ret
  exact ⟨rfl, (Below.refl _ _).alloc (Nat.le_refl _) _⟩
set_option maxHeartbeats 1000000 in
set_option maxRecDepth 100000 in
theorem form_two (n : Int) (w : World) (h0 : 128 ≤ n) (h1 : n < 2048) : Calls Tryz.prog 39 #[.int .i64 n] w fun e w' => e = .returned (.string (strOfNums [192 + n / 64, 128 + n % 64])) ∧ Below w.heap.size w w' := by
  have cI := rIsRune_any n w
  rw [show isRune n = true by unfold isRune; simp; omega] at cI
  have cv := conv2
  have h2 : decide (n < 128) = false := by simp; omega
  have h3 : decide (n < 2048) = true := by simpa using h1
  have q0 : 0 ≤ n := by omega
  go_enter Tryz.func39, Tryz.ntmps39
  go_wp2_with (go_at_call 51; go_fit cI; rintro e w' ⟨rfl, rfl⟩)
  go_ret
  exact ⟨rfl, (Below.refl _ _).alloc (Nat.le_refl _) _⟩
set_option maxHeartbeats 1000000 in
set_option maxRecDepth 100000 in
theorem form_three (n : Int) (w : World) (hr : isRune n = true) (h0 : 2048 ≤ n) (h1 : n < 65536) : Calls Tryz.prog 39 #[.int .i64 n] w fun e w' => e = .returned (.string (strOfNums [224 + n / 4096, 128 + n / 64 % 64, 128 + n % 64])) ∧ Below w.heap.size w w' := by
  have cI := rIsRune_any n w
  rw [hr] at cI
  clear hr
  have cv := conv3
  have h2 : decide (n < 128) = false := by simp; omega
  have h3 : decide (n < 2048) = false := by simp; omega
  have h4 : decide (n < 65536) = true := by simpa using h1
  have q0 : 0 ≤ n := by omega
  go_enter Tryz.func39, Tryz.ntmps39
  go_wp2_with (go_at_call 51; go_fit cI; rintro e w' ⟨rfl, rfl⟩)
  go_ret
  exact ⟨rfl, (Below.refl _ _).alloc (Nat.le_refl _) _⟩
set_option maxHeartbeats 1000000 in
set_option maxRecDepth 100000 in
theorem form_four (n : Int) (w : World) (h0 : 65536 ≤ n) (h1 : n ≤ 1114111) : Calls Tryz.prog 39 #[.int .i64 n] w fun e w' => e = .returned (.string (strOfNums [240 + n / 262144, 128 + n / 4096 % 64, 128 + n / 64 % 64, 128 + n % 64])) ∧ Below w.heap.size w w' := by
  have cI := rIsRune_any n w
  rw [show isRune n = true by unfold isRune; simp; omega] at cI
  have cv := conv4
  have h2 : decide (n < 128) = false := by simp; omega
  have h3 : decide (n < 2048) = false := by simp; omega
  have h4 : decide (n < 65536) = false := by simp; omega
  have q0 : 0 ≤ n := by omega
  go_enter Tryz.func39, Tryz.ntmps39
  go_wp2_with (go_at_call 51; go_fit cI; rintro e w' ⟨rfl, rfl⟩)
  go_ret
  exact ⟨rfl, (Below.refl _ _).alloc (Nat.le_refl _) _⟩
end Go.Proofs.YtajaadagejhllaaGreatDoor
/- The walk of the reference's guess. -/
namespace Go.Proofs.YtajaadagejhllaaGreatDoor
open Go.RowKit Go.Lib

/-- The byte at a place, as a number. -/
def bt (s : ByteArray) (i : Nat) : Int := ((s.get! i).toNat : Int)
theorem bt_bd (s : ByteArray) (i : Nat) : 0 ≤ bt s i ∧ bt s i ≤ 255 := by
  have := (s.get! i).toNat_lt
  unfold bt; omega
theorem bt_at (s : ByteArray) (i : Nat) (h : i < s.size) : ((s[i]'h).toNat : Int) = bt s i := by
  unfold bt; rw [get!_lt s i h]
def gacc (s : ByteArray) (i : Nat) (n0 : Int) : Nat → Int
  | 0 => n0
  | j + 1 => gacc s i n0 j * 64 + bt s (i + (j + 1)) - 128
theorem gacc_bd (s : ByteArray) (i : Nat) (n0 : Int) (h0 : -240 ≤ n0) (h1 : n0 ≤ 255) : ∀ j, j ≤ 3 → -100000000 ≤ gacc s i n0 j ∧ gacc s i n0 j ≤ 100000000
  | 0, _ => by simp only [gacc]; omega
  | 1, _ => by have b1 := bt_bd s (i + (0 + 1)); simp only [gacc]; omega
  | 2, _ => by have b1 := bt_bd s (i + (0 + 1)); have b2 := bt_bd s (i + (1 + 1)); simp only [gacc]; omega
  | 3, _ => by have b1 := bt_bd s (i + (0 + 1)); have b2 := bt_bd s (i + (1 + 1)); have b3 := bt_bd s (i + (2 + 1)); simp only [gacc]; omega
  | j + 4, h => by omega

set_option maxHeartbeats 400000 in
theorem guess_one (s : ByteArray) (i : Nat) (w : World) (_hs : s.size ≤ maxLen) (h : i < s.size) :
    Calls Tryz.prog 38 #[.string s, .int .i64 i, .int .i64 1] w fun e w' => e = .returned (.int .i64 (bt s i)) ∧ w' = w := by
  unfold maxLen at _hs
  have hi : (i : Int) < s.size := by omega
  have hat := bt_at s i h
  obtain ⟨hb1, hb2⟩ := bt_bd s i
  go_enter Tryz.func38, Tryz.ntmps38
  go_wp2
  go_ret
  exact ⟨rfl, rfl⟩

set_option maxHeartbeats 1000000 in
theorem guess_more (s : ByteArray) (i k : Nat) (n0 : Int) (w : World) (hs : s.size ≤ maxLen) (hk : k = 2 ∧ n0 = bt s i - 192 ∨ k = 3 ∧ n0 = bt s i - 224 ∨ k = 4 ∧ n0 = bt s i - 240) (h : i + k ≤ s.size) :
    Calls Tryz.prog 38 #[.string s, .int .i64 i, .int .i64 k] w fun e w' => e = .returned (.int .i64 (gacc s i n0 (k - 1))) ∧ w' = w := by
  unfold maxLen at hs
  have hi : (i : Int) < s.size := by omega
  have hi' : i < s.size := by omega
  have hb := bt_bd s i
  have hg := gacc_bd s i n0 (by omega) (by omega)
  have hat := bt_at s i hi'
  obtain ⟨hb1, hb2⟩ := hb
  rcases hk with ⟨rfl, hn⟩ | ⟨rfl, hn⟩ | ⟨rfl, hn⟩
  · have HN : Hid (n0 = _) := hn
    have HG : Hid (∀ j, j ≤ 3 → -100000000 ≤ gacc s i n0 j ∧ gacc s i n0 j ≤ 100000000) := hg
    clear hn hg
    change Calls Tryz.prog 38 #[.string s, .int .i64 i, .int .i64 2] w _
    go_enter Tryz.func38, Tryz.ntmps38
    go_wp2
    go_loop [8, 9] (fun n t => ∃ j : Nat, j + 1 ≤ 2 ∧ t = .int .i64 (j + 1) ∧ n = .int .i64 (gacc s i n0 j)) (fun _ t => 2 - (RowKit.intOf t).toNat)
    case atStart => exact ⟨0, by omega, rfl, by rw [gacc, HN.out]⟩
    case round =>
      obtain ⟨j, hj, rfl, rfl⟩ := hrel
      obtain ⟨hg1, hg2⟩ := HG.out j (by omega)
      by_cases hlt : j + 1 < 2
      · have hx := bt_at s (i + (j + 1)) (by omega)
        obtain ⟨hx1, hx2⟩ := bt_bd s (i + (j + 1))
        go_wp2
        go_round
        case rel => exact ⟨j + 1, by omega, by go_num, by simp only [gacc]⟩
        case measure => simp [RowKit.intOf]; omega
      · go_wp2
        go_ret
        obtain rfl : j = 2 - 1 := by omega
        exact ⟨rfl, rfl⟩
  · have HN : Hid (n0 = _) := hn
    have HG : Hid (∀ j, j ≤ 3 → -100000000 ≤ gacc s i n0 j ∧ gacc s i n0 j ≤ 100000000) := hg
    clear hn hg
    change Calls Tryz.prog 38 #[.string s, .int .i64 i, .int .i64 3] w _
    go_enter Tryz.func38, Tryz.ntmps38
    go_wp2
    go_loop [8, 9] (fun n t => ∃ j : Nat, j + 1 ≤ 3 ∧ t = .int .i64 (j + 1) ∧ n = .int .i64 (gacc s i n0 j)) (fun _ t => 3 - (RowKit.intOf t).toNat)
    case atStart => exact ⟨0, by omega, rfl, by rw [gacc, HN.out]⟩
    case round =>
      obtain ⟨j, hj, rfl, rfl⟩ := hrel
      obtain ⟨hg1, hg2⟩ := HG.out j (by omega)
      by_cases hlt : j + 1 < 3
      · have hx := bt_at s (i + (j + 1)) (by omega)
        obtain ⟨hx1, hx2⟩ := bt_bd s (i + (j + 1))
        go_wp2
        go_round
        case rel => exact ⟨j + 1, by omega, by go_num, by simp only [gacc]⟩
        case measure => simp [RowKit.intOf]; omega
      · go_wp2
        go_ret
        obtain rfl : j = 3 - 1 := by omega
        exact ⟨rfl, rfl⟩
  · have HN : Hid (n0 = _) := hn
    have HG : Hid (∀ j, j ≤ 3 → -100000000 ≤ gacc s i n0 j ∧ gacc s i n0 j ≤ 100000000) := hg
    clear hn hg
    change Calls Tryz.prog 38 #[.string s, .int .i64 i, .int .i64 4] w _
    go_enter Tryz.func38, Tryz.ntmps38
    go_wp2
    go_loop [8, 9] (fun n t => ∃ j : Nat, j + 1 ≤ 4 ∧ t = .int .i64 (j + 1) ∧ n = .int .i64 (gacc s i n0 j)) (fun _ t => 4 - (RowKit.intOf t).toNat)
    case atStart => exact ⟨0, by omega, rfl, by rw [gacc, HN.out]⟩
    case round =>
      obtain ⟨j, hj, rfl, rfl⟩ := hrel
      obtain ⟨hg1, hg2⟩ := HG.out j (by omega)
      by_cases hlt : j + 1 < 4
      · have hx := bt_at s (i + (j + 1)) (by omega)
        obtain ⟨hx1, hx2⟩ := bt_bd s (i + (j + 1))
        go_wp2
        go_round
        case rel => exact ⟨j + 1, by omega, by go_num, by simp only [gacc]⟩
        case measure => simp [RowKit.intOf]; omega
      · go_wp2
        go_ret
        obtain rfl : j = 4 - 1 := by omega
        exact ⟨rfl, rfl⟩
end Go.Proofs.YtajaadagejhllaaGreatDoor
/- The plain mathematics of the reference's Next: the first width whose guess has just those bytes as its form, and the decoder. -/
namespace Go.Proofs.YtajaadagejhllaaGreatDoor
open Go.RowKit Go.Lib

set_option maxHeartbeats 4000000 in
theorem decNone (n b0 b1 b2 b3 : Nat) (g2 g3 g4 : Int) (_h0 : b0 < 256) (_h1 : b1 < 256) (h2 : b2 < 256) (h3 : b3 < 256) (hg2 : g2 = ((b0 : Int) - 192) * 64 + b1 - 128) (hg3 : g3 = (((b0 : Int) - 224) * 64 + b1 - 128) * 64 + b2 - 128)
    (hg4 : g4 = ((((b0 : Int) - 240) * 64 + b1 - 128) * 64 + b2 - 128) * 64 + b3 - 128) (n1 : ¬ b0 < 128)
    (n2 : 1 < n → ¬ (128 ≤ g2 ∧ g2 < 2048 ∧ (b0 : Int) = 192 + g2 / 64 ∧ (b1 : Int) = 128 + g2 % 64))
    (n3 : 2 < n → ¬ (2048 ≤ g3 ∧ g3 < 65536 ∧ (g3 < 55296 ∨ 57343 < g3) ∧ (b0 : Int) = 224 + g3 / 4096 ∧ (b1 : Int) = 128 + g3 / 64 % 64 ∧ (b2 : Int) = 128 + g3 % 64))
    (n4 : 3 < n → ¬ (65536 ≤ g4 ∧ g4 ≤ 1114111 ∧ (b0 : Int) = 240 + g4 / 262144 ∧ (b1 : Int) = 128 + g4 / 4096 % 64 ∧ (b2 : Int) = 128 + g4 / 64 % 64 ∧ (b3 : Int) = 128 + g4 % 64)) : decodeN n b0 b1 b2 b3 = (65533, 1) := by
  unfold decodeN
  rw [if_neg n1]
  split
  · rename_i hc
    split
    · exfalso
      exact n2 (by omega) ⟨by omega, by omega, by omega, by omega⟩
    · rfl
  · split
    · split
      · exfalso
        exact n3 (by omega) ⟨by omega, by omega, by omega, by omega, by omega, by omega⟩
      · rfl
    · split
      · split
        · exfalso
          exact n4 (by omega) ⟨by omega, by omega, by omega, by omega, by omega, by omega⟩
        · rfl
      · rfl

/-- The number that k bytes from a place on would be the form of. -/
def gs (s : ByteArray) (i k : Nat) : Int :=
  if k = 1 then bt s i else if k = 2 then gacc s i (bt s i - 192) 1 else if k = 3 then gacc s i (bt s i - 224) 2 else gacc s i (bt s i - 240) 3
/-- A rune's form, as numbers. -/
def formL (n : Int) : List Int :=
  if isRune n then (if n < 128 then [n] else if n < 2048 then [192 + n / 64, 128 + n % 64] else if n < 65536 then [224 + n / 4096, 128 + n / 64 % 64, 128 + n % 64]
    else [240 + n / 262144, 128 + n / 4096 % 64, 128 + n / 64 % 64, 128 + n % 64]) else []
theorem form_any (n : Int) (w : World) : Calls Tryz.prog 39 #[.int .i64 n] w fun e w' => e = .returned (.string (strOfNums (formL n))) ∧ Below w.heap.size w w' := by
  by_cases hr : isRune n = true
  · have hq := (isRune_iff n).1 hr
    unfold formL
    rw [if_pos hr]
    by_cases h1 : n < 128
    · rw [if_pos h1]; exact form_one n w hq.1 h1
    · rw [if_neg h1]
      by_cases h2 : n < 2048
      · rw [if_pos h2]; exact form_two n w (by omega) h2
      · rw [if_neg h2]
        by_cases h3 : n < 65536
        · rw [if_pos h3]; exact form_three n w hr (by omega) h3
        · rw [if_neg h3]; exact form_four n w (by omega) hq.2.1
  · unfold formL
    rw [if_neg hr]
    exact form_no n w (by simpa using hr)
theorem guess_any (s : ByteArray) (i k : Nat) (w : World) (hs : s.size ≤ maxLen) (h1 : 1 ≤ k) (h4 : k ≤ 4) (h : i + k ≤ s.size) :
    Calls Tryz.prog 38 #[.string s, .int .i64 i, .int .i64 k] w fun e w' => e = .returned (.int .i64 (gs s i k)) ∧ w' = w := by
  by_cases e1 : k = 1
  · subst e1; exact guess_one s i w hs (by omega)
  · by_cases e2 : k = 2
    · subst e2; exact guess_more s i 2 _ w hs (Or.inl ⟨rfl, rfl⟩) h
    · by_cases e3 : k = 3
      · subst e3; exact guess_more s i 3 _ w hs (Or.inr (Or.inl ⟨rfl, rfl⟩)) h
      · obtain rfl : k = 4 := by omega
        exact guess_more s i 4 _ w hs (Or.inr (Or.inr ⟨rfl, rfl⟩)) h

/-- Are these k bytes the form of their guess? -/
def hit (s : ByteArray) (i k : Nat) : Prop := (strOfNums (formL (gs s i k))).size = k ∧ s.extract i (i + k) = strOfNums (formL (gs s i k))

theorem extract_nums (s : ByteArray) (i : Nat) (xs : List Int) (h : i + xs.length ≤ s.size) (hb : ∀ x ∈ xs, 0 ≤ x ∧ x ≤ 255) :
    s.extract i (i + xs.length) = strOfNums xs ↔ ∀ j, j < xs.length → bt s (i + j) = xs.getD j 0 := by
  constructor
  · intro he j hj
    have h1 : (s.extract i (i + xs.length)).get! j = (strOfNums xs).get! j := by rw [he]
    rw [get!_lt _ j (by simp; omega), get!_lt _ j (by rw [strOfNums_size]; exact hj)] at h1
    rw [ByteArray.getElem_extract] at h1
    have h2 : (strOfNums xs)[j]'(by rw [strOfNums_size]; exact hj) = UInt8.ofNat (xs[j]).toNat := by
      show ((xs.map fun n => UInt8.ofNat n.toNat).toArray)[j]'(by simpa using hj) = _
      simp
    rw [h2] at h1
    have hx := hb xs[j] (List.getElem_mem hj)
    unfold bt
    rw [get!_lt s (i + j) (by omega), h1]
    simp only [UInt8.toNat_ofNat', List.getD, List.getElem?_eq_getElem hj, Option.getD_some]
    omega
  · intro hall
    apply ByteArray.ext
    apply Array.ext
    · show (s.extract i (i + xs.length)).size = (strOfNums xs).size
      rw [strOfNums_size]; simp; omega
    · intro j h1 h2
      have hj : j < xs.length := by
        have : j < (strOfNums xs).size := h2
        rwa [strOfNums_size] at this
      have e1 : (s.extract i (i + xs.length))[j]'h1 = s[i + j]'(by omega) := by rw [ByteArray.getElem_extract]
      have e2 : (strOfNums xs)[j]'h2 = UInt8.ofNat (xs[j]).toNat := by
        show ((xs.map fun n => UInt8.ofNat n.toNat).toArray)[j]'(by simpa using hj) = _
        simp
      show (s.extract i (i + xs.length))[j]'h1 = (strOfNums xs)[j]'h2
      rw [e1, e2]
      have hb1 := hall j hj
      simp only [List.getD, List.getElem?_eq_getElem hj, Option.getD_some] at hb1
      rw [← hb1]
      unfold bt
      rw [get!_lt s (i + j) (by omega)]
      simp
end Go.Proofs.YtajaadagejhllaaGreatDoor
