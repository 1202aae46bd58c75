/- A bundle of texts. -/
import Derived.Test.YtjmninjaoemhjaaDoorBm01
import Derived.WalkKit
import Derived.WalkLawsBesides
import Derived.WalkSpells
import Derived.Below
import Derived.Deep.DeepFit
import Derived.Outline
import Derived.Lib.OthersKept
import Derived.WalkSmall
import Derived.LoopTactic
import Derived.Laws.BytesArg
/- The walks of utf.Next and utf.begins. -/
namespace Go.Proofs.YtjmninjaoemhjaaDoor
open Go.RowKit Go.Lib

theorem decodeGo_extract (s : ByteArray) (i : Nat) (h : i < s.size) : Lib.decodeGo (s.extract i s.size) = Utf8.decode s i := by
  unfold Lib.decodeGo
  rw [if_neg (by simp; omega), decode_extract]

set_option maxHeartbeats 400000 in
theorem next_out (s : ByteArray) (a : Int) (w : World) (hs : s.size ≤ maxLen) (h : a < 0 ∨ (s.size : Int) ≤ a) :
    Calls Tryd.prog 73 #[.string s, .int .i64 a] w fun e w' => e = .returned (.tuple #[.int .i32 (-1), .int .i64 0]) ∧ Below w.heap.size w w' := by
  unfold maxLen at hs
  rcases h with h | h
  · go_enter Tryd.func73, Tryd.ntmps73
    go_wp2
    go_ret2
    exact ⟨rfl, Below.refl _ _⟩
  · have h0 : ¬ a < 0 := by omega
    go_enter Tryd.func73, Tryd.ntmps73
    go_wp2
    go_ret2
    exact ⟨rfl, Below.refl _ _⟩

set_option maxHeartbeats 400000 in
theorem next_in (s : ByteArray) (i : Nat) (w : World) (_hs : s.size ≤ maxLen) (hT : Lib.Utf8Tabs 1 2 w) (h : i < s.size) :
    Calls Tryd.prog 73 #[.string s, .int .i64 i] w fun e w' => e = .returned (.tuple #[.int .i32 (nxt s i).1, .int .i64 (nxt s i).2]) ∧ Below w.heap.size w w' := by
  unfold maxLen at _hs
  have h0 : ¬ (i : Int) < 0 := by omega
  have h1 : ¬ (s.size : Int) ≤ i := by omega
  have hd := decodeGo_extract s i h
  have HT : Hid (Lib.Utf8Tabs 1 2 w) := hT
  obtain ⟨R, hR⟩ : ∃ R, (Utf8.decode s i).1 = R := ⟨_, rfl⟩
  obtain ⟨K, hK⟩ : ∃ K, (Utf8.decode s i).2 = K := ⟨_, rfl⟩
  have hn : nxt s i = if R = 65533 ∧ K = 1 then (-1, 0) else ((R : Int), (K : Int)) := by
    unfold nxt; rw [if_pos h, hR, hK]
  have cD := Tryd.utf8_DecodeRuneInString (s.extract i s.size) w hT
  rw [hd, hR, hK] at cD
  clear hd hT hR hK
  by_cases hr : R = 65533
  · by_cases hk : K = 1
    · rw [hn, if_pos ⟨hr, hk⟩]
      clear hn
      subst hr; subst hk
      go_enter Tryd.func73, Tryd.ntmps73
      go_wp2_with (go_at_call 101; go_fit cD; rintro e w' ⟨rfl, hb⟩)
      all_goals go_ret2
      all_goals exact ⟨rfl, hb⟩
    · have hkb : ((K : Int) == 1) = false := by rw [beq_eq_false_iff_ne]; omega
      rw [hn, if_neg (fun h => hk h.2)]
      clear hn hk
      subst hr
      go_enter Tryd.func73, Tryd.ntmps73
      go_wp2_with (go_at_call 101; go_fit cD; rintro e w' ⟨rfl, hb⟩)
      go_ret2
      exact ⟨rfl, hb⟩
  · have hrb : ((R : Int) == 65533) = false := by rw [beq_eq_false_iff_ne]; omega
    rw [hn, if_neg (fun h => hr h.1)]
    clear hn hr
    go_enter Tryd.func73, Tryd.ntmps73
    go_wp2_with (go_at_call 101; go_fit cD; rintro e w' ⟨rfl, hb⟩)
    go_ret2
    exact ⟨rfl, hb⟩

theorem next_any (s : ByteArray) (a : Int) (w : World) (hs : s.size ≤ maxLen) (hT : Lib.Utf8Tabs 1 2 w) :
    Calls Tryd.prog 73 #[.string s, .int .i64 a] w fun e w' => e = .returned (.tuple #[.int .i32 (nxtZ s a).1, .int .i64 (nxtZ s a).2]) ∧ Below w.heap.size w w' := by
  by_cases h0 : a < 0
  · have e1 : nxtZ s a = (-1, 0) := by unfold nxtZ; rw [if_neg (by omega)]
    rw [e1]
    exact next_out s a w hs (Or.inl h0)
  · obtain ⟨i, rfl⟩ := Int.eq_ofNat_of_zero_le (show 0 ≤ a by omega)
    have e1 : nxtZ s (i : Int) = nxt s i := by unfold nxtZ; rw [if_pos (by omega)]; simp
    rw [e1]
    by_cases h1 : i < s.size
    · exact next_in s i w hs hT h1
    · rw [nxt_out s i (by omega)]
      exact next_out s i w hs (Or.inr (by omega))

/-! The tables stand in every later world. -/
theorem lt_of_cell {w : World} {b o : Nat} {v : Value} (h : w.cell? ⟨b, o, none⟩ = some v) : b < w.heap.size := by
  unfold World.cell? at h
  by_cases hb : b < w.heap.size
  · exact hb
  · rw [Array.getElem?_eq_none (by simpa using hb)] at h
    cases h
theorem tabs_size {w : World} (h : Lib.Utf8Tabs 1 2 w) : 2 < w.heap.size := lt_of_cell (h.2 0 (by omega)).1
theorem tabs_below {w w' : World} {B : Nat} (h : Lib.Utf8Tabs 1 2 w) (hB : 2 < B) (hb : Below B w w') : Lib.Utf8Tabs 1 2 w' :=
  ⟨fun c hc => by rw [hb.cell (show (1 : Nat) < B by omega)]; exact h.1 c hc, fun i hi => ⟨by rw [hb.cell (show (2 : Nat) < B by omega)]; exact (h.2 i hi).1, by rw [hb.cell (show (2 : Nat) < B by omega)]; exact (h.2 i hi).2⟩⟩

set_option maxHeartbeats 400000 in
theorem begins_any (s : ByteArray) (i : Nat) (w : World) (hs : s.size ≤ maxLen) (hT : Lib.Utf8Tabs 1 2 w) (h : i < s.size) :
    Calls Tryd.prog 55 #[.string s, .int .i64 i, .int .i32 (Utf8.decode s i).1] w fun e w' => e = .returned (.bool (decide ((nxt s i).2 ≠ 0))) ∧ Below w.heap.size w w' := by
  have hno := nxt_no s i h
  have hp := nxt_pos s i
  have cN := next_in s i w hs hT h
  obtain ⟨R, hR⟩ : ∃ R, (Utf8.decode s i).1 = R := ⟨_, rfl⟩
  rw [hR] at hno ⊢
  clear hs hT
  by_cases hr : R = 65533
  · subst hr
    obtain ⟨X, hX⟩ : ∃ X, (nxt s i).1 = X := ⟨_, rfl⟩
    obtain ⟨Y, hY⟩ : ∃ Y, (nxt s i).2 = Y := ⟨_, rfl⟩
    rw [hX, hY] at cN
    rw [hY] at hp ⊢
    clear hno hX hY hR
    obtain ⟨b, hb⟩ : ∃ b, decide (Y ≠ 0) = b := ⟨_, rfl⟩
    have hb' : decide (0 < Y) = b := by rw [← hb]; apply decide_eq_decide.2; omega
    rw [hb]
    have HB : Hid (decide (Y ≠ 0) = b) := hb
    clear hb
    cases b
    all_goals
      go_enter Tryd.func55, Tryd.ntmps55
      go_wp2_with (go_at_call 73; go_fit cN; rintro e w' ⟨rfl, hb⟩)
      go_ret
      exact ⟨rfl, hb⟩
  · have hrb : ((R : Int) != 65533) = true := by rw [bne_iff_ne]; omega
    have hb : decide ((nxt s i).2 ≠ 0) = true := by simp only [decide_eq_true_eq]; intro h2; exact hr (hno.1 h2).1
    rw [hb]
    clear hno cN hR hp hb hr
    go_enter Tryd.func55, Tryd.ntmps55
    go_wp2
    go_ret
    exact ⟨rfl, Below.refl _ _⟩
end Go.Proofs.YtjmninjaoemhjaaDoor
/- The walk of utf.Valid: a range over the text. -/
namespace Go.Proofs.YtjmninjaoemhjaaDoor
open Go.RowKit Go.Lib

theorem vld_bad' (s : ByteArray) (b i : Nat) (h : i < s.size) (hb : 0 < b) (hz : (nxt s i).2 = 0) : vld s b i = false := by
  obtain ⟨f, rfl⟩ : ∃ f, b = f + 1 := ⟨b - 1, by omega⟩
  exact vld_bad s f i h hz
theorem vld_good' (s : ByteArray) (b i : Nat) (h : i < s.size) (hb : 0 < b) (hz : (nxt s i).2 ≠ 0) : vld s b i = vld s (b - 1) (i + (Utf8.decode s i).2) := by
  obtain ⟨f, rfl⟩ : ∃ f, b = f + 1 := ⟨b - 1, by omega⟩
  exact vld_good s f i h hz

set_option maxRecDepth 1000000 in
set_option maxHeartbeats 1000000 in
theorem valid_any (s : ByteArray) (w : World) (hs : s.size ≤ maxLen) (hT : Lib.Utf8Tabs 1 2 w) :
    Calls Tryd.prog 28 #[.string s] w fun e w' => e = .returned (.bool (vld s s.size 0)) ∧ Below w.heap.size w w' := by
  have hsz := tabs_size hT
  have HS : Hid (s.size ≤ maxLen) := hs
  have HT : Hid (Lib.Utf8Tabs 1 2 w) := hT
  clear hs hT
  go_enter Tryd.func28, Tryd.ntmps28
  go_wp2
  go_loopw [] (fun w' => ∃ (pos b : Nat), w'.heap[w.heap.size]? = some (.stringIter s pos) ∧ Below w.heap.size w w' ∧ vld s b pos = vld s s.size 0 ∧ s.size ≤ pos + b) (fun w' => s.size - w'.iterPos w.heap.size)
  case atStart => exact ⟨0, s.size, World.iter_heap w s 0, (Below.refl _ _).alloc (Nat.le_refl _) _, rfl, by omega⟩
  case round =>
    obtain ⟨pos, b, hk, hbw, hv, hb⟩ := hrel
    by_cases hp : pos < s.size
    · have hnx : ∀ ty, (Instr.next (.pointer (some ⟨w.heap.size, 0, none⟩)) true ty).run Tryd.prog wr = _ := fun ty => run_next_any_at wr w.heap.size s pos ty hk hp
      have hwd := (decode_width s pos).1
      have hb1 : Below w.heap.size w (wr.iterAt w.heap.size s (pos + (Utf8.decode s pos).2)) := below_iterAt hbw (Nat.le_refl _) s _
      have hk1 := iterAt_heap wr w.heap.size s pos (pos + (Utf8.decode s pos).2) hk
      have cB := begins_any s pos (wr.iterAt w.heap.size s (pos + (Utf8.decode s pos).2)) HS.out (tabs_below HT.out hsz hb1) hp
      have hsz1 : w.heap.size < (wr.iterAt w.heap.size s (pos + (Utf8.decode s pos).2)).heap.size := (Array.getElem?_eq_some_iff.1 hk1).1
      generalize hW : wr.iterAt w.heap.size s (pos + (Utf8.decode s pos).2) = W at *
      obtain ⟨K, hK⟩ : ∃ K, (Utf8.decode s pos).2 = K := ⟨_, rfl⟩
      obtain ⟨R, hR⟩ : ∃ R, (Utf8.decode s pos).1 = R := ⟨_, rfl⟩
      rw [hK] at hwd hk1
      rw [hR] at hnx cB
      have HV : Hid (vld s b pos = vld s s.size 0) := hv
      have HK : Hid ((Utf8.decode s pos).2 = K) := hK
      have HW1 : Hid (W.heap[w.heap.size]? = some (.stringIter s (pos + K))) := hk1
      have HW2 : Hid (wr.heap[w.heap.size]? = some (.stringIter s pos)) := hk
      clear hv hK hk1 hW hR hk
      by_cases hz : (nxt s pos).2 = 0
      · have hd : decide ((nxt s pos).2 ≠ 0) = false := by simp [hz]
        rw [hd] at cB
        have HZ : Hid ((nxt s pos).2 = 0) := hz
        clear hd hz
        go_wp2_with (go_at_call 55; go_fit cB; rintro e w' ⟨rfl, hb2⟩)
        go_ret
        exact ⟨by rw [← HV.out, vld_bad' s b pos hp (by omega) HZ.out]; rfl, hb1.trans (hb2.mono (Nat.le_of_lt hsz1))⟩
      · have hd : decide ((nxt s pos).2 ≠ 0) = true := by simp [hz]
        rw [hd] at cB
        have HZ : Hid ((nxt s pos).2 ≠ 0) := hz
        clear hd hz
        go_wp2_with (go_at_call 55; go_fit cB; rintro e w' ⟨rfl, hb2⟩)
        go_roundw
        case rel => exact ⟨pos + K, b - 1, (hb2.block _ hsz1).trans HW1.out, hb1.trans (hb2.mono (Nat.le_of_lt hsz1)), by rw [← HV.out, vld_good' s b pos hp (by omega) HZ.out, HK.out], by omega⟩
        case measure =>
          rw [iterPos_at HW2.out, iterPos_at ((hb2.block _ hsz1).trans HW1.out)]
          omega
    · have hnx : ∀ ty, (Instr.next (.pointer (some ⟨w.heap.size, 0, none⟩)) true ty).run Tryd.prog wr = _ := fun ty => run_next_end_at wr w.heap.size s pos ty hk hp
      have HV : Hid (vld s b pos = vld s s.size 0) := hv
      have HP : Hid (¬ pos < s.size) := hp
      clear hv hk
      go_wp2
      go_ret
      exact ⟨by rw [← HV.out, vld_end s b pos HP.out]; rfl, hbw⟩
end Go.Proofs.YtjmninjaoemhjaaDoor
/- The walks of the reference's IsRune, Form and guess. -/
namespace Go.Proofs.YtjmninjaoemhjaaDoor.R
open Go.RowKit Go.Lib

def isRune (n : Int) : Bool := decide (0 ≤ n ∧ n ≤ 1114111 ∧ (n < 55296 ∨ 57343 < n))

set_option maxHeartbeats 400000 in
theorem isRune_any (n : Int) (w : World) : Calls Tryd.prog 114 #[.int .i64 n] w fun e w' => e = .returned (.bool (isRune n)) ∧ w' = w := by
  by_cases h0 : 0 ≤ n
  · by_cases h1 : n ≤ 1114111
    · by_cases h2 : n < 55296
      · have e1 : isRune n = true := by unfold isRune; simp; omega
        rw [e1]
        go_enter Tryd.func114, Tryd.ntmps114
        go_wp2
        go_ret
        exact ⟨rfl, rfl⟩
      · by_cases h3 : 57343 < n
        · have e1 : isRune n = true := by unfold isRune; simp; omega
          rw [e1]
          go_enter Tryd.func114, Tryd.ntmps114
          go_wp2
          go_ret
          exact ⟨rfl, rfl⟩
        · have e1 : isRune n = false := by unfold isRune; simp; omega
          rw [e1]
          go_enter Tryd.func114, Tryd.ntmps114
          go_wp2
          go_ret
          exact ⟨rfl, rfl⟩
    · have e1 : isRune n = false := by unfold isRune; simp; omega
      rw [e1]
      go_enter Tryd.func114, Tryd.ntmps114
      go_wp2
      go_ret
      exact ⟨rfl, rfl⟩
  · have e1 : isRune n = false := by unfold isRune; simp; omega
    rw [e1]
    go_enter Tryd.func114, Tryd.ntmps114
    go_wp2
    go_ret
    exact ⟨rfl, rfl⟩

set_option maxHeartbeats 400000 in
theorem form_no (n : Int) (w : World) (h : isRune n = false) : Calls Tryd.prog 99 #[.int .i64 n] w fun e w' => e = .returned (.string ⟨#[]⟩) ∧ Below w.heap.size w w' := by
  have cI := isRune_any n w
  rw [h] at cI
  clear h
  go_enter Tryd.func99, Tryd.ntmps99
  go_wp2_with (go_at_call 114; go_fit cI; rintro e w' ⟨rfl, rfl⟩)
  go_ret
  exact ⟨rfl, Below.refl _ _⟩

theorem conv_new (w : World) (xs : List Int) (c : Nat) :
    (convert 95 9 (.slice (some ⟨w.heap.size, 0, none⟩) xs.length c)).run Tryd.prog (w.alloc (.cells (xs.map (Value.int .u8)).toArray 5)) = .ok (.string (strOfNums xs)) (w.alloc (.cells (xs.map (Value.int .u8)).toArray 5)) := by
  refine run_convert_bytes_arg (P := Tryd.prog) _ 95 5 Tryd.underlying95 Tryd.underlying5 w.heap.size 0 xs.length c xs rfl (fun i hi => ?_) 9 Tryd.underlying9
  rw [Nat.zero_add]
  have hh : (w.alloc (.cells (xs.map (Value.int .u8)).toArray 5)).heap[w.heap.size]? = some (.cells (xs.map (Value.int .u8)).toArray 5) := by
    show (w.heap.push _)[w.heap.size]? = _
    simp
  unfold World.cell?
  rw [hh]
  simp [List.getD, hi]
theorem conv1 (w : World) (a : Int) : (convert 95 9 (.slice (some ⟨w.heap.size, 0, none⟩) 1 1)).run Tryd.prog (w.alloc (.cells #[.int .u8 a] 5)) = .ok (.string (strOfNums [a])) (w.alloc (.cells #[.int .u8 a] 5)) := conv_new w [a] 1
theorem conv2 (w : World) (a b : Int) : (convert 95 9 (.slice (some ⟨w.heap.size, 0, none⟩) 2 2)).run Tryd.prog (w.alloc (.cells #[.int .u8 a, .int .u8 b] 5)) = .ok (.string (strOfNums [a, b])) (w.alloc (.cells #[.int .u8 a, .int .u8 b] 5)) := conv_new w [a, b] 2
theorem conv3 (w : World) (a b c : Int) : (convert 95 9 (.slice (some ⟨w.heap.size, 0, none⟩) 3 3)).run Tryd.prog (w.alloc (.cells #[.int .u8 a, .int .u8 b, .int .u8 c] 5)) = .ok (.string (strOfNums [a, b, c])) (w.alloc (.cells #[.int .u8 a, .int .u8 b, .int .u8 c] 5)) := conv_new w [a, b, c] 3
theorem conv4 (w : World) (a b c d : Int) : (convert 95 9 (.slice (some ⟨w.heap.size, 0, none⟩) 4 4)).run Tryd.prog (w.alloc (.cells #[.int .u8 a, .int .u8 b, .int .u8 c, .int .u8 d] 5)) = .ok (.string (strOfNums [a, b, c, d])) (w.alloc (.cells #[.int .u8 a, .int .u8 b, .int .u8 c, .int .u8 d] 5)) := conv_new w [a, b, c, d] 4

set_option maxHeartbeats 1000000 in
theorem form_one (n : Int) (w : World) (h0 : 0 ≤ n) (h1 : n < 128) : Calls Tryd.prog 99 #[.int .i64 n] w fun e w' => e = .returned (.string (strOfNums [n])) ∧ Below w.heap.size w w' := by
  have cI := isRune_any n w
  rw [show isRune n = true by unfold isRune; simp; omega] at cI
  have cv := conv1
  have h2 : decide (n < 128) = true := by simpa using h1
  go_enter Tryd.func99, Tryd.ntmps99
  go_wp2_with (go_at_call 114; go_fit cI; rintro e w' ⟨rfl, rfl⟩)
  go_ret
  exact ⟨rfl, (Below.refl _ _).alloc (Nat.le_refl _) _⟩
set_option maxHeartbeats 1000000 in
theorem form_two (n : Int) (w : World) (h0 : 128 ≤ n) (h1 : n < 2048) : Calls Tryd.prog 99 #[.int .i64 n] w fun e w' => e = .returned (.string (strOfNums [192 + n / 64, 128 + n % 64])) ∧ Below w.heap.size w w' := by
  have cI := isRune_any n w
  rw [show isRune n = true by unfold isRune; simp; omega] at cI
  have cv := conv2
  have h2 : decide (n < 128) = false := by simp; omega
  have h3 : decide (n < 2048) = true := by simpa using h1
  have q0 : 0 ≤ n := by omega
  go_enter Tryd.func99, Tryd.ntmps99
  go_wp2_with (go_at_call 114; go_fit cI; rintro e w' ⟨rfl, rfl⟩)
  go_ret
  exact ⟨rfl, (Below.refl _ _).alloc (Nat.le_refl _) _⟩
set_option maxHeartbeats 1000000 in
theorem form_three (n : Int) (w : World) (hr : isRune n = true) (h0 : 2048 ≤ n) (h1 : n < 65536) : Calls Tryd.prog 99 #[.int .i64 n] w fun e w' => e = .returned (.string (strOfNums [224 + n / 4096, 128 + n / 64 % 64, 128 + n % 64])) ∧ Below w.heap.size w w' := by
  have cI := isRune_any n w
  rw [hr] at cI
  clear hr
  have cv := conv3
  have h2 : decide (n < 128) = false := by simp; omega
  have h3 : decide (n < 2048) = false := by simp; omega
  have h4 : decide (n < 65536) = true := by simpa using h1
  have q0 : 0 ≤ n := by omega
  go_enter Tryd.func99, Tryd.ntmps99
  go_wp2_with (go_at_call 114; go_fit cI; rintro e w' ⟨rfl, rfl⟩)
  go_ret
  exact ⟨rfl, (Below.refl _ _).alloc (Nat.le_refl _) _⟩
set_option maxHeartbeats 1000000 in
theorem form_four (n : Int) (w : World) (h0 : 65536 ≤ n) (h1 : n ≤ 1114111) : Calls Tryd.prog 99 #[.int .i64 n] w fun e w' => e = .returned (.string (strOfNums [240 + n / 262144, 128 + n / 4096 % 64, 128 + n / 64 % 64, 128 + n % 64])) ∧ Below w.heap.size w w' := by
  have cI := isRune_any n w
  rw [show isRune n = true by unfold isRune; simp; omega] at cI
  have cv := conv4
  have h2 : decide (n < 128) = false := by simp; omega
  have h3 : decide (n < 2048) = false := by simp; omega
  have h4 : decide (n < 65536) = false := by simp; omega
  have q0 : 0 ≤ n := by omega
  go_enter Tryd.func99, Tryd.ntmps99
  go_wp2_with (go_at_call 114; go_fit cI; rintro e w' ⟨rfl, rfl⟩)
  go_ret
  exact ⟨rfl, (Below.refl _ _).alloc (Nat.le_refl _) _⟩
end Go.Proofs.YtjmninjaoemhjaaDoor.R
/- The walk of the reference's guess. -/
namespace Go.Proofs.YtjmninjaoemhjaaDoor.R
open Go.RowKit Go.Lib

/-- The byte at a place, as a number. -/
def bt (s : ByteArray) (i : Nat) : Int := ((s.get! i).toNat : Int)
theorem bt_bd (s : ByteArray) (i : Nat) : 0 ≤ bt s i ∧ bt s i ≤ 255 := by
  have := (s.get! i).toNat_lt
  unfold bt; omega
theorem bt_at (s : ByteArray) (i : Nat) (h : i < s.size) : ((s[i]'h).toNat : Int) = bt s i := by
  unfold bt; rw [get!_lt s i h]
def gacc (s : ByteArray) (i : Nat) (n0 : Int) : Nat → Int
  | 0 => n0
  | j + 1 => gacc s i n0 j * 64 + bt s (i + (j + 1)) - 128
theorem gacc_bd (s : ByteArray) (i : Nat) (n0 : Int) (h0 : -240 ≤ n0) (h1 : n0 ≤ 255) : ∀ j, j ≤ 3 → -100000000 ≤ gacc s i n0 j ∧ gacc s i n0 j ≤ 100000000
  | 0, _ => by simp only [gacc]; omega
  | 1, _ => by have b1 := bt_bd s (i + (0 + 1)); simp only [gacc]; omega
  | 2, _ => by have b1 := bt_bd s (i + (0 + 1)); have b2 := bt_bd s (i + (1 + 1)); simp only [gacc]; omega
  | 3, _ => by have b1 := bt_bd s (i + (0 + 1)); have b2 := bt_bd s (i + (1 + 1)); have b3 := bt_bd s (i + (2 + 1)); simp only [gacc]; omega
  | j + 4, h => by omega

set_option maxHeartbeats 400000 in
theorem guess_one (s : ByteArray) (i : Nat) (w : World) (_hs : s.size ≤ maxLen) (h : i < s.size) :
    Calls Tryd.prog 98 #[.string s, .int .i64 i, .int .i64 1] w fun e w' => e = .returned (.int .i64 (bt s i)) ∧ w' = w := by
  unfold maxLen at _hs
  have hi : (i : Int) < s.size := by omega
  have hat := bt_at s i h
  obtain ⟨hb1, hb2⟩ := bt_bd s i
  go_enter Tryd.func98, Tryd.ntmps98
  go_wp2
  go_ret
  exact ⟨rfl, rfl⟩

set_option maxHeartbeats 1000000 in
theorem guess_more (s : ByteArray) (i k : Nat) (n0 : Int) (w : World) (hs : s.size ≤ maxLen) (hk : k = 2 ∧ n0 = bt s i - 192 ∨ k = 3 ∧ n0 = bt s i - 224 ∨ k = 4 ∧ n0 = bt s i - 240) (h : i + k ≤ s.size) :
    Calls Tryd.prog 98 #[.string s, .int .i64 i, .int .i64 k] w fun e w' => e = .returned (.int .i64 (gacc s i n0 (k - 1))) ∧ w' = w := by
  unfold maxLen at hs
  have hi : (i : Int) < s.size := by omega
  have hi' : i < s.size := by omega
  have hb := bt_bd s i
  have hg := gacc_bd s i n0 (by omega) (by omega)
  have hat := bt_at s i hi'
  obtain ⟨hb1, hb2⟩ := hb
  rcases hk with ⟨rfl, hn⟩ | ⟨rfl, hn⟩ | ⟨rfl, hn⟩
  · have HN : Hid (n0 = _) := hn
    have HG : Hid (∀ j, j ≤ 3 → -100000000 ≤ gacc s i n0 j ∧ gacc s i n0 j ≤ 100000000) := hg
    clear hn hg
    change Calls Tryd.prog 98 #[.string s, .int .i64 i, .int .i64 2] w _
    go_enter Tryd.func98, Tryd.ntmps98
    go_wp2
    go_loop [8, 9] (fun n t => ∃ j : Nat, j + 1 ≤ 2 ∧ t = .int .i64 (j + 1) ∧ n = .int .i64 (gacc s i n0 j)) (fun _ t => 2 - (RowKit.intOf t).toNat)
    case atStart => exact ⟨0, by omega, rfl, by rw [gacc, HN.out]⟩
    case round =>
      obtain ⟨j, hj, rfl, rfl⟩ := hrel
      obtain ⟨hg1, hg2⟩ := HG.out j (by omega)
      by_cases hlt : j + 1 < 2
      · have hx := bt_at s (i + (j + 1)) (by omega)
        obtain ⟨hx1, hx2⟩ := bt_bd s (i + (j + 1))
        go_wp2
        go_round
        case rel => exact ⟨j + 1, by omega, by go_num, by simp only [gacc]⟩
        case measure => simp [RowKit.intOf]; omega
      · go_wp2
        go_ret
        obtain rfl : j = 2 - 1 := by omega
        exact ⟨rfl, rfl⟩
  · have HN : Hid (n0 = _) := hn
    have HG : Hid (∀ j, j ≤ 3 → -100000000 ≤ gacc s i n0 j ∧ gacc s i n0 j ≤ 100000000) := hg
    clear hn hg
    change Calls Tryd.prog 98 #[.string s, .int .i64 i, .int .i64 3] w _
    go_enter Tryd.func98, Tryd.ntmps98
    go_wp2
    go_loop [8, 9] (fun n t => ∃ j : Nat, j + 1 ≤ 3 ∧ t = .int .i64 (j + 1) ∧ n = .int .i64 (gacc s i n0 j)) (fun _ t => 3 - (RowKit.intOf t).toNat)
    case atStart => exact ⟨0, by omega, rfl, by rw [gacc, HN.out]⟩
    case round =>
      obtain ⟨j, hj, rfl, rfl⟩ := hrel
      obtain ⟨hg1, hg2⟩ := HG.out j (by omega)
      by_cases hlt : j + 1 < 3
      · have hx := bt_at s (i + (j + 1)) (by omega)
        obtain ⟨hx1, hx2⟩ := bt_bd s (i + (j + 1))
        go_wp2
        go_round
        case rel => exact ⟨j + 1, by omega, by go_num, by simp only [gacc]⟩
        case measure => simp [RowKit.intOf]; omega
      · go_wp2
        go_ret
        obtain rfl : j = 3 - 1 := by omega
        exact ⟨rfl, rfl⟩
  · have HN : Hid (n0 = _) := hn
    have HG : Hid (∀ j, j ≤ 3 → -100000000 ≤ gacc s i n0 j ∧ gacc s i n0 j ≤ 100000000) := hg
    clear hn hg
    change Calls Tryd.prog 98 #[.string s, .int .i64 i, .int .i64 4] w _
    go_enter Tryd.func98, Tryd.ntmps98
    go_wp2
    go_loop [8, 9] (fun n t => ∃ j : Nat, j + 1 ≤ 4 ∧ t = .int .i64 (j + 1) ∧ n = .int .i64 (gacc s i n0 j)) (fun _ t => 4 - (RowKit.intOf t).toNat)
    case atStart => exact ⟨0, by omega, rfl, by rw [gacc, HN.out]⟩
    case round =>
      obtain ⟨j, hj, rfl, rfl⟩ := hrel
      obtain ⟨hg1, hg2⟩ := HG.out j (by omega)
      by_cases hlt : j + 1 < 4
      · have hx := bt_at s (i + (j + 1)) (by omega)
        obtain ⟨hx1, hx2⟩ := bt_bd s (i + (j + 1))
        go_wp2
        go_round
        case rel => exact ⟨j + 1, by omega, by go_num, by simp only [gacc]⟩
        case measure => simp [RowKit.intOf]; omega
      · go_wp2
        go_ret
        obtain rfl : j = 4 - 1 := by omega
        exact ⟨rfl, rfl⟩
end Go.Proofs.YtjmninjaoemhjaaDoor.R
/- The plain mathematics of the reference's Next: the first width whose guess has just those bytes as its form, and the decoder. -/
namespace Go.Proofs.YtjmninjaoemhjaaDoor.R
open Go.RowKit Go.Lib

theorem dec1 (n b0 b1 b2 b3 : Nat) (h : b0 < 128) : decodeN n b0 b1 b2 b3 = (b0, 1) := by
  unfold decodeN; rw [if_pos h]
set_option maxHeartbeats 1000000 in
theorem dec2 (n b0 b1 b2 b3 : Nat) (g : Int) (hn : 1 < n) (h0 : b0 < 256) (h1 : b1 < 256) (hg : g = ((b0 : Int) - 192) * 64 + b1 - 128) (l : 128 ≤ g) (u : g < 2048)
    (e0 : (b0 : Int) = 192 + g / 64) (_e1 : (b1 : Int) = 128 + g % 64) : decodeN n b0 b1 b2 b3 = (g.toNat, 2) := by
  unfold decodeN
  repeat' split
  all_goals first | (exfalso; omega) | (apply Prod.ext <;> simp only <;> omega)
set_option maxHeartbeats 1000000 in
theorem dec3 (n b0 b1 b2 b3 : Nat) (g : Int) (hn : 2 < n) (h0 : b0 < 256) (h1 : b1 < 256) (h2 : b2 < 256) (hg : g = (((b0 : Int) - 224) * 64 + b1 - 128) * 64 + b2 - 128) (l : 2048 ≤ g) (u : g < 65536)
    (r : g < 55296 ∨ 57343 < g) (e0 : (b0 : Int) = 224 + g / 4096) (e1 : (b1 : Int) = 128 + g / 64 % 64) (e2 : (b2 : Int) = 128 + g % 64) : decodeN n b0 b1 b2 b3 = (g.toNat, 3) := by
  unfold decodeN
  repeat' split
  all_goals first | (exfalso; omega) | (apply Prod.ext <;> simp only <;> omega)
set_option maxHeartbeats 1000000 in
theorem dec4 (n b0 b1 b2 b3 : Nat) (g : Int) (hn : 3 < n) (h0 : b0 < 256) (_h1 : b1 < 256) (h2 : b2 < 256) (_h3 : b3 < 256) (hg : g = ((((b0 : Int) - 240) * 64 + b1 - 128) * 64 + b2 - 128) * 64 + b3 - 128) (l : 65536 ≤ g) (u : g ≤ 1114111)
    (e0 : (b0 : Int) = 240 + g / 262144) (e1 : (b1 : Int) = 128 + g / 4096 % 64) (e2 : (b2 : Int) = 128 + g / 64 % 64) (e3 : (b3 : Int) = 128 + g % 64) : decodeN n b0 b1 b2 b3 = (g.toNat, 4) := by
  unfold decodeN
  repeat' split
  all_goals first | (exfalso; omega) | (apply Prod.ext <;> simp only <;> omega)
set_option maxHeartbeats 4000000 in
theorem decNone (n b0 b1 b2 b3 : Nat) (g2 g3 g4 : Int) (_h0 : b0 < 256) (_h1 : b1 < 256) (h2 : b2 < 256) (h3 : b3 < 256) (hg2 : g2 = ((b0 : Int) - 192) * 64 + b1 - 128) (hg3 : g3 = (((b0 : Int) - 224) * 64 + b1 - 128) * 64 + b2 - 128)
    (hg4 : g4 = ((((b0 : Int) - 240) * 64 + b1 - 128) * 64 + b2 - 128) * 64 + b3 - 128) (n1 : ¬ b0 < 128)
    (n2 : 1 < n → ¬ (128 ≤ g2 ∧ g2 < 2048 ∧ (b0 : Int) = 192 + g2 / 64 ∧ (b1 : Int) = 128 + g2 % 64))
    (n3 : 2 < n → ¬ (2048 ≤ g3 ∧ g3 < 65536 ∧ (g3 < 55296 ∨ 57343 < g3) ∧ (b0 : Int) = 224 + g3 / 4096 ∧ (b1 : Int) = 128 + g3 / 64 % 64 ∧ (b2 : Int) = 128 + g3 % 64))
    (n4 : 3 < n → ¬ (65536 ≤ g4 ∧ g4 ≤ 1114111 ∧ (b0 : Int) = 240 + g4 / 262144 ∧ (b1 : Int) = 128 + g4 / 4096 % 64 ∧ (b2 : Int) = 128 + g4 / 64 % 64 ∧ (b3 : Int) = 128 + g4 % 64)) : decodeN n b0 b1 b2 b3 = (65533, 1) := by
  unfold decodeN
  rw [if_neg n1]
  split
  · rename_i hc
    split
    · exfalso
      exact n2 (by omega) ⟨by omega, by omega, by omega, by omega⟩
    · rfl
  · split
    · split
      · exfalso
        exact n3 (by omega) ⟨by omega, by omega, by omega, by omega, by omega, by omega⟩
      · rfl
    · split
      · split
        · exfalso
          exact n4 (by omega) ⟨by omega, by omega, by omega, by omega, by omega, by omega⟩
        · rfl
      · rfl

/-- The number that k bytes from a place on would be the form of. -/
def gs (s : ByteArray) (i k : Nat) : Int :=
  if k = 1 then bt s i else if k = 2 then gacc s i (bt s i - 192) 1 else if k = 3 then gacc s i (bt s i - 224) 2 else gacc s i (bt s i - 240) 3
/-- A rune's form, as numbers. -/
def formL (n : Int) : List Int :=
  if isRune n then (if n < 128 then [n] else if n < 2048 then [192 + n / 64, 128 + n % 64] else if n < 65536 then [224 + n / 4096, 128 + n / 64 % 64, 128 + n % 64]
    else [240 + n / 262144, 128 + n / 4096 % 64, 128 + n / 64 % 64, 128 + n % 64]) else []
theorem isRune_iff (n : Int) : isRune n = true ↔ 0 ≤ n ∧ n ≤ 1114111 ∧ (n < 55296 ∨ 57343 < n) := by unfold isRune; simp

theorem form_any (n : Int) (w : World) : Calls Tryd.prog 99 #[.int .i64 n] w fun e w' => e = .returned (.string (strOfNums (formL n))) ∧ Below w.heap.size w w' := by
  by_cases hr : isRune n = true
  · have hq := (isRune_iff n).1 hr
    unfold formL
    rw [if_pos hr]
    by_cases h1 : n < 128
    · rw [if_pos h1]; exact form_one n w hq.1 h1
    · rw [if_neg h1]
      by_cases h2 : n < 2048
      · rw [if_pos h2]; exact form_two n w (by omega) h2
      · rw [if_neg h2]
        by_cases h3 : n < 65536
        · rw [if_pos h3]; exact form_three n w hr (by omega) h3
        · rw [if_neg h3]; exact form_four n w (by omega) hq.2.1
  · unfold formL
    rw [if_neg hr]
    exact form_no n w (by simpa using hr)
theorem guess_any (s : ByteArray) (i k : Nat) (w : World) (hs : s.size ≤ maxLen) (h1 : 1 ≤ k) (h4 : k ≤ 4) (h : i + k ≤ s.size) :
    Calls Tryd.prog 98 #[.string s, .int .i64 i, .int .i64 k] w fun e w' => e = .returned (.int .i64 (gs s i k)) ∧ w' = w := by
  by_cases e1 : k = 1
  · subst e1; exact guess_one s i w hs (by omega)
  · by_cases e2 : k = 2
    · subst e2; exact guess_more s i 2 _ w hs (Or.inl ⟨rfl, rfl⟩) h
    · by_cases e3 : k = 3
      · subst e3; exact guess_more s i 3 _ w hs (Or.inr (Or.inl ⟨rfl, rfl⟩)) h
      · obtain rfl : k = 4 := by omega
        exact guess_more s i 4 _ w hs (Or.inr (Or.inr ⟨rfl, rfl⟩)) h

/-- Are these k bytes the form of their guess? -/
def hit (s : ByteArray) (i k : Nat) : Prop := (strOfNums (formL (gs s i k))).size = k ∧ s.extract i (i + k) = strOfNums (formL (gs s i k))

theorem extract_nums (s : ByteArray) (i : Nat) (xs : List Int) (h : i + xs.length ≤ s.size) (hb : ∀ x ∈ xs, 0 ≤ x ∧ x ≤ 255) :
    s.extract i (i + xs.length) = strOfNums xs ↔ ∀ j, j < xs.length → bt s (i + j) = xs.getD j 0 := by
  constructor
  · intro he j hj
    have h1 : (s.extract i (i + xs.length)).get! j = (strOfNums xs).get! j := by rw [he]
    rw [get!_lt _ j (by simp; omega), get!_lt _ j (by rw [strOfNums_size]; exact hj)] at h1
    rw [ByteArray.getElem_extract] at h1
    have h2 : (strOfNums xs)[j]'(by rw [strOfNums_size]; exact hj) = UInt8.ofNat (xs[j]).toNat := by
      show ((xs.map fun n => UInt8.ofNat n.toNat).toArray)[j]'(by simpa using hj) = _
      simp
    rw [h2] at h1
    have hx := hb xs[j] (List.getElem_mem hj)
    unfold bt
    rw [get!_lt s (i + j) (by omega), h1]
    simp only [UInt8.toNat_ofNat', List.getD, List.getElem?_eq_getElem hj, Option.getD_some]
    omega
  · intro hall
    apply ByteArray.ext
    apply Array.ext
    · show (s.extract i (i + xs.length)).size = (strOfNums xs).size
      rw [strOfNums_size]; simp; omega
    · intro j h1 h2
      have hj : j < xs.length := by
        have : j < (strOfNums xs).size := h2
        rwa [strOfNums_size] at this
      have e1 : (s.extract i (i + xs.length))[j]'h1 = s[i + j]'(by omega) := by rw [ByteArray.getElem_extract]
      have e2 : (strOfNums xs)[j]'h2 = UInt8.ofNat (xs[j]).toNat := by
        show ((xs.map fun n => UInt8.ofNat n.toNat).toArray)[j]'(by simpa using hj) = _
        simp
      show (s.extract i (i + xs.length))[j]'h1 = (strOfNums xs)[j]'h2
      rw [e1, e2]
      have hb1 := hall j hj
      simp only [List.getD, List.getElem?_eq_getElem hj, Option.getD_some] at hb1
      rw [← hb1]
      unfold bt
      rw [get!_lt s (i + j) (by omega)]
      simp
end Go.Proofs.YtjmninjaoemhjaaDoor.R
