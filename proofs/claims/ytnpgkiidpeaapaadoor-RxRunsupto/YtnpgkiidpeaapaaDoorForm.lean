/- The walks of the reference's IsRune, Form and guess. -/
import Derived.Test.YtnpgkiidpeaapaaDoorNext
import Derived.LoopTactic
import Derived.Laws.BytesArg
namespace Go.Proofs.YtnpgkiidpeaapaaDoor
open Go.RowKit Go.Lib

def isRune (n : Int) : Bool := decide (0 ≤ n ∧ n ≤ 1114111 ∧ (n < 55296 ∨ 57343 < n))

set_option maxHeartbeats 400000 in
theorem isRune_any (n : Int) (w : World) : Calls Tryd.prog 30 #[.int .i64 n] w fun e w' => e = .returned (.bool (isRune n)) ∧ w' = w := by
  by_cases h0 : 0 ≤ n
  · by_cases h1 : n ≤ 1114111
    · by_cases h2 : n < 55296
      · have e1 : isRune n = true := by unfold isRune; simp; omega
        rw [e1]
        go_enter Tryd.func30, Tryd.ntmps30
        go_wp2
        go_ret
        exact ⟨rfl, rfl⟩
      · by_cases h3 : 57343 < n
        · have e1 : isRune n = true := by unfold isRune; simp; omega
          rw [e1]
          go_enter Tryd.func30, Tryd.ntmps30
          go_wp2
          go_ret
          exact ⟨rfl, rfl⟩
        · have e1 : isRune n = false := by unfold isRune; simp; omega
          rw [e1]
          go_enter Tryd.func30, Tryd.ntmps30
          go_wp2
          go_ret
          exact ⟨rfl, rfl⟩
    · have e1 : isRune n = false := by unfold isRune; simp; omega
      rw [e1]
      go_enter Tryd.func30, Tryd.ntmps30
      go_wp2
      go_ret
      exact ⟨rfl, rfl⟩
  · have e1 : isRune n = false := by unfold isRune; simp; omega
    rw [e1]
    go_enter Tryd.func30, Tryd.ntmps30
    go_wp2
    go_ret
    exact ⟨rfl, rfl⟩

set_option maxHeartbeats 400000 in
theorem form_no (n : Int) (w : World) (h : isRune n = false) : Calls Tryd.prog 23 #[.int .i64 n] w fun e w' => e = .returned (.string ⟨#[]⟩) ∧ Below w.heap.size w w' := by
  have cI := isRune_any n w
  rw [h] at cI
  clear h
  go_enter Tryd.func23, Tryd.ntmps23
  go_wp2_with (go_at_call 30; go_fit cI; rintro e w' ⟨rfl, rfl⟩)
  go_ret
  exact ⟨rfl, Below.refl _ _⟩

theorem conv_new (w : World) (xs : List Int) (c : Nat) :
    (convert 78 9 (.slice (some ⟨w.heap.size, 0, none⟩) xs.length c)).run Tryd.prog (w.alloc (.cells (xs.map (Value.int .u8)).toArray 5)) = .ok (.string (strOfNums xs)) (w.alloc (.cells (xs.map (Value.int .u8)).toArray 5)) := by
  refine run_convert_bytes_arg (P := Tryd.prog) _ 78 5 Tryd.underlying78 Tryd.underlying5 w.heap.size 0 xs.length c xs rfl (fun i hi => ?_) 9 Tryd.underlying9
  rw [Nat.zero_add]
  have hh : (w.alloc (.cells (xs.map (Value.int .u8)).toArray 5)).heap[w.heap.size]? = some (.cells (xs.map (Value.int .u8)).toArray 5) := by
    show (w.heap.push _)[w.heap.size]? = _
    simp
  unfold World.cell?
  rw [hh]
  simp [List.getD, hi]
theorem conv1 (w : World) (a : Int) : (convert 78 9 (.slice (some ⟨w.heap.size, 0, none⟩) 1 1)).run Tryd.prog (w.alloc (.cells #[.int .u8 a] 5)) = .ok (.string (strOfNums [a])) (w.alloc (.cells #[.int .u8 a] 5)) := conv_new w [a] 1
theorem conv2 (w : World) (a b : Int) : (convert 78 9 (.slice (some ⟨w.heap.size, 0, none⟩) 2 2)).run Tryd.prog (w.alloc (.cells #[.int .u8 a, .int .u8 b] 5)) = .ok (.string (strOfNums [a, b])) (w.alloc (.cells #[.int .u8 a, .int .u8 b] 5)) := conv_new w [a, b] 2
theorem conv3 (w : World) (a b c : Int) : (convert 78 9 (.slice (some ⟨w.heap.size, 0, none⟩) 3 3)).run Tryd.prog (w.alloc (.cells #[.int .u8 a, .int .u8 b, .int .u8 c] 5)) = .ok (.string (strOfNums [a, b, c])) (w.alloc (.cells #[.int .u8 a, .int .u8 b, .int .u8 c] 5)) := conv_new w [a, b, c] 3
theorem conv4 (w : World) (a b c d : Int) : (convert 78 9 (.slice (some ⟨w.heap.size, 0, none⟩) 4 4)).run Tryd.prog (w.alloc (.cells #[.int .u8 a, .int .u8 b, .int .u8 c, .int .u8 d] 5)) = .ok (.string (strOfNums [a, b, c, d])) (w.alloc (.cells #[.int .u8 a, .int .u8 b, .int .u8 c, .int .u8 d] 5)) := conv_new w [a, b, c, d] 4

set_option maxHeartbeats 1000000 in
theorem form_one (n : Int) (w : World) (h0 : 0 ≤ n) (h1 : n < 128) : Calls Tryd.prog 23 #[.int .i64 n] w fun e w' => e = .returned (.string (strOfNums [n])) ∧ Below w.heap.size w w' := by
  have cI := isRune_any n w
  rw [show isRune n = true by unfold isRune; simp; omega] at cI
  have cv := conv1
  have h2 : decide (n < 128) = true := by simpa using h1
  go_enter Tryd.func23, Tryd.ntmps23
  go_wp2_with (go_at_call 30; go_fit cI; rintro e w' ⟨rfl, rfl⟩)
  go_ret
  exact ⟨rfl, (Below.refl _ _).alloc (Nat.le_refl _) _⟩
set_option maxHeartbeats 1000000 in
theorem form_two (n : Int) (w : World) (h0 : 128 ≤ n) (h1 : n < 2048) : Calls Tryd.prog 23 #[.int .i64 n] w fun e w' => e = .returned (.string (strOfNums [192 + n / 64, 128 + n % 64])) ∧ Below w.heap.size w w' := by
  have cI := isRune_any n w
  rw [show isRune n = true by unfold isRune; simp; omega] at cI
  have cv := conv2
  have h2 : decide (n < 128) = false := by simp; omega
  have h3 : decide (n < 2048) = true := by simpa using h1
  have q0 : 0 ≤ n := by omega
  go_enter Tryd.func23, Tryd.ntmps23
  go_wp2_with (go_at_call 30; go_fit cI; rintro e w' ⟨rfl, rfl⟩)
  go_ret
  exact ⟨rfl, (Below.refl _ _).alloc (Nat.le_refl _) _⟩
set_option maxHeartbeats 1000000 in
theorem form_three (n : Int) (w : World) (hr : isRune n = true) (h0 : 2048 ≤ n) (h1 : n < 65536) : Calls Tryd.prog 23 #[.int .i64 n] w fun e w' => e = .returned (.string (strOfNums [224 + n / 4096, 128 + n / 64 % 64, 128 + n % 64])) ∧ Below w.heap.size w w' := by
  have cI := isRune_any n w
  rw [hr] at cI
  clear hr
  have cv := conv3
  have h2 : decide (n < 128) = false := by simp; omega
  have h3 : decide (n < 2048) = false := by simp; omega
  have h4 : decide (n < 65536) = true := by simpa using h1
  have q0 : 0 ≤ n := by omega
  go_enter Tryd.func23, Tryd.ntmps23
  go_wp2_with (go_at_call 30; go_fit cI; rintro e w' ⟨rfl, rfl⟩)
  go_ret
  exact ⟨rfl, (Below.refl _ _).alloc (Nat.le_refl _) _⟩
set_option maxHeartbeats 1000000 in
theorem form_four (n : Int) (w : World) (h0 : 65536 ≤ n) (h1 : n ≤ 1114111) : Calls Tryd.prog 23 #[.int .i64 n] w fun e w' => e = .returned (.string (strOfNums [240 + n / 262144, 128 + n / 4096 % 64, 128 + n / 64 % 64, 128 + n % 64])) ∧ Below w.heap.size w w' := by
  have cI := isRune_any n w
  rw [show isRune n = true by unfold isRune; simp; omega] at cI
  have cv := conv4
  have h2 : decide (n < 128) = false := by simp; omega
  have h3 : decide (n < 2048) = false := by simp; omega
  have h4 : decide (n < 65536) = false := by simp; omega
  have q0 : 0 ≤ n := by omega
  go_enter Tryd.func23, Tryd.ntmps23
  go_wp2_with (go_at_call 30; go_fit cI; rintro e w' ⟨rfl, rfl⟩)
  go_ret
  exact ⟨rfl, (Below.refl _ _).alloc (Nat.le_refl _) _⟩
end Go.Proofs.YtnpgkiidpeaapaaDoor
