/- The walk of the law's own spelled, its first half: by number, by letter, and as it is. -/
import Derived.Test.YtdnbkgbgpfmipabDoorSpell
import Derived.Test.YtdnbkgbgpfmipabDoorRn
namespace Go.Proofs.YtdnbkgbgpfmipabDoor
open Go.RowKit Go.Lib

/-- The text of a spelling. -/
def spT (r how q : Int) : ByteArray := strOfNums ((sp r how q).flatMap (·.1))
def spBT (r q : Int) : ByteArray := strOfNums ((spB r q).flatMap (·.1))

theorem conv_one (r : Int) (w : World) : (convert 22 9 (.slice (some ⟨w.heap.size, 0, none⟩) 1 1)).run Tryd.prog (w.alloc (.cells #[.int .i32 r] 21)) = .ok (.string (runesBytes [r])) (w.alloc (.cells #[.int .i32 r] 21)) := by
  refine conv_runes (w.alloc (.cells #[.int .i32 r] 21)) w.heap.size 0 1 [r] (fun j hj => ?_)
  have : j = 0 := by simp at hj; omega
  subst this
  unfold World.cell?
  rw [show (w.alloc (.cells #[.int .i32 r] 21)).heap[w.heap.size]? = some (.cells #[.int .i32 r] 21) from heap_alloc_new w _]
  rfl
theorem rb_one (r : Int) (h : isRune r = true) : runesBytes [r] = strOfNums (formL r) := by
  rw [rb_nums [r] (by simpa using h)]
  simp
theorem nums2 (a b : Int) (L : List Int) : strOfNums (a :: b :: L) = strOfNums [a, b] ++ strOfNums L := nums_app [a, b] L
theorem nums1 (a : Int) (L : List Int) : strOfNums (a :: L) = strOfNums [a] ++ strOfNums L := nums_app [a] L

set_option maxHeartbeats 2000000 in
set_option maxRecDepth 100000 in
theorem spelled_1 (r q : Int) (w : World) (hr : isRune r = true) :
    Calls Tryd.prog 11 #[.int .i32 r, .int .i64 1, .int .u8 q] w fun e w' => e = .returned (.string (spT r 1 q)) ∧ Below w.heap.size w w' := by
  have hi := (isRune_iff r).1 hr
  have kd := fun w' => digits_any r 16 8 w' (.inr rfl) (by omega) hi.1 (by omega)
  have eT : spT r 1 q = ⟨#[92, 85]⟩ ++ strOfNums (dgs 16 8 r) := by
    unfold spT sp
    rw [if_pos rfl]
    simp only [List.flatMap_cons, List.flatMap_nil, List.append_nil]
    exact nums2 92 85 _
  rw [eT]
  have hDs : (strOfNums (dgs 16 8 r)).size ≤ 8 := by rw [nums_size, dgs_len]; omega
  have hDi : ((strOfNums (dgs 16 8 r)).size : Int) ≤ 8 := by omega
  generalize strOfNums (dgs 16 8 r) = D at *
  have h0 := hi.1
  have h1 := hi.2.1
  clear hi hr eT
  go_enter Tryd.func11, Tryd.ntmps11
  go_wp2_with (go_at_call 35; go_fit (kd _); rintro e w1 ⟨rfl, hb1⟩)
  go_ret
  exact ⟨rfl, hb1⟩

set_option maxHeartbeats 2000000 in
set_option maxRecDepth 100000 in
theorem spelled_2 (r q : Int) (w : World) (hr : isRune r = true) (hlo : r < 65536) :
    Calls Tryd.prog 11 #[.int .i32 r, .int .i64 2, .int .u8 q] w fun e w' => e = .returned (.string (spT r 2 q)) ∧ Below w.heap.size w w' := by
  have hi := (isRune_iff r).1 hr
  have kd := fun w' => digits_any r 16 4 w' (.inr rfl) (by omega) hi.1 (by omega)
  have eT : spT r 2 q = ⟨#[92, 117]⟩ ++ strOfNums (dgs 16 4 r) := by
    unfold spT sp
    rw [if_neg (by decide), if_pos rfl, if_pos hlo]
    simp only [List.flatMap_cons, List.flatMap_nil, List.append_nil]
    exact nums2 92 117 _
  rw [eT]
  have hDs : (strOfNums (dgs 16 4 r)).size ≤ 8 := by rw [nums_size, dgs_len]; omega
  have hDi : ((strOfNums (dgs 16 4 r)).size : Int) ≤ 8 := by omega
  generalize strOfNums (dgs 16 4 r) = D at *
  have h0 := hi.1
  have h1 := hi.2.1
  clear hi hr eT
  go_enter Tryd.func11, Tryd.ntmps11
  go_wp2_with (go_at_call 35; go_fit (kd _); rintro e w1 ⟨rfl, hb1⟩)
  go_ret
  exact ⟨rfl, hb1⟩

theorem spBT_esc (r q : Int) (h : r = 10 ∨ r = 92 ∨ r = q) : spBT r q = ⟨#[92, 120]⟩ ++ strOfNums (dgs 16 2 r) := by
  unfold spBT spB
  rw [if_pos h]
  simp only [List.flatMap_cons, List.flatMap_nil, List.append_nil]
  exact nums2 92 120 _
theorem spBT_bare (r q : Int) (hr : isRune r = true) (h : ¬ (r = 10 ∨ r = 92 ∨ r = q)) : spBT r q = runesBytes [r] := by
  unfold spBT spB
  rw [if_neg h]
  simp only [List.flatMap_cons, List.flatMap_nil, List.append_nil]
  exact (rb_one r hr).symm

set_option maxHeartbeats 4000000 in
set_option maxRecDepth 100000 in
theorem spelled_0 (r how q : Int) (w : World) (hr : isRune r = true) (hq0 : 0 ≤ q) (hq1 : q ≤ 255) (h1 : how ≠ 1) (h2 : how ≠ 2) (h3 : how ≠ 3) (h4 : how ≠ 4) (h5 : how ≠ 5) :
    Calls Tryd.prog 11 #[.int .i32 r, .int .i64 how, .int .u8 q] w fun e w' => e = .returned (.string (spBT r q)) ∧ Below w.heap.size w w' := by
  have hi := (isRune_iff r).1 hr
  have e1 : (how == 1) = false := by rw [beq_eq_false_iff_ne]; exact h1
  have e2 : (how == 2) = false := by rw [beq_eq_false_iff_ne]; exact h2
  have e3 : (how == 3) = false := by rw [beq_eq_false_iff_ne]; exact h3
  have e4 : (how == 4) = false := by rw [beq_eq_false_iff_ne]; exact h4
  have e5 : (how == 5) = false := by rw [beq_eq_false_iff_ne]; exact h5
  clear h1 h2 h3 h4 h5
  by_cases h : r = 10 ∨ r = 92 ∨ r = q
  · rw [spBT_esc r q h]
    have kd := fun w' => digits_any r 16 2 w' (.inr rfl) (by omega) hi.1 (by omega)
    by_cases h10 : r = 10
    · subst h10
      have hDs : (strOfNums (dgs 16 2 10)).size ≤ 8 := by rw [nums_size, dgs_len]; omega
      have hDi : ((strOfNums (dgs 16 2 10)).size : Int) ≤ 8 := by omega
      generalize strOfNums (dgs 16 2 10) = D at *
      clear hi hr h
      go_enter Tryd.func11, Tryd.ntmps11
      go_wp2_with (go_at_call 35; go_fit (kd _); rintro e w1 ⟨rfl, hb1⟩)
      go_ret
      exact ⟨rfl, hb1⟩
    · by_cases h92 : r = 92
      · subst h92
        have hDs : (strOfNums (dgs 16 2 92)).size ≤ 8 := by rw [nums_size, dgs_len]; omega
        have hDi : ((strOfNums (dgs 16 2 92)).size : Int) ≤ 8 := by omega
        generalize strOfNums (dgs 16 2 92) = D at *
        clear hi hr h h10
        go_enter Tryd.func11, Tryd.ntmps11
        go_wp2_with (go_at_call 35; go_fit (kd _); rintro e w1 ⟨rfl, hb1⟩)
        go_ret
        exact ⟨rfl, hb1⟩
      · obtain rfl : r = q := by omega
        have b10 : (r == 10) = false := by rw [beq_eq_false_iff_ne]; exact h10
        have b92 : (r == 92) = false := by rw [beq_eq_false_iff_ne]; exact h92
        have hDs : (strOfNums (dgs 16 2 r)).size ≤ 8 := by rw [nums_size, dgs_len]; omega
        have hDi : ((strOfNums (dgs 16 2 r)).size : Int) ≤ 8 := by omega
        generalize strOfNums (dgs 16 2 r) = D at *
        clear hi hr h h10 h92
        go_enter Tryd.func11, Tryd.ntmps11
        go_wp2_with (go_at_call 35; go_fit (kd _); rintro e w1 ⟨rfl, hb1⟩)
        go_ret
        exact ⟨rfl, hb1⟩
  · rw [spBT_bare r q hr h]
    have hcv := fun w' => conv_one r w'
    have b10 : (r == 10) = false := by rw [beq_eq_false_iff_ne]; omega
    have b92 : (r == 92) = false := by rw [beq_eq_false_iff_ne]; omega
    have bq : (r == q) = false := by rw [beq_eq_false_iff_ne]; omega
    generalize runesBytes [r] = S at *
    have h0 := hi.1
    have h1 := hi.2.1
    clear hi hr h
    go_enter Tryd.func11, Tryd.ntmps11
    go_wp2
    go_ret
    exact ⟨rfl, (Below.refl _ w).alloc (Nat.le_refl _) _⟩
end Go.Proofs.YtdnbkgbgpfmipabDoor
