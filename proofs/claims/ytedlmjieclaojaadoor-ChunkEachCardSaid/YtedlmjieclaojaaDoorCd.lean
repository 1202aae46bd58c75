/- A stream is written: putWay; the scales. -/
import Derived.Test.YtedlmjieclaojaaDoorCc
import Derived.Lib.QuietBelow
namespace Go.Proofs.YtedlmjieclaojaaDoor
open Go.RowKit

/-- What a piece of writing does. -/
def Pp (S B : Nat) (v : Value) (L X : List Int) (w : World) (e : Ending) (w' : World) : Prop := e = .returned (.tuple #[]) ∧ ∃ v', Stm S w' B v' (L ++ X) ∧ Sub w v v' ∧ Kp (Mv B v) w w' ∧ Rst B w w'
theorem nb_one : nb 1 1 = [1] := by decide
theorem nb_nil : nb 0 1 = [0] := by decide

set_option maxHeartbeats 2000000 in
set_option maxRecDepth 100000 in
theorem putWay_any (S B : Nat) (v : Value) (L : List Int) (k last : Nat) (w : World) (h : Stm S w B v L) (hk : k ≤ 4) (hl : last ≤ 4) (hL : L.length + 8 ≤ 1000000000) :
    Calls Tryd.prog 33 #[.pointer (some ⟨B, 0, none⟩), .int .i64 (k : Nat), .int .i64 (last : Nat)] w (Pp S B v L (wy k last) w) := by
  have H0 : Hid (Stm S w B v L) := h
  clear h
  go_enter Tryd.func33, Tryd.ntmps33
  go_wp2_with fail
  go_loopw [7] (fun iv w' => ∃ i : Nat, i ≤ k ∧ iv = .int .i64 (i : Nat) ∧ Hid (∃ v', Stm S w' B v' (L ++ List.replicate i 1) ∧ Sub w v v' ∧ Kp (Mv B v) w w' ∧ Rst B w w')) (fun iv _ => k - (RowKit.intOf iv).toNat)
  case atStart => exact ⟨0, Nat.zero_le _, rfl, v, by rw [List.replicate_zero, List.append_nil]; exact H0.out, Sub.refl _ _, Kp.refl _ _, Rst.refl _ _⟩
  case round =>
    obtain ⟨i, hi, rfl, hh⟩ := hrel
    obtain ⟨v1, hS1, hsub, hkp, hrs⟩ := hh.out
    clear hh
    by_cases hlt : i < k
    · have hii : (i : Int) < (k : Int) := by omega
      have c := put_any S B v1 _ 1 1 wr hS1 (by decide) (by decide) (by rw [List.length_append, List.length_replicate]; omega)
      go_wp2_with fail
      go_fit c
      rintro e w1 ⟨rfl, v2, hS2, hsub2, hkp2, hrs2⟩
      have HR : Hid (∃ v', Stm S w1 B v' (L ++ List.replicate (i + 1) 1) ∧ Sub w v v' ∧ Kp (Mv B v) w w1 ∧ Rst B w w1) := ⟨v2, by rw [nb_one, List.append_assoc] at hS2; rw [List.replicate_succ']; exact hS2, hsub.trans hsub2 hkp.size, hkp.next hsub hkp2, hrs.trans hrs2⟩
      clear c hS1 hS2 hsub hsub2 hkp hkp2 hrs hrs2
      go_wp2
      exact ⟨⟨i + 1, by omega, by go_num, HR⟩, by simp [RowKit.intOf]; omega⟩
    · have hii : ¬ (i : Int) < (k : Int) := by omega
      have HR : Hid (∃ v', Stm S wr B v' (L ++ List.replicate k 1) ∧ Sub w v v' ∧ Kp (Mv B v) w wr ∧ Rst B w wr) := by
        have e : i = k := by omega
        rw [← e]
        exact ⟨v1, hS1, hsub, hkp, hrs⟩
      clear hS1 hsub hkp hrs
      obtain ⟨v1, hS1, hsub, hkp, hrs⟩ := HR.out
      by_cases hkl : k < last
      · have hkl' : (k : Int) < (last : Int) := by omega
        have HW : Hid (wy k last = List.replicate k 1 ++ [0]) := by
          show _ = _
          unfold wy
          rw [if_pos hkl]
        have c := put_any S B v1 _ 0 1 wr hS1 (by decide) (by decide) (by rw [List.length_append, List.length_replicate]; omega)
        clear hkl
        go_wp2_with fail
        go_fit c
        rintro e w1 ⟨rfl, v2, hS2, hsub2, hkp2, hrs2⟩
        have HR2 : Hid (Pp S B v L (wy k last) w (.returned (.tuple #[])) w1) := ⟨rfl, v2, by rw [HW.out, ← List.append_assoc, ← nb_nil]; exact hS2, hsub.trans hsub2 hkp.size, hkp.next hsub hkp2, hrs.trans hrs2⟩
        clear c hS1 hS2 hsub hsub2 hkp hkp2 hrs hrs2 HR
        go_wp2
        go_end0
        exact HR2.out
      · have hkl' : ¬ (k : Int) < (last : Int) := by omega
        have HR2 : Hid (Pp S B v L (wy k last) w (.returned (.tuple #[])) wr) := ⟨rfl, v1, by unfold wy; rw [if_neg hkl, List.append_nil]; exact hS1, hsub, hkp, hrs⟩
        clear hS1 hsub hkp hrs HR hkl
        go_wp2
        go_end0
        exact HR2.out

/-- The table of scales lies in this world. -/
def Scl (w : World) : Prop := 1 < w.heap.size ∧ ∀ i, i < 5 → w.cell? ⟨1, i * 2, none⟩ = some (.int .i64 (scL i)) ∧ w.cell? ⟨1, i * 2 + 1, none⟩ = some (.int .i64 (scW i : Nat))
theorem Scl.kp {M : Nat → Prop} {w w' : World} (h : Scl w) (k : Kp M w w') (hm : ¬ M 1) : Scl w' :=
  ⟨Nat.lt_of_lt_of_le h.1 k.size, fun i hi => ⟨k.cell (h.2 i hi).1 hm, k.cell (h.2 i hi).2 hm⟩⟩
theorem Scl.below {w w' : World} (h : Scl w) (b : Below w.heap.size w w') : Scl w' := h.kp (M := fun _ => False) (Kp.of b) id
abbrev scV (k : Nat) : Value := .agg #[.int .i64 (scL k), .int .i64 (scW k : Nat)]

theorem u64_w64 (x : Int) : IntKind.u64.wrap x = (w64 x : Nat) := by rw [IntKind.wrap_u64, w64_cast]
theorem i64_s64 (x : Int) : IntKind.i64.wrap x = s64 x := IntKind.wrap_i64 x
theorem w64_s64 (x : Int) : w64 (s64 x) = w64 x := by unfold w64 s64; omega

theorem wrap_s64 (x : Int) : wrap64 x = s64 x := by unfold wrap64 s64; rfl
set_option maxHeartbeats 1000000 in
theorem aboveL (l : Int) (n : Nat) (e : Int) (w : World) : Calls Tryd.prog 54 #[.agg #[.int .i64 l, .int .i64 (n : Nat)], .int .i64 e] w fun r w' => r = .returned (.int .u64 (w64 (e - l) : Nat)) ∧ Below w.heap.size w w' := by
  go_enter Tryd.func54, Tryd.ntmps54
  go_wp2
  go_ret
  refine ⟨?_, (Below.refl _ _).alloc (Nat.le_refl _) _⟩
  show Ending.returned (.int .u64 (IntKind.u64.wrap (wrap64 (e - l)))) = _
  rw [wrap_s64, u64_w64, w64_s64]
theorem shr_zero (a n : Nat) : ((a : Int) / 2 ^ n == 0) = decide (a < 2 ^ n) := by
  rw [Bool.eq_iff_iff, decide_eq_true_iff, beq_iff_eq]
  have h : ((a : Nat) : Int) / 2 ^ n = ((a / 2 ^ n : Nat) : Int) := by simp
  rw [h, Int.natCast_eq_zero, Nat.div_eq_zero_iff]
  have := Nat.pow_pos (n := n) (show 0 < 2 by decide)
  omega
set_option maxHeartbeats 1000000 in
theorem reachL (l : Int) (n : Nat) (hn : n ≤ 64) (e : Int) (w : World) : Calls Tryd.prog 53 #[.agg #[.int .i64 l, .int .i64 (n : Nat)], .int .i64 e] w fun r w' => r = .returned (.bool (decide (w64 (e - l) < 2 ^ n))) ∧ Below w.heap.size w w' := by
  have ka := fun W => aboveL l n e W
  have hab : (w64 (e - l) : Int) ≤ 18446744073709551615 := by have := w64_lt (e - l); omega
  have hab0 : (0 : Int) ≤ (w64 (e - l) : Int) := by omega
  have H1 : Hid (_ = _) := shr_zero (w64 (e - l)) n
  obtain ⟨A, hA⟩ : ∃ A : Int, A = (w64 (e - l) : Nat) := ⟨_, rfl⟩
  rw [← hA] at hab hab0 H1
  simp only [← hA] at ka
  clear hA
  go_enter Tryd.func53, Tryd.ntmps53
  go_wp2_with fail
  have c0 : (w.alloc (.cells #[.int .i64 l, .int .i64 (n : Nat)] 98)).cell? ⟨w.heap.size, 0, none⟩ = some (.int .i64 l) := by simp
  have c1 : (w.alloc (.cells #[.int .i64 l, .int .i64 (n : Nat)] 98)).cell? ⟨w.heap.size, 1, none⟩ = some (.int .i64 (n : Nat)) := by simp
  have HB : Hid (Below w.heap.size w (w.alloc (.cells #[.int .i64 l, .int .i64 (n : Nat)] 98))) := (Below.refl _ _).alloc (Nat.le_refl _) _
  generalize w.alloc (.cells #[.int .i64 l, .int .i64 (n : Nat)] 98) = W at *
  have cO := fun d os => Calls.regrown_of (ka (Go.Sort.grow (redrawn W d) os))
  have e0 := fun d os => cell_regrown c0 d os
  have e1 := fun d os => cell_regrown c1 d os
  refine wp_region_quiet_below (by kernel_rfl) (by kernel_rfl) ?_
  repeat (first | quiet_step (fail) | quiet_step (exact cO _ _))
  refine wpQuiet_nil ?_
  intro _ hw'
  obtain ⟨⟨dq, osq⟩, hw''⟩ := hw'
  subst hw''
  have HB2 : Hid (Below w.heap.size w (Go.Sort.grow (redrawn W dq) osq)) := HB.out.trans ((below_regrown W dq osq).mono HB.out.size)
  clear e0 e1 cO ka c0 c1 HB
  generalize Go.Sort.grow (redrawn W dq) osq = W2 at *
  go_wp2
  go_ret
  refine ⟨?_, HB2.out⟩
  rw [← H1.out]
  rfl
theorem above_any (k : Nat) (e : Int) (w : World) : Calls Tryd.prog 54 #[scV k, .int .i64 e] w fun r w' => r = .returned (.int .u64 (abv k e : Nat)) ∧ Below w.heap.size w w' := aboveL (scL k) (scW k) e w
theorem reaches_any (k : Nat) (e : Int) (w : World) : Calls Tryd.prog 53 #[scV k, .int .i64 e] w fun r w' => r = .returned (.bool (rch k e)) ∧ Below w.heap.size w w' := reachL (scL k) (scW k) (scW_le k) e w
end Go.Proofs.YtedlmjieclaojaaDoor
