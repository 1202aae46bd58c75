/- The walk of Text. -/
import Derived.Test.YtmfeckpcnofkhabDoorShh
import Derived.Test.YtmfeckpcnofkhabDoorSeA
import Derived.Test.YtmfeckpcnofkhabDoorUnits
import Derived.Test.YtmfeckpcnofkhabDoorCivA
import Derived.Lib.QuietBelow
import Derived.BigQuiet
namespace Go.Proofs.YtmfeckpcnofkhabDoor
open Go.RowKit Go.Lib

/-- The table as a value. -/
abbrev uAgg : Value := .agg #[.string ⟨#[121]⟩, .int .i64 31536000000, .string ⟨#[119]⟩, .int .i64 604800000, .string ⟨#[100]⟩, .int .i64 86400000, .string ⟨#[104]⟩, .int .i64 3600000, .string ⟨#[109]⟩, .int .i64 60000, .string ⟨#[115]⟩, .int .i64 1000, .string ⟨#[109, 115]⟩, .int .i64 1]
theorem ix0 (W : World) : (Instr.index 39 uAgg (.int .i64 0)).run Tryd.prog W = .ok (.agg #[.string ⟨#[121]⟩, .int .i64 31536000000]) W := by
  simp [Instr.index, run_underlying Tryd.underlying39, asIntOf, part, go_sem]
theorem ix1 (W : World) : (Instr.index 39 uAgg (.int .i64 1)).run Tryd.prog W = .ok (.agg #[.string ⟨#[119]⟩, .int .i64 604800000]) W := by
  simp [Instr.index, run_underlying Tryd.underlying39, asIntOf, part, go_sem]
theorem ix2 (W : World) : (Instr.index 39 uAgg (.int .i64 2)).run Tryd.prog W = .ok (.agg #[.string ⟨#[100]⟩, .int .i64 86400000]) W := by
  simp [Instr.index, run_underlying Tryd.underlying39, asIntOf, part, go_sem]
theorem ix3 (W : World) : (Instr.index 39 uAgg (.int .i64 3)).run Tryd.prog W = .ok (.agg #[.string ⟨#[104]⟩, .int .i64 3600000]) W := by
  simp [Instr.index, run_underlying Tryd.underlying39, asIntOf, part, go_sem]
theorem ix4 (W : World) : (Instr.index 39 uAgg (.int .i64 4)).run Tryd.prog W = .ok (.agg #[.string ⟨#[109]⟩, .int .i64 60000]) W := by
  simp [Instr.index, run_underlying Tryd.underlying39, asIntOf, part, go_sem]
theorem ix5 (W : World) : (Instr.index 39 uAgg (.int .i64 5)).run Tryd.prog W = .ok (.agg #[.string ⟨#[115]⟩, .int .i64 1000]) W := by
  simp [Instr.index, run_underlying Tryd.underlying39, asIntOf, part, go_sem]
theorem ix6 (W : World) : (Instr.index 39 uAgg (.int .i64 6)).run Tryd.prog W = .ok (.agg #[.string ⟨#[109, 115]⟩, .int .i64 1]) W := by
  simp [Instr.index, run_underlying Tryd.underlying39, asIntOf, part, go_sem]
/-- A unit's name and length. -/
def uL : Nat → List UInt8
  | 0 => [121] | 1 => [119] | 2 => [100] | 3 => [104] | 4 => [109] | 5 => [115] | _ => [109, 115]
def uN : Nat → Nat
  | 0 => 31536000000 | 1 => 604800000 | 2 => 86400000 | 3 => 3600000 | 4 => 60000 | 5 => 1000 | _ => 1
theorem dd_len0 (u : Nat) (h : u < 18446744073709551616) : (decDigits u).length ≤ 20 := by
  rw [decDigits_length]
  by_cases h0 : u = 0
  · subst h0
    rw [nDigits, dif_pos (by omega)]
    omega
  · have := numDigits_eq u (by omega) h
    split at this <;> omega
/-- What is left behind the first units, and the text of these. -/
def rm (ms : Nat) : Nat → Nat
  | 0 => ms
  | k + 1 => rm ms k % uN k
def tx (ms : Nat) : Nat → List UInt8
  | 0 => []
  | k + 1 => tx ms k ++ (if 0 < rm ms k / uN k then decDigits (rm ms k / uN k) ++ uL k else [])
theorem rm_le (ms : Nat) : ∀ k, rm ms k ≤ ms
  | 0 => Nat.le_refl _
  | k + 1 => Nat.le_trans (Nat.mod_le _ _) (rm_le ms k)
theorem tx_len (ms : Nat) (h : ms ≤ 315360000000000) : ∀ k, (tx ms k).length ≤ 22 * k
  | 0 => by simp [tx]
  | k + 1 => by
    have ih := tx_len ms h k
    have hr := rm_le ms k
    have hu : (uL k).length ≤ 2 := by unfold uL; split <;> simp
    have hd := dd_len0 (rm ms k / uN k) (Nat.lt_of_le_of_lt (Nat.div_le_self _ _) (by omega))
    rw [tx, List.length_append]
    split
    · rw [List.length_append]; omega
    · simp; omega

theorem fi_any (n : Nat) (w : World) (hT : Tab w) (hn : n ≤ 315360000000000) : Calls Tryd.prog 20 #[.int .i64 n, .int .i64 10] w fun e w' => e = .returned (.string (mk (decDigits n))) ∧ Below w.heap.size w w' := by
  have k := Tryd.strconv_FormatInt_10 (n : Int) (by omega) (by omega) w hT
  rw [itoa_nat] at k
  exact k.mono fun e w' ⟨he, j, os, hw⟩ => ⟨he, hw ▸ below_grown w j os⟩

set_option maxHeartbeats 1000000 in
theorem text_arg (ms : Int) (w : World) (h : ms < 0 ∨ 315360000000000 < ms) : Calls Tryd.prog 7 #[.int .i64 ms] w fun e w' => e = .returned (.tuple #[.string ⟨#[]⟩, .int .i64 2]) ∧ Below w.heap.size w w' := by
  by_cases c : ms < 0
  · clear h
    go_enter Tryd.func7, Tryd.ntmps7
    go_wp2
    go_ret2
    exact ⟨rfl, Below.refl _ _⟩
  · have c2 : 315360000000000 < ms := by omega
    clear h
    go_enter Tryd.func7, Tryd.ntmps7
    go_wp2
    go_ret2
    exact ⟨rfl, Below.refl _ _⟩
set_option maxHeartbeats 1000000 in
theorem text_zero (w : World) : Calls Tryd.prog 7 #[.int .i64 0] w fun e w' => e = .returned (.tuple #[.string ⟨#[48, 115]⟩, .int .i64 0]) ∧ Below w.heap.size w w' := by
  go_enter Tryd.func7, Tryd.ntmps7
  go_wp2
  go_ret2
  exact ⟨rfl, Below.refl _ _⟩

set_option maxHeartbeats 8000000 in
set_option maxRecDepth 100000 in
theorem text_any (ms : Nat) (h0 : 0 < ms) (h1 : ms ≤ 315360000000000) (w : World) (hU : Units w) (hT : Tab w) : Calls Tryd.prog 7 #[.int .i64 ms] w fun e w' => e = .returned (.tuple #[.string (mk (tx ms 7)), .int .i64 0]) ∧ Below w.heap.size w w' := by
  have u0 : w.cell? ⟨0, 0, none⟩ = some (.string ⟨#[121]⟩) := (hU.2 0 (by omega)).1
  have l0 : w.cell? ⟨0, 1, none⟩ = some (.int .i64 31536000000) := (hU.2 0 (by omega)).2
  have u1 : w.cell? ⟨0, 2, none⟩ = some (.string ⟨#[119]⟩) := (hU.2 1 (by omega)).1
  have l1 : w.cell? ⟨0, 3, none⟩ = some (.int .i64 604800000) := (hU.2 1 (by omega)).2
  have u2 : w.cell? ⟨0, 4, none⟩ = some (.string ⟨#[100]⟩) := (hU.2 2 (by omega)).1
  have l2 : w.cell? ⟨0, 5, none⟩ = some (.int .i64 86400000) := (hU.2 2 (by omega)).2
  have u3 : w.cell? ⟨0, 6, none⟩ = some (.string ⟨#[104]⟩) := (hU.2 3 (by omega)).1
  have l3 : w.cell? ⟨0, 7, none⟩ = some (.int .i64 3600000) := (hU.2 3 (by omega)).2
  have u4 : w.cell? ⟨0, 8, none⟩ = some (.string ⟨#[109]⟩) := (hU.2 4 (by omega)).1
  have l4 : w.cell? ⟨0, 9, none⟩ = some (.int .i64 60000) := (hU.2 4 (by omega)).2
  have u5 : w.cell? ⟨0, 10, none⟩ = some (.string ⟨#[115]⟩) := (hU.2 5 (by omega)).1
  have l5 : w.cell? ⟨0, 11, none⟩ = some (.int .i64 1000) := (hU.2 5 (by omega)).2
  have u6 : w.cell? ⟨0, 12, none⟩ = some (.string ⟨#[109, 115]⟩) := (hU.2 6 (by omega)).1
  have l6 : w.cell? ⟨0, 13, none⟩ = some (.int .i64 1) := (hU.2 6 (by omega)).2
  have HT : Hid (Tab w) := hT
  have HR : Hid (∀ k, rm ms k ≤ 315360000000000) := fun k => Nat.le_trans (rm_le ms k) h1
  have HR1 : Hid (∀ k, rm ms (k + 1) = rm ms k % uN k) := fun _ => rfl
  have HL : Hid (∀ k, (tx ms k).length ≤ 22 * k) := tx_len ms h1
  have HX : Hid (∀ k, tx ms (k + 1) = tx ms k ++ (if 0 < rm ms k / uN k then decDigits (rm ms k / uN k) ++ uL k else [])) := fun _ => rfl
  have HR0 : Hid (rm ms 0 = ms) := rfl
  have HX0 : Hid (tx ms 0 = []) := rfl
  have m0 : ¬ (ms : Int) < 0 := by omega
  have m1 : ¬ (315360000000000 : Int) < ms := by omega
  have m2 : ((ms : Int) == 0) = false := by rw [beq_eq_false_iff_ne]; omega
  clear hU hT h0 h1
  generalize rm ms = R at *
  generalize tx ms = X at *
  go_enter Tryd.func7, Tryd.ntmps7
  go_wp2_with fail
  go_loopw [0, 4, 19] (fun m b t W => ∃ j : Nat, t = .int .i64 (j : Int) ∧ m = .int .i64 (R j : Int) ∧ b = .string (mk (X j)) ∧ j ≤ 7 ∧ Below w.heap.size w W) (fun _ _ t _ => 7 - (RowKit.intOf t).toNat)
  case atStart => exact ⟨0, rfl, by rw [HR0.out], by rw [HX0.out], by omega, Below.refl _ _⟩
  case round =>
    obtain ⟨j, rfl, rfl, rfl, hj, hbw⟩ := hrel
    by_cases hlt : j < 7
    · have hji : (j : Int) < 7 := by omega
      have hc : j = 0 ∨ j = 1 ∨ j = 2 ∨ j = 3 ∨ j = 4 ∨ j = 5 ∨ j = 6 := by omega
      clear hlt hj hji
      rcases hc with rfl | rfl | rfl | rfl | rfl | rfl | rfl
      · have hix := ix0
        have hR := HR.out 0
        have hR1 : R 1 = R 0 % 31536000000 := HR1.out 0
        have hL := HL.out 0
        have hX : X 1 = X 0 ++ (if 0 < R 0 / 31536000000 then decDigits (R 0 / 31536000000) ++ [121] else []) := HX.out 0
        obtain ⟨q, hq⟩ : ∃ q : Nat, q = R 0 / 31536000000 := ⟨_, rfl⟩
        rw [← hq] at hX
        have kF := fun w' hb => fi_any q w' (HT.out.below hb) (by omega)
        have HKF : Hid (∀ w', Below w.heap.size w w' → Calls Tryd.prog 20 #[.int .i64 q, .int .i64 10] w' fun e w'' => e = .returned (.string (mk (decDigits q))) ∧ Below w'.heap.size w' w'') := kF
        have e1 : (R 0 : Int).tdiv 31536000000 = (q : Int) := by rw [Int.tdiv_eq_ediv_of_nonneg (by omega)]; omega
        have e2 : (R 0 : Int).tmod 31536000000 = (R 1 : Int) := by rw [Int.tmod_eq_emod_of_nonneg (by omega)]; omega
        have wq : IntKind.i64.wrap (q : Int) = (q : Int) := wrI _ (by omega) (by omega)
        have hdz := dd_len0 q (by omega)
        have zD : (mk (decDigits q)).size ≤ 20 := by rw [mk_size]; exact hdz
        have zX : (mk (X 0)).size ≤ 200 := by rw [mk_size]; omega
        have b2 : Below w.heap.size w (wr.alloc (.cells #[.string ⟨#[121]⟩, .int .i64 31536000000] 38)) := hbw.alloc hbw.size _
        by_cases hp : 0 < q
        · rw [if_pos hp] at hX
          have hpi : (0 : Int) < (q : Int) := by omega
          obtain ⟨x1, hx1⟩ : ∃ x1, x1 = mk (decDigits q) ++ ⟨#[121]⟩ := ⟨_, rfl⟩
          have zN : (⟨#[121]⟩ : ByteArray).size ≤ 2 := by decide
          have z1 : x1.size ≤ 30 := by rw [hx1, ByteArray.size_append]; omega
          have f1 : ∀ w, (Op.stringOp .add (mk (decDigits q)) ⟨#[121]⟩).run Tryd.prog w = .ok (.string x1) w := fun w => by rw [hx1]; exact run_string_add w _ _ (by omega) (by omega)
          have ex : mk (X 0) ++ (mk (decDigits q) ++ ⟨#[121]⟩) = mk (X 1) := by
            rw [hX]
            apply Go.WideShapes.bytes_inj
            simp
          have f2 : ∀ w, (Op.stringOp .add (mk (X 0)) x1).run Tryd.prog w = .ok (.string (mk (X 1))) w := fun w => by
            rw [run_string_add w _ _ (by omega) (by omega), hx1, ex]
          obtain ⟨T', hT'⟩ : ∃ T', T' = mk (X 1) := ⟨_, rfl⟩
          rw [← hT'] at f2
          have HT' : Hid (T' = mk (X 1)) := hT'
          obtain ⟨A', hA'⟩ : ∃ A' : Int, A' = (R 1 : Int) := ⟨_, rfl⟩
          rw [← hA'] at e2
          have HA' : Hid (A' = (R 1 : Int)) := hA'
          clear hT' hA'
          generalize mk (X 0) = T at *
          generalize mk (decDigits q) = D at *
          generalize (R 0 : Int) = A at *
          generalize (q : Int) = Q at *
          clear hR hR1 hL hX hq kF hdz zD zX hx1 zN z1 hp ex
          go_upto_region 11 with fail
          have c0 := fun d os => Calls.regrown_of (HKF.out (Go.Sort.grow (redrawn (wr.alloc (.cells #[.string ⟨#[121]⟩, .int .i64 31536000000] 38)) d) os) (b2.trans ((below_regrown _ d os).mono b2.size)))
          have s0 : (wr.alloc (.cells #[.string ⟨#[121]⟩, .int .i64 31536000000] 38)).cell? ⟨wr.heap.size, 0, none⟩ = some (.string ⟨#[121]⟩) := by rw [cell_of_row _ _ 0 _ 38 (0, 0) (heap_alloc_new wr _)]; rfl
          have s1 : (wr.alloc (.cells #[.string ⟨#[121]⟩, .int .i64 31536000000] 38)).cell? ⟨wr.heap.size, 1, none⟩ = some (.int .i64 31536000000) := by rw [cell_of_row _ _ 1 _ 38 (0, 0) (heap_alloc_new wr _)]; rfl
          have r0 := cell_regrown s0
          have HS1 : Hid ((wr.alloc (.cells #[.string ⟨#[121]⟩, .int .i64 31536000000] 38)).cell? ⟨wr.heap.size, 1, none⟩ = some (.int .i64 31536000000)) := s1
          generalize wr.alloc (.cells #[.string ⟨#[121]⟩, .int .i64 31536000000] 38) = W at *
          clear s0 s1
          refine wp_region_quiet_below (by kernel_rfl) (by kernel_rfl) ?_
          iterate 2 (quiet_step (fail))
          quiet_step (exact c0 _ _)
          iterate 5 (quiet_step (fail))
          refine wpQuiet_nil ?_
          intro _ hw'
          obtain ⟨⟨dq, osq⟩, hw''⟩ := hw'
          subst hw''
          have hb7 := below_regrown W dq osq
          have s1 := (hb7.cell (block_lt_of_cell HS1.out)).trans HS1.out
          have HB7 : Hid (Below w.heap.size w (Go.Sort.grow (redrawn W dq) osq)) := b2.trans (hb7.mono b2.size)
          clear c0 r0 hb7
          generalize Go.Sort.grow (redrawn W dq) osq = w7 at *
          go_wp2
          exact ⟨⟨1, rfl, by rw [HA'.out], by rw [HT'.out], by omega, HB7.out⟩, by simp [RowKit.intOf]⟩
        · rw [if_neg hp, List.append_nil] at hX
          have hpi : ¬ (0 : Int) < (q : Int) := by omega
          rw [← hX]
          obtain ⟨A', hA'⟩ : ∃ A' : Int, A' = (R 1 : Int) := ⟨_, rfl⟩
          rw [← hA'] at e2
          have HA' : Hid (A' = (R 1 : Int)) := hA'
          clear hA'
          generalize (R 0 : Int) = A at *
          generalize (q : Int) = Q at *
          clear hR hR1 hL hq kF hdz zD zX hp HKF
          go_wp2
          exact ⟨⟨1, rfl, by rw [HA'.out], rfl, by omega, b2⟩, by simp [RowKit.intOf]⟩
      · have hix := ix1
        have hR := HR.out 1
        have hR1 : R 2 = R 1 % 604800000 := HR1.out 1
        have hL := HL.out 1
        have hX : X 2 = X 1 ++ (if 0 < R 1 / 604800000 then decDigits (R 1 / 604800000) ++ [119] else []) := HX.out 1
        obtain ⟨q, hq⟩ : ∃ q : Nat, q = R 1 / 604800000 := ⟨_, rfl⟩
        rw [← hq] at hX
        have kF := fun w' hb => fi_any q w' (HT.out.below hb) (by omega)
        have HKF : Hid (∀ w', Below w.heap.size w w' → Calls Tryd.prog 20 #[.int .i64 q, .int .i64 10] w' fun e w'' => e = .returned (.string (mk (decDigits q))) ∧ Below w'.heap.size w' w'') := kF
        have e1 : (R 1 : Int).tdiv 604800000 = (q : Int) := by rw [Int.tdiv_eq_ediv_of_nonneg (by omega)]; omega
        have e2 : (R 1 : Int).tmod 604800000 = (R 2 : Int) := by rw [Int.tmod_eq_emod_of_nonneg (by omega)]; omega
        have wq : IntKind.i64.wrap (q : Int) = (q : Int) := wrI _ (by omega) (by omega)
        have hdz := dd_len0 q (by omega)
        have zD : (mk (decDigits q)).size ≤ 20 := by rw [mk_size]; exact hdz
        have zX : (mk (X 1)).size ≤ 200 := by rw [mk_size]; omega
        have b2 : Below w.heap.size w (wr.alloc (.cells #[.string ⟨#[119]⟩, .int .i64 604800000] 38)) := hbw.alloc hbw.size _
        by_cases hp : 0 < q
        · rw [if_pos hp] at hX
          have hpi : (0 : Int) < (q : Int) := by omega
          obtain ⟨x1, hx1⟩ : ∃ x1, x1 = mk (decDigits q) ++ ⟨#[119]⟩ := ⟨_, rfl⟩
          have zN : (⟨#[119]⟩ : ByteArray).size ≤ 2 := by decide
          have z1 : x1.size ≤ 30 := by rw [hx1, ByteArray.size_append]; omega
          have f1 : ∀ w, (Op.stringOp .add (mk (decDigits q)) ⟨#[119]⟩).run Tryd.prog w = .ok (.string x1) w := fun w => by rw [hx1]; exact run_string_add w _ _ (by omega) (by omega)
          have ex : mk (X 1) ++ (mk (decDigits q) ++ ⟨#[119]⟩) = mk (X 2) := by
            rw [hX]
            apply Go.WideShapes.bytes_inj
            simp
          have f2 : ∀ w, (Op.stringOp .add (mk (X 1)) x1).run Tryd.prog w = .ok (.string (mk (X 2))) w := fun w => by
            rw [run_string_add w _ _ (by omega) (by omega), hx1, ex]
          obtain ⟨T', hT'⟩ : ∃ T', T' = mk (X 2) := ⟨_, rfl⟩
          rw [← hT'] at f2
          have HT' : Hid (T' = mk (X 2)) := hT'
          obtain ⟨A', hA'⟩ : ∃ A' : Int, A' = (R 2 : Int) := ⟨_, rfl⟩
          rw [← hA'] at e2
          have HA' : Hid (A' = (R 2 : Int)) := hA'
          clear hT' hA'
          generalize mk (X 1) = T at *
          generalize mk (decDigits q) = D at *
          generalize (R 1 : Int) = A at *
          generalize (q : Int) = Q at *
          clear hR hR1 hL hX hq kF hdz zD zX hx1 zN z1 hp ex
          go_upto_region 11 with fail
          have c0 := fun d os => Calls.regrown_of (HKF.out (Go.Sort.grow (redrawn (wr.alloc (.cells #[.string ⟨#[119]⟩, .int .i64 604800000] 38)) d) os) (b2.trans ((below_regrown _ d os).mono b2.size)))
          have s0 : (wr.alloc (.cells #[.string ⟨#[119]⟩, .int .i64 604800000] 38)).cell? ⟨wr.heap.size, 0, none⟩ = some (.string ⟨#[119]⟩) := by rw [cell_of_row _ _ 0 _ 38 (0, 0) (heap_alloc_new wr _)]; rfl
          have s1 : (wr.alloc (.cells #[.string ⟨#[119]⟩, .int .i64 604800000] 38)).cell? ⟨wr.heap.size, 1, none⟩ = some (.int .i64 604800000) := by rw [cell_of_row _ _ 1 _ 38 (0, 0) (heap_alloc_new wr _)]; rfl
          have r0 := cell_regrown s0
          have HS1 : Hid ((wr.alloc (.cells #[.string ⟨#[119]⟩, .int .i64 604800000] 38)).cell? ⟨wr.heap.size, 1, none⟩ = some (.int .i64 604800000)) := s1
          generalize wr.alloc (.cells #[.string ⟨#[119]⟩, .int .i64 604800000] 38) = W at *
          clear s0 s1
          refine wp_region_quiet_below (by kernel_rfl) (by kernel_rfl) ?_
          iterate 2 (quiet_step (fail))
          quiet_step (exact c0 _ _)
          iterate 5 (quiet_step (fail))
          refine wpQuiet_nil ?_
          intro _ hw'
          obtain ⟨⟨dq, osq⟩, hw''⟩ := hw'
          subst hw''
          have hb7 := below_regrown W dq osq
          have s1 := (hb7.cell (block_lt_of_cell HS1.out)).trans HS1.out
          have HB7 : Hid (Below w.heap.size w (Go.Sort.grow (redrawn W dq) osq)) := b2.trans (hb7.mono b2.size)
          clear c0 r0 hb7
          generalize Go.Sort.grow (redrawn W dq) osq = w7 at *
          go_wp2
          exact ⟨⟨2, rfl, by rw [HA'.out], by rw [HT'.out], by omega, HB7.out⟩, by simp [RowKit.intOf]⟩
        · rw [if_neg hp, List.append_nil] at hX
          have hpi : ¬ (0 : Int) < (q : Int) := by omega
          rw [← hX]
          obtain ⟨A', hA'⟩ : ∃ A' : Int, A' = (R 2 : Int) := ⟨_, rfl⟩
          rw [← hA'] at e2
          have HA' : Hid (A' = (R 2 : Int)) := hA'
          clear hA'
          generalize (R 1 : Int) = A at *
          generalize (q : Int) = Q at *
          clear hR hR1 hL hq kF hdz zD zX hp HKF
          go_wp2
          exact ⟨⟨2, rfl, by rw [HA'.out], rfl, by omega, b2⟩, by simp [RowKit.intOf]⟩
      · have hix := ix2
        have hR := HR.out 2
        have hR1 : R 3 = R 2 % 86400000 := HR1.out 2
        have hL := HL.out 2
        have hX : X 3 = X 2 ++ (if 0 < R 2 / 86400000 then decDigits (R 2 / 86400000) ++ [100] else []) := HX.out 2
        obtain ⟨q, hq⟩ : ∃ q : Nat, q = R 2 / 86400000 := ⟨_, rfl⟩
        rw [← hq] at hX
        have kF := fun w' hb => fi_any q w' (HT.out.below hb) (by omega)
        have HKF : Hid (∀ w', Below w.heap.size w w' → Calls Tryd.prog 20 #[.int .i64 q, .int .i64 10] w' fun e w'' => e = .returned (.string (mk (decDigits q))) ∧ Below w'.heap.size w' w'') := kF
        have e1 : (R 2 : Int).tdiv 86400000 = (q : Int) := by rw [Int.tdiv_eq_ediv_of_nonneg (by omega)]; omega
        have e2 : (R 2 : Int).tmod 86400000 = (R 3 : Int) := by rw [Int.tmod_eq_emod_of_nonneg (by omega)]; omega
        have wq : IntKind.i64.wrap (q : Int) = (q : Int) := wrI _ (by omega) (by omega)
        have hdz := dd_len0 q (by omega)
        have zD : (mk (decDigits q)).size ≤ 20 := by rw [mk_size]; exact hdz
        have zX : (mk (X 2)).size ≤ 200 := by rw [mk_size]; omega
        have b2 : Below w.heap.size w (wr.alloc (.cells #[.string ⟨#[100]⟩, .int .i64 86400000] 38)) := hbw.alloc hbw.size _
        by_cases hp : 0 < q
        · rw [if_pos hp] at hX
          have hpi : (0 : Int) < (q : Int) := by omega
          obtain ⟨x1, hx1⟩ : ∃ x1, x1 = mk (decDigits q) ++ ⟨#[100]⟩ := ⟨_, rfl⟩
          have zN : (⟨#[100]⟩ : ByteArray).size ≤ 2 := by decide
          have z1 : x1.size ≤ 30 := by rw [hx1, ByteArray.size_append]; omega
          have f1 : ∀ w, (Op.stringOp .add (mk (decDigits q)) ⟨#[100]⟩).run Tryd.prog w = .ok (.string x1) w := fun w => by rw [hx1]; exact run_string_add w _ _ (by omega) (by omega)
          have ex : mk (X 2) ++ (mk (decDigits q) ++ ⟨#[100]⟩) = mk (X 3) := by
            rw [hX]
            apply Go.WideShapes.bytes_inj
            simp
          have f2 : ∀ w, (Op.stringOp .add (mk (X 2)) x1).run Tryd.prog w = .ok (.string (mk (X 3))) w := fun w => by
            rw [run_string_add w _ _ (by omega) (by omega), hx1, ex]
          obtain ⟨T', hT'⟩ : ∃ T', T' = mk (X 3) := ⟨_, rfl⟩
          rw [← hT'] at f2
          have HT' : Hid (T' = mk (X 3)) := hT'
          obtain ⟨A', hA'⟩ : ∃ A' : Int, A' = (R 3 : Int) := ⟨_, rfl⟩
          rw [← hA'] at e2
          have HA' : Hid (A' = (R 3 : Int)) := hA'
          clear hT' hA'
          generalize mk (X 2) = T at *
          generalize mk (decDigits q) = D at *
          generalize (R 2 : Int) = A at *
          generalize (q : Int) = Q at *
          clear hR hR1 hL hX hq kF hdz zD zX hx1 zN z1 hp ex
          go_upto_region 11 with fail
          have c0 := fun d os => Calls.regrown_of (HKF.out (Go.Sort.grow (redrawn (wr.alloc (.cells #[.string ⟨#[100]⟩, .int .i64 86400000] 38)) d) os) (b2.trans ((below_regrown _ d os).mono b2.size)))
          have s0 : (wr.alloc (.cells #[.string ⟨#[100]⟩, .int .i64 86400000] 38)).cell? ⟨wr.heap.size, 0, none⟩ = some (.string ⟨#[100]⟩) := by rw [cell_of_row _ _ 0 _ 38 (0, 0) (heap_alloc_new wr _)]; rfl
          have s1 : (wr.alloc (.cells #[.string ⟨#[100]⟩, .int .i64 86400000] 38)).cell? ⟨wr.heap.size, 1, none⟩ = some (.int .i64 86400000) := by rw [cell_of_row _ _ 1 _ 38 (0, 0) (heap_alloc_new wr _)]; rfl
          have r0 := cell_regrown s0
          have HS1 : Hid ((wr.alloc (.cells #[.string ⟨#[100]⟩, .int .i64 86400000] 38)).cell? ⟨wr.heap.size, 1, none⟩ = some (.int .i64 86400000)) := s1
          generalize wr.alloc (.cells #[.string ⟨#[100]⟩, .int .i64 86400000] 38) = W at *
          clear s0 s1
          refine wp_region_quiet_below (by kernel_rfl) (by kernel_rfl) ?_
          iterate 2 (quiet_step (fail))
          quiet_step (exact c0 _ _)
          iterate 5 (quiet_step (fail))
          refine wpQuiet_nil ?_
          intro _ hw'
          obtain ⟨⟨dq, osq⟩, hw''⟩ := hw'
          subst hw''
          have hb7 := below_regrown W dq osq
          have s1 := (hb7.cell (block_lt_of_cell HS1.out)).trans HS1.out
          have HB7 : Hid (Below w.heap.size w (Go.Sort.grow (redrawn W dq) osq)) := b2.trans (hb7.mono b2.size)
          clear c0 r0 hb7
          generalize Go.Sort.grow (redrawn W dq) osq = w7 at *
          go_wp2
          exact ⟨⟨3, rfl, by rw [HA'.out], by rw [HT'.out], by omega, HB7.out⟩, by simp [RowKit.intOf]⟩
        · rw [if_neg hp, List.append_nil] at hX
          have hpi : ¬ (0 : Int) < (q : Int) := by omega
          rw [← hX]
          obtain ⟨A', hA'⟩ : ∃ A' : Int, A' = (R 3 : Int) := ⟨_, rfl⟩
          rw [← hA'] at e2
          have HA' : Hid (A' = (R 3 : Int)) := hA'
          clear hA'
          generalize (R 2 : Int) = A at *
          generalize (q : Int) = Q at *
          clear hR hR1 hL hq kF hdz zD zX hp HKF
          go_wp2
          exact ⟨⟨3, rfl, by rw [HA'.out], rfl, by omega, b2⟩, by simp [RowKit.intOf]⟩
      · have hix := ix3
        have hR := HR.out 3
        have hR1 : R 4 = R 3 % 3600000 := HR1.out 3
        have hL := HL.out 3
        have hX : X 4 = X 3 ++ (if 0 < R 3 / 3600000 then decDigits (R 3 / 3600000) ++ [104] else []) := HX.out 3
        obtain ⟨q, hq⟩ : ∃ q : Nat, q = R 3 / 3600000 := ⟨_, rfl⟩
        rw [← hq] at hX
        have kF := fun w' hb => fi_any q w' (HT.out.below hb) (by omega)
        have HKF : Hid (∀ w', Below w.heap.size w w' → Calls Tryd.prog 20 #[.int .i64 q, .int .i64 10] w' fun e w'' => e = .returned (.string (mk (decDigits q))) ∧ Below w'.heap.size w' w'') := kF
        have e1 : (R 3 : Int).tdiv 3600000 = (q : Int) := by rw [Int.tdiv_eq_ediv_of_nonneg (by omega)]; omega
        have e2 : (R 3 : Int).tmod 3600000 = (R 4 : Int) := by rw [Int.tmod_eq_emod_of_nonneg (by omega)]; omega
        have wq : IntKind.i64.wrap (q : Int) = (q : Int) := wrI _ (by omega) (by omega)
        have hdz := dd_len0 q (by omega)
        have zD : (mk (decDigits q)).size ≤ 20 := by rw [mk_size]; exact hdz
        have zX : (mk (X 3)).size ≤ 200 := by rw [mk_size]; omega
        have b2 : Below w.heap.size w (wr.alloc (.cells #[.string ⟨#[104]⟩, .int .i64 3600000] 38)) := hbw.alloc hbw.size _
        by_cases hp : 0 < q
        · rw [if_pos hp] at hX
          have hpi : (0 : Int) < (q : Int) := by omega
          obtain ⟨x1, hx1⟩ : ∃ x1, x1 = mk (decDigits q) ++ ⟨#[104]⟩ := ⟨_, rfl⟩
          have zN : (⟨#[104]⟩ : ByteArray).size ≤ 2 := by decide
          have z1 : x1.size ≤ 30 := by rw [hx1, ByteArray.size_append]; omega
          have f1 : ∀ w, (Op.stringOp .add (mk (decDigits q)) ⟨#[104]⟩).run Tryd.prog w = .ok (.string x1) w := fun w => by rw [hx1]; exact run_string_add w _ _ (by omega) (by omega)
          have ex : mk (X 3) ++ (mk (decDigits q) ++ ⟨#[104]⟩) = mk (X 4) := by
            rw [hX]
            apply Go.WideShapes.bytes_inj
            simp
          have f2 : ∀ w, (Op.stringOp .add (mk (X 3)) x1).run Tryd.prog w = .ok (.string (mk (X 4))) w := fun w => by
            rw [run_string_add w _ _ (by omega) (by omega), hx1, ex]
          obtain ⟨T', hT'⟩ : ∃ T', T' = mk (X 4) := ⟨_, rfl⟩
          rw [← hT'] at f2
          have HT' : Hid (T' = mk (X 4)) := hT'
          obtain ⟨A', hA'⟩ : ∃ A' : Int, A' = (R 4 : Int) := ⟨_, rfl⟩
          rw [← hA'] at e2
          have HA' : Hid (A' = (R 4 : Int)) := hA'
          clear hT' hA'
          generalize mk (X 3) = T at *
          generalize mk (decDigits q) = D at *
          generalize (R 3 : Int) = A at *
          generalize (q : Int) = Q at *
          clear hR hR1 hL hX hq kF hdz zD zX hx1 zN z1 hp ex
          go_upto_region 11 with fail
          have c0 := fun d os => Calls.regrown_of (HKF.out (Go.Sort.grow (redrawn (wr.alloc (.cells #[.string ⟨#[104]⟩, .int .i64 3600000] 38)) d) os) (b2.trans ((below_regrown _ d os).mono b2.size)))
          have s0 : (wr.alloc (.cells #[.string ⟨#[104]⟩, .int .i64 3600000] 38)).cell? ⟨wr.heap.size, 0, none⟩ = some (.string ⟨#[104]⟩) := by rw [cell_of_row _ _ 0 _ 38 (0, 0) (heap_alloc_new wr _)]; rfl
          have s1 : (wr.alloc (.cells #[.string ⟨#[104]⟩, .int .i64 3600000] 38)).cell? ⟨wr.heap.size, 1, none⟩ = some (.int .i64 3600000) := by rw [cell_of_row _ _ 1 _ 38 (0, 0) (heap_alloc_new wr _)]; rfl
          have r0 := cell_regrown s0
          have HS1 : Hid ((wr.alloc (.cells #[.string ⟨#[104]⟩, .int .i64 3600000] 38)).cell? ⟨wr.heap.size, 1, none⟩ = some (.int .i64 3600000)) := s1
          generalize wr.alloc (.cells #[.string ⟨#[104]⟩, .int .i64 3600000] 38) = W at *
          clear s0 s1
          refine wp_region_quiet_below (by kernel_rfl) (by kernel_rfl) ?_
          iterate 2 (quiet_step (fail))
          quiet_step (exact c0 _ _)
          iterate 5 (quiet_step (fail))
          refine wpQuiet_nil ?_
          intro _ hw'
          obtain ⟨⟨dq, osq⟩, hw''⟩ := hw'
          subst hw''
          have hb7 := below_regrown W dq osq
          have s1 := (hb7.cell (block_lt_of_cell HS1.out)).trans HS1.out
          have HB7 : Hid (Below w.heap.size w (Go.Sort.grow (redrawn W dq) osq)) := b2.trans (hb7.mono b2.size)
          clear c0 r0 hb7
          generalize Go.Sort.grow (redrawn W dq) osq = w7 at *
          go_wp2
          exact ⟨⟨4, rfl, by rw [HA'.out], by rw [HT'.out], by omega, HB7.out⟩, by simp [RowKit.intOf]⟩
        · rw [if_neg hp, List.append_nil] at hX
          have hpi : ¬ (0 : Int) < (q : Int) := by omega
          rw [← hX]
          obtain ⟨A', hA'⟩ : ∃ A' : Int, A' = (R 4 : Int) := ⟨_, rfl⟩
          rw [← hA'] at e2
          have HA' : Hid (A' = (R 4 : Int)) := hA'
          clear hA'
          generalize (R 3 : Int) = A at *
          generalize (q : Int) = Q at *
          clear hR hR1 hL hq kF hdz zD zX hp HKF
          go_wp2
          exact ⟨⟨4, rfl, by rw [HA'.out], rfl, by omega, b2⟩, by simp [RowKit.intOf]⟩
      · have hix := ix4
        have hR := HR.out 4
        have hR1 : R 5 = R 4 % 60000 := HR1.out 4
        have hL := HL.out 4
        have hX : X 5 = X 4 ++ (if 0 < R 4 / 60000 then decDigits (R 4 / 60000) ++ [109] else []) := HX.out 4
        obtain ⟨q, hq⟩ : ∃ q : Nat, q = R 4 / 60000 := ⟨_, rfl⟩
        rw [← hq] at hX
        have kF := fun w' hb => fi_any q w' (HT.out.below hb) (by omega)
        have HKF : Hid (∀ w', Below w.heap.size w w' → Calls Tryd.prog 20 #[.int .i64 q, .int .i64 10] w' fun e w'' => e = .returned (.string (mk (decDigits q))) ∧ Below w'.heap.size w' w'') := kF
        have e1 : (R 4 : Int).tdiv 60000 = (q : Int) := by rw [Int.tdiv_eq_ediv_of_nonneg (by omega)]; omega
        have e2 : (R 4 : Int).tmod 60000 = (R 5 : Int) := by rw [Int.tmod_eq_emod_of_nonneg (by omega)]; omega
        have wq : IntKind.i64.wrap (q : Int) = (q : Int) := wrI _ (by omega) (by omega)
        have hdz := dd_len0 q (by omega)
        have zD : (mk (decDigits q)).size ≤ 20 := by rw [mk_size]; exact hdz
        have zX : (mk (X 4)).size ≤ 200 := by rw [mk_size]; omega
        have b2 : Below w.heap.size w (wr.alloc (.cells #[.string ⟨#[109]⟩, .int .i64 60000] 38)) := hbw.alloc hbw.size _
        by_cases hp : 0 < q
        · rw [if_pos hp] at hX
          have hpi : (0 : Int) < (q : Int) := by omega
          obtain ⟨x1, hx1⟩ : ∃ x1, x1 = mk (decDigits q) ++ ⟨#[109]⟩ := ⟨_, rfl⟩
          have zN : (⟨#[109]⟩ : ByteArray).size ≤ 2 := by decide
          have z1 : x1.size ≤ 30 := by rw [hx1, ByteArray.size_append]; omega
          have f1 : ∀ w, (Op.stringOp .add (mk (decDigits q)) ⟨#[109]⟩).run Tryd.prog w = .ok (.string x1) w := fun w => by rw [hx1]; exact run_string_add w _ _ (by omega) (by omega)
          have ex : mk (X 4) ++ (mk (decDigits q) ++ ⟨#[109]⟩) = mk (X 5) := by
            rw [hX]
            apply Go.WideShapes.bytes_inj
            simp
          have f2 : ∀ w, (Op.stringOp .add (mk (X 4)) x1).run Tryd.prog w = .ok (.string (mk (X 5))) w := fun w => by
            rw [run_string_add w _ _ (by omega) (by omega), hx1, ex]
          obtain ⟨T', hT'⟩ : ∃ T', T' = mk (X 5) := ⟨_, rfl⟩
          rw [← hT'] at f2
          have HT' : Hid (T' = mk (X 5)) := hT'
          obtain ⟨A', hA'⟩ : ∃ A' : Int, A' = (R 5 : Int) := ⟨_, rfl⟩
          rw [← hA'] at e2
          have HA' : Hid (A' = (R 5 : Int)) := hA'
          clear hT' hA'
          generalize mk (X 4) = T at *
          generalize mk (decDigits q) = D at *
          generalize (R 4 : Int) = A at *
          generalize (q : Int) = Q at *
          clear hR hR1 hL hX hq kF hdz zD zX hx1 zN z1 hp ex
          go_upto_region 11 with fail
          have c0 := fun d os => Calls.regrown_of (HKF.out (Go.Sort.grow (redrawn (wr.alloc (.cells #[.string ⟨#[109]⟩, .int .i64 60000] 38)) d) os) (b2.trans ((below_regrown _ d os).mono b2.size)))
          have s0 : (wr.alloc (.cells #[.string ⟨#[109]⟩, .int .i64 60000] 38)).cell? ⟨wr.heap.size, 0, none⟩ = some (.string ⟨#[109]⟩) := by rw [cell_of_row _ _ 0 _ 38 (0, 0) (heap_alloc_new wr _)]; rfl
          have s1 : (wr.alloc (.cells #[.string ⟨#[109]⟩, .int .i64 60000] 38)).cell? ⟨wr.heap.size, 1, none⟩ = some (.int .i64 60000) := by rw [cell_of_row _ _ 1 _ 38 (0, 0) (heap_alloc_new wr _)]; rfl
          have r0 := cell_regrown s0
          have HS1 : Hid ((wr.alloc (.cells #[.string ⟨#[109]⟩, .int .i64 60000] 38)).cell? ⟨wr.heap.size, 1, none⟩ = some (.int .i64 60000)) := s1
          generalize wr.alloc (.cells #[.string ⟨#[109]⟩, .int .i64 60000] 38) = W at *
          clear s0 s1
          refine wp_region_quiet_below (by kernel_rfl) (by kernel_rfl) ?_
          iterate 2 (quiet_step (fail))
          quiet_step (exact c0 _ _)
          iterate 5 (quiet_step (fail))
          refine wpQuiet_nil ?_
          intro _ hw'
          obtain ⟨⟨dq, osq⟩, hw''⟩ := hw'
          subst hw''
          have hb7 := below_regrown W dq osq
          have s1 := (hb7.cell (block_lt_of_cell HS1.out)).trans HS1.out
          have HB7 : Hid (Below w.heap.size w (Go.Sort.grow (redrawn W dq) osq)) := b2.trans (hb7.mono b2.size)
          clear c0 r0 hb7
          generalize Go.Sort.grow (redrawn W dq) osq = w7 at *
          go_wp2
          exact ⟨⟨5, rfl, by rw [HA'.out], by rw [HT'.out], by omega, HB7.out⟩, by simp [RowKit.intOf]⟩
        · rw [if_neg hp, List.append_nil] at hX
          have hpi : ¬ (0 : Int) < (q : Int) := by omega
          rw [← hX]
          obtain ⟨A', hA'⟩ : ∃ A' : Int, A' = (R 5 : Int) := ⟨_, rfl⟩
          rw [← hA'] at e2
          have HA' : Hid (A' = (R 5 : Int)) := hA'
          clear hA'
          generalize (R 4 : Int) = A at *
          generalize (q : Int) = Q at *
          clear hR hR1 hL hq kF hdz zD zX hp HKF
          go_wp2
          exact ⟨⟨5, rfl, by rw [HA'.out], rfl, by omega, b2⟩, by simp [RowKit.intOf]⟩
      · have hix := ix5
        have hR := HR.out 5
        have hR1 : R 6 = R 5 % 1000 := HR1.out 5
        have hL := HL.out 5
        have hX : X 6 = X 5 ++ (if 0 < R 5 / 1000 then decDigits (R 5 / 1000) ++ [115] else []) := HX.out 5
        obtain ⟨q, hq⟩ : ∃ q : Nat, q = R 5 / 1000 := ⟨_, rfl⟩
        rw [← hq] at hX
        have kF := fun w' hb => fi_any q w' (HT.out.below hb) (by omega)
        have HKF : Hid (∀ w', Below w.heap.size w w' → Calls Tryd.prog 20 #[.int .i64 q, .int .i64 10] w' fun e w'' => e = .returned (.string (mk (decDigits q))) ∧ Below w'.heap.size w' w'') := kF
        have e1 : (R 5 : Int).tdiv 1000 = (q : Int) := by rw [Int.tdiv_eq_ediv_of_nonneg (by omega)]; omega
        have e2 : (R 5 : Int).tmod 1000 = (R 6 : Int) := by rw [Int.tmod_eq_emod_of_nonneg (by omega)]; omega
        have wq : IntKind.i64.wrap (q : Int) = (q : Int) := wrI _ (by omega) (by omega)
        have hdz := dd_len0 q (by omega)
        have zD : (mk (decDigits q)).size ≤ 20 := by rw [mk_size]; exact hdz
        have zX : (mk (X 5)).size ≤ 200 := by rw [mk_size]; omega
        have b2 : Below w.heap.size w (wr.alloc (.cells #[.string ⟨#[115]⟩, .int .i64 1000] 38)) := hbw.alloc hbw.size _
        by_cases hp : 0 < q
        · rw [if_pos hp] at hX
          have hpi : (0 : Int) < (q : Int) := by omega
          obtain ⟨x1, hx1⟩ : ∃ x1, x1 = mk (decDigits q) ++ ⟨#[115]⟩ := ⟨_, rfl⟩
          have zN : (⟨#[115]⟩ : ByteArray).size ≤ 2 := by decide
          have z1 : x1.size ≤ 30 := by rw [hx1, ByteArray.size_append]; omega
          have f1 : ∀ w, (Op.stringOp .add (mk (decDigits q)) ⟨#[115]⟩).run Tryd.prog w = .ok (.string x1) w := fun w => by rw [hx1]; exact run_string_add w _ _ (by omega) (by omega)
          have ex : mk (X 5) ++ (mk (decDigits q) ++ ⟨#[115]⟩) = mk (X 6) := by
            rw [hX]
            apply Go.WideShapes.bytes_inj
            simp
          have f2 : ∀ w, (Op.stringOp .add (mk (X 5)) x1).run Tryd.prog w = .ok (.string (mk (X 6))) w := fun w => by
            rw [run_string_add w _ _ (by omega) (by omega), hx1, ex]
          obtain ⟨T', hT'⟩ : ∃ T', T' = mk (X 6) := ⟨_, rfl⟩
          rw [← hT'] at f2
          have HT' : Hid (T' = mk (X 6)) := hT'
          obtain ⟨A', hA'⟩ : ∃ A' : Int, A' = (R 6 : Int) := ⟨_, rfl⟩
          rw [← hA'] at e2
          have HA' : Hid (A' = (R 6 : Int)) := hA'
          clear hT' hA'
          generalize mk (X 5) = T at *
          generalize mk (decDigits q) = D at *
          generalize (R 5 : Int) = A at *
          generalize (q : Int) = Q at *
          clear hR hR1 hL hX hq kF hdz zD zX hx1 zN z1 hp ex
          go_upto_region 11 with fail
          have c0 := fun d os => Calls.regrown_of (HKF.out (Go.Sort.grow (redrawn (wr.alloc (.cells #[.string ⟨#[115]⟩, .int .i64 1000] 38)) d) os) (b2.trans ((below_regrown _ d os).mono b2.size)))
          have s0 : (wr.alloc (.cells #[.string ⟨#[115]⟩, .int .i64 1000] 38)).cell? ⟨wr.heap.size, 0, none⟩ = some (.string ⟨#[115]⟩) := by rw [cell_of_row _ _ 0 _ 38 (0, 0) (heap_alloc_new wr _)]; rfl
          have s1 : (wr.alloc (.cells #[.string ⟨#[115]⟩, .int .i64 1000] 38)).cell? ⟨wr.heap.size, 1, none⟩ = some (.int .i64 1000) := by rw [cell_of_row _ _ 1 _ 38 (0, 0) (heap_alloc_new wr _)]; rfl
          have r0 := cell_regrown s0
          have HS1 : Hid ((wr.alloc (.cells #[.string ⟨#[115]⟩, .int .i64 1000] 38)).cell? ⟨wr.heap.size, 1, none⟩ = some (.int .i64 1000)) := s1
          generalize wr.alloc (.cells #[.string ⟨#[115]⟩, .int .i64 1000] 38) = W at *
          clear s0 s1
          refine wp_region_quiet_below (by kernel_rfl) (by kernel_rfl) ?_
          iterate 2 (quiet_step (fail))
          quiet_step (exact c0 _ _)
          iterate 5 (quiet_step (fail))
          refine wpQuiet_nil ?_
          intro _ hw'
          obtain ⟨⟨dq, osq⟩, hw''⟩ := hw'
          subst hw''
          have hb7 := below_regrown W dq osq
          have s1 := (hb7.cell (block_lt_of_cell HS1.out)).trans HS1.out
          have HB7 : Hid (Below w.heap.size w (Go.Sort.grow (redrawn W dq) osq)) := b2.trans (hb7.mono b2.size)
          clear c0 r0 hb7
          generalize Go.Sort.grow (redrawn W dq) osq = w7 at *
          go_wp2
          exact ⟨⟨6, rfl, by rw [HA'.out], by rw [HT'.out], by omega, HB7.out⟩, by simp [RowKit.intOf]⟩
        · rw [if_neg hp, List.append_nil] at hX
          have hpi : ¬ (0 : Int) < (q : Int) := by omega
          rw [← hX]
          obtain ⟨A', hA'⟩ : ∃ A' : Int, A' = (R 6 : Int) := ⟨_, rfl⟩
          rw [← hA'] at e2
          have HA' : Hid (A' = (R 6 : Int)) := hA'
          clear hA'
          generalize (R 5 : Int) = A at *
          generalize (q : Int) = Q at *
          clear hR hR1 hL hq kF hdz zD zX hp HKF
          go_wp2
          exact ⟨⟨6, rfl, by rw [HA'.out], rfl, by omega, b2⟩, by simp [RowKit.intOf]⟩
      · have hix := ix6
        have hR := HR.out 6
        have hR1 : R 7 = R 6 % 1 := HR1.out 6
        have hL := HL.out 6
        have hX : X 7 = X 6 ++ (if 0 < R 6 / 1 then decDigits (R 6 / 1) ++ [109, 115] else []) := HX.out 6
        obtain ⟨q, hq⟩ : ∃ q : Nat, q = R 6 / 1 := ⟨_, rfl⟩
        rw [← hq] at hX
        have kF := fun w' hb => fi_any q w' (HT.out.below hb) (by omega)
        have HKF : Hid (∀ w', Below w.heap.size w w' → Calls Tryd.prog 20 #[.int .i64 q, .int .i64 10] w' fun e w'' => e = .returned (.string (mk (decDigits q))) ∧ Below w'.heap.size w' w'') := kF
        have e1 : (R 6 : Int).tdiv 1 = (q : Int) := by rw [Int.tdiv_eq_ediv_of_nonneg (by omega)]; omega
        have e2 : (R 6 : Int).tmod 1 = (R 7 : Int) := by rw [Int.tmod_eq_emod_of_nonneg (by omega)]; omega
        have wq : IntKind.i64.wrap (q : Int) = (q : Int) := wrI _ (by omega) (by omega)
        have hdz := dd_len0 q (by omega)
        have zD : (mk (decDigits q)).size ≤ 20 := by rw [mk_size]; exact hdz
        have zX : (mk (X 6)).size ≤ 200 := by rw [mk_size]; omega
        have b2 : Below w.heap.size w (wr.alloc (.cells #[.string ⟨#[109, 115]⟩, .int .i64 1] 38)) := hbw.alloc hbw.size _
        by_cases hp : 0 < q
        · rw [if_pos hp] at hX
          have hpi : (0 : Int) < (q : Int) := by omega
          obtain ⟨x1, hx1⟩ : ∃ x1, x1 = mk (decDigits q) ++ ⟨#[109, 115]⟩ := ⟨_, rfl⟩
          have zN : (⟨#[109, 115]⟩ : ByteArray).size ≤ 2 := by decide
          have z1 : x1.size ≤ 30 := by rw [hx1, ByteArray.size_append]; omega
          have f1 : ∀ w, (Op.stringOp .add (mk (decDigits q)) ⟨#[109, 115]⟩).run Tryd.prog w = .ok (.string x1) w := fun w => by rw [hx1]; exact run_string_add w _ _ (by omega) (by omega)
          have ex : mk (X 6) ++ (mk (decDigits q) ++ ⟨#[109, 115]⟩) = mk (X 7) := by
            rw [hX]
            apply Go.WideShapes.bytes_inj
            simp
          have f2 : ∀ w, (Op.stringOp .add (mk (X 6)) x1).run Tryd.prog w = .ok (.string (mk (X 7))) w := fun w => by
            rw [run_string_add w _ _ (by omega) (by omega), hx1, ex]
          obtain ⟨T', hT'⟩ : ∃ T', T' = mk (X 7) := ⟨_, rfl⟩
          rw [← hT'] at f2
          have HT' : Hid (T' = mk (X 7)) := hT'
          obtain ⟨A', hA'⟩ : ∃ A' : Int, A' = (R 7 : Int) := ⟨_, rfl⟩
          rw [← hA'] at e2
          have HA' : Hid (A' = (R 7 : Int)) := hA'
          clear hT' hA'
          generalize mk (X 6) = T at *
          generalize mk (decDigits q) = D at *
          generalize (R 6 : Int) = A at *
          generalize (q : Int) = Q at *
          clear hR hR1 hL hX hq kF hdz zD zX hx1 zN z1 hp ex
          go_upto_region 11 with fail
          have c0 := fun d os => Calls.regrown_of (HKF.out (Go.Sort.grow (redrawn (wr.alloc (.cells #[.string ⟨#[109, 115]⟩, .int .i64 1] 38)) d) os) (b2.trans ((below_regrown _ d os).mono b2.size)))
          have s0 : (wr.alloc (.cells #[.string ⟨#[109, 115]⟩, .int .i64 1] 38)).cell? ⟨wr.heap.size, 0, none⟩ = some (.string ⟨#[109, 115]⟩) := by rw [cell_of_row _ _ 0 _ 38 (0, 0) (heap_alloc_new wr _)]; rfl
          have s1 : (wr.alloc (.cells #[.string ⟨#[109, 115]⟩, .int .i64 1] 38)).cell? ⟨wr.heap.size, 1, none⟩ = some (.int .i64 1) := by rw [cell_of_row _ _ 1 _ 38 (0, 0) (heap_alloc_new wr _)]; rfl
          have r0 := cell_regrown s0
          have HS1 : Hid ((wr.alloc (.cells #[.string ⟨#[109, 115]⟩, .int .i64 1] 38)).cell? ⟨wr.heap.size, 1, none⟩ = some (.int .i64 1)) := s1
          generalize wr.alloc (.cells #[.string ⟨#[109, 115]⟩, .int .i64 1] 38) = W at *
          clear s0 s1
          refine wp_region_quiet_below (by kernel_rfl) (by kernel_rfl) ?_
          iterate 2 (quiet_step (fail))
          quiet_step (exact c0 _ _)
          iterate 5 (quiet_step (fail))
          refine wpQuiet_nil ?_
          intro _ hw'
          obtain ⟨⟨dq, osq⟩, hw''⟩ := hw'
          subst hw''
          have hb7 := below_regrown W dq osq
          have s1 := (hb7.cell (block_lt_of_cell HS1.out)).trans HS1.out
          have HB7 : Hid (Below w.heap.size w (Go.Sort.grow (redrawn W dq) osq)) := b2.trans (hb7.mono b2.size)
          clear c0 r0 hb7
          generalize Go.Sort.grow (redrawn W dq) osq = w7 at *
          go_wp2
          exact ⟨⟨7, rfl, by rw [HA'.out], by rw [HT'.out], by omega, HB7.out⟩, by simp [RowKit.intOf]⟩
        · rw [if_neg hp, List.append_nil] at hX
          have hpi : ¬ (0 : Int) < (q : Int) := by omega
          rw [← hX]
          obtain ⟨A', hA'⟩ : ∃ A' : Int, A' = (R 7 : Int) := ⟨_, rfl⟩
          rw [← hA'] at e2
          have HA' : Hid (A' = (R 7 : Int)) := hA'
          clear hA'
          generalize (R 6 : Int) = A at *
          generalize (q : Int) = Q at *
          clear hR hR1 hL hq kF hdz zD zX hp HKF
          go_wp2
          exact ⟨⟨7, rfl, by rw [HA'.out], rfl, by omega, b2⟩, by simp [RowKit.intOf]⟩
    · have hji : ¬ (j : Int) < 7 := by omega
      obtain rfl : j = 7 := by omega
      go_wp2
      go_ret2
      exact ⟨rfl, hbw⟩
end Go.Proofs.YtmfeckpcnofkhabDoor
