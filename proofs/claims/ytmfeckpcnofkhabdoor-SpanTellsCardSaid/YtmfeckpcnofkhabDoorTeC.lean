/- The reference's Text. -/
import Derived.Test.YtmfeckpcnofkhabDoorTeA
import Derived.Test.YtmfeckpcnofkhabDoorTxA
namespace Go.Proofs.YtmfeckpcnofkhabDoor
open Go.RowKit Go.Lib

theorem runit0 (w : World) : Calls Tryd.prog 34 #[.string ⟨#[121]⟩, .int .i64 0] w fun e w' => e = .returned (.tuple #[.int .i64 1, .int .i64 31536000000, .int .i64 1]) ∧ w' = w := by
  go_enter Tryd.func34, Tryd.ntmps34
  go_wp2
  go_ret3
  exact ⟨rfl, rfl⟩
theorem runit1 (w : World) : Calls Tryd.prog 34 #[.string ⟨#[119]⟩, .int .i64 0] w fun e w' => e = .returned (.tuple #[.int .i64 1, .int .i64 604800000, .int .i64 2]) ∧ w' = w := by
  go_enter Tryd.func34, Tryd.ntmps34
  go_wp2
  go_ret3
  exact ⟨rfl, rfl⟩
theorem runit2 (w : World) : Calls Tryd.prog 34 #[.string ⟨#[100]⟩, .int .i64 0] w fun e w' => e = .returned (.tuple #[.int .i64 1, .int .i64 86400000, .int .i64 3]) ∧ w' = w := by
  go_enter Tryd.func34, Tryd.ntmps34
  go_wp2
  go_ret3
  exact ⟨rfl, rfl⟩
theorem runit3 (w : World) : Calls Tryd.prog 34 #[.string ⟨#[104]⟩, .int .i64 0] w fun e w' => e = .returned (.tuple #[.int .i64 1, .int .i64 3600000, .int .i64 4]) ∧ w' = w := by
  go_enter Tryd.func34, Tryd.ntmps34
  go_wp2
  go_ret3
  exact ⟨rfl, rfl⟩
theorem runit4 (w : World) : Calls Tryd.prog 34 #[.string ⟨#[109]⟩, .int .i64 0] w fun e w' => e = .returned (.tuple #[.int .i64 1, .int .i64 60000, .int .i64 5]) ∧ w' = w := by
  go_enter Tryd.func34, Tryd.ntmps34
  go_wp2
  go_ret3
  exact ⟨rfl, rfl⟩
theorem runit5 (w : World) : Calls Tryd.prog 34 #[.string ⟨#[115]⟩, .int .i64 0] w fun e w' => e = .returned (.tuple #[.int .i64 1, .int .i64 1000, .int .i64 6]) ∧ w' = w := by
  go_enter Tryd.func34, Tryd.ntmps34
  go_wp2
  go_ret3
  exact ⟨rfl, rfl⟩
theorem runit6 (w : World) : Calls Tryd.prog 34 #[.string ⟨#[109, 115]⟩, .int .i64 0] w fun e w' => e = .returned (.tuple #[.int .i64 2, .int .i64 1, .int .i64 7]) ∧ w' = w := by
  go_enter Tryd.func34, Tryd.ntmps34
  go_wp2
  go_ret3
  exact ⟨rfl, rfl⟩

theorem rtext_arg (ms : Int) (w : World) (h : ms < 0 ∨ 315360000000000 < ms) : Calls Tryd.prog 15 #[.int .i64 ms] w fun e w' => e = .returned (.tuple #[.string ⟨#[]⟩, .int .i64 2]) ∧ Below w.heap.size w w' := by
  by_cases c : ms < 0
  · clear h
    go_enter Tryd.func15, Tryd.ntmps15
    go_wp2
    go_ret2
    exact ⟨rfl, Below.refl _ _⟩
  · have c2 : 315360000000000 < ms := by omega
    clear h
    go_enter Tryd.func15, Tryd.ntmps15
    go_wp2
    go_ret2
    exact ⟨rfl, Below.refl _ _⟩
theorem rtext_zero (w : World) : Calls Tryd.prog 15 #[.int .i64 0] w fun e w' => e = .returned (.tuple #[.string ⟨#[48, 115]⟩, .int .i64 0]) ∧ Below w.heap.size w w' := by
  go_enter Tryd.func15, Tryd.ntmps15
  go_wp2
  go_ret2
  exact ⟨rfl, Below.refl _ _⟩

set_option maxHeartbeats 8000000 in
set_option maxRecDepth 100000 in
theorem rtext_any (ms : Nat) (h0 : 0 < ms) (h1 : ms ≤ 315360000000000) (w : World) : Calls Tryd.prog 15 #[.int .i64 ms] w fun e w' => e = .returned (.tuple #[.string (mk (tx ms 7)), .int .i64 0]) ∧ Below w.heap.size w w' := by
  have h0i : ¬ (ms : Int) = 0 := by omega
  have h2i : ¬ (ms : Int) < 0 := by omega
  have h1i : ¬ 315360000000000 < (ms : Int) := by omega
  have h0b : ((ms : Int) == 0) = false := by rw [beq_eq_false_iff_ne]; exact h0i
  obtain ⟨R, hR⟩ : ∃ R, R = rm ms := ⟨_, rfl⟩
  obtain ⟨X, hX⟩ : ∃ X, X = tx ms := ⟨_, rfl⟩
  have HR : Hid (∀ k, R k ≤ 315360000000000) := fun k => by have := rm_le ms k; rw [hR]; omega
  have HR0 : Hid ((ms : Int) = (R 0 : Int)) := by rw [hR]; rfl
  have HR1 : Hid (∀ k, R (k + 1) = R k % uN k) := fun k => by rw [hR]; rfl
  have HL : Hid (∀ k, (X k).length ≤ 22 * k) := fun k => by rw [hX]; exact tx_len ms h1 k
  have HX0 : Hid (mk (X 0) = ⟨#[]⟩) := by rw [hX]; rfl
  have HX : Hid (∀ k, X (k + 1) = X k ++ (if 0 < R k / uN k then decDigits (R k / uN k) ++ uL k else [])) := fun k => by rw [hX, hR]; rfl
  rw [← hX]
  clear hR hX h0 h1 h0i
  generalize (ms : Int) = M at *
  clear ms
  go_enter Tryd.func15, Tryd.ntmps15
  go_wp2_with fail
  have hb1 : Below w.heap.size w (w.alloc (.cells #[.string ⟨#[121]⟩, .string ⟨#[119]⟩, .string ⟨#[100]⟩, .string ⟨#[104]⟩, .string ⟨#[109]⟩, .string ⟨#[115]⟩, .string ⟨#[109, 115]⟩] 54)) := (Below.refl _ _).alloc (Nat.le_refl _) _
  have y0 : (w.alloc (.cells #[.string ⟨#[121]⟩, .string ⟨#[119]⟩, .string ⟨#[100]⟩, .string ⟨#[104]⟩, .string ⟨#[109]⟩, .string ⟨#[115]⟩, .string ⟨#[109, 115]⟩] 54)).cell? ⟨w.heap.size, 0, none⟩ = some (.string ⟨#[121]⟩) := by rw [cell_of_row _ _ 0 _ 54 (0, 0) (heap_alloc_new w _)]; rfl
  have y1 : (w.alloc (.cells #[.string ⟨#[121]⟩, .string ⟨#[119]⟩, .string ⟨#[100]⟩, .string ⟨#[104]⟩, .string ⟨#[109]⟩, .string ⟨#[115]⟩, .string ⟨#[109, 115]⟩] 54)).cell? ⟨w.heap.size, 1, none⟩ = some (.string ⟨#[119]⟩) := by rw [cell_of_row _ _ 1 _ 54 (0, 0) (heap_alloc_new w _)]; rfl
  have y2 : (w.alloc (.cells #[.string ⟨#[121]⟩, .string ⟨#[119]⟩, .string ⟨#[100]⟩, .string ⟨#[104]⟩, .string ⟨#[109]⟩, .string ⟨#[115]⟩, .string ⟨#[109, 115]⟩] 54)).cell? ⟨w.heap.size, 2, none⟩ = some (.string ⟨#[100]⟩) := by rw [cell_of_row _ _ 2 _ 54 (0, 0) (heap_alloc_new w _)]; rfl
  have y3 : (w.alloc (.cells #[.string ⟨#[121]⟩, .string ⟨#[119]⟩, .string ⟨#[100]⟩, .string ⟨#[104]⟩, .string ⟨#[109]⟩, .string ⟨#[115]⟩, .string ⟨#[109, 115]⟩] 54)).cell? ⟨w.heap.size, 3, none⟩ = some (.string ⟨#[104]⟩) := by rw [cell_of_row _ _ 3 _ 54 (0, 0) (heap_alloc_new w _)]; rfl
  have y4 : (w.alloc (.cells #[.string ⟨#[121]⟩, .string ⟨#[119]⟩, .string ⟨#[100]⟩, .string ⟨#[104]⟩, .string ⟨#[109]⟩, .string ⟨#[115]⟩, .string ⟨#[109, 115]⟩] 54)).cell? ⟨w.heap.size, 4, none⟩ = some (.string ⟨#[109]⟩) := by rw [cell_of_row _ _ 4 _ 54 (0, 0) (heap_alloc_new w _)]; rfl
  have y5 : (w.alloc (.cells #[.string ⟨#[121]⟩, .string ⟨#[119]⟩, .string ⟨#[100]⟩, .string ⟨#[104]⟩, .string ⟨#[109]⟩, .string ⟨#[115]⟩, .string ⟨#[109, 115]⟩] 54)).cell? ⟨w.heap.size, 5, none⟩ = some (.string ⟨#[115]⟩) := by rw [cell_of_row _ _ 5 _ 54 (0, 0) (heap_alloc_new w _)]; rfl
  have y6 : (w.alloc (.cells #[.string ⟨#[121]⟩, .string ⟨#[119]⟩, .string ⟨#[100]⟩, .string ⟨#[104]⟩, .string ⟨#[109]⟩, .string ⟨#[115]⟩, .string ⟨#[109, 115]⟩] 54)).cell? ⟨w.heap.size, 6, none⟩ = some (.string ⟨#[109, 115]⟩) := by rw [cell_of_row _ _ 6 _ 54 (0, 0) (heap_alloc_new w _)]; rfl
  have Y0 := hidden y0
  have Y1 := hidden y1
  have Y2 := hidden y2
  have Y3 := hidden y3
  have Y4 := hidden y4
  have Y5 := hidden y5
  have Y6 := hidden y6
  clear y0 y1 y2 y3 y4 y5 y6
  have HB1 := hidden hb1
  clear hb1
  generalize w.alloc (.cells #[.string ⟨#[121]⟩, .string ⟨#[119]⟩, .string ⟨#[100]⟩, .string ⟨#[104]⟩, .string ⟨#[109]⟩, .string ⟨#[115]⟩, .string ⟨#[109, 115]⟩] 54) = w1 at *
  obtain ⟨B, hB⟩ : ∃ B, B = w.heap.size := ⟨_, rfl⟩
  rw [← hB] at Y0 Y1 Y2 Y3 Y4 Y5 Y6 ⊢
  have HBB : Hid (B = w.heap.size) := hB
  clear hB
  clear h0b h2i h1i
  go_loopw [0, 5, 6] (fun m b t W => ∃ j : Nat, t = .int .i64 (j : Int) ∧ m = .int .i64 (R j : Int) ∧ b = .string (mk (X j)) ∧ j ≤ 7 ∧ Below w1.heap.size w1 W) (fun _ _ t _ => 7 - (RowKit.intOf t).toNat)
  case atStart => exact ⟨0, rfl, by rw [HR0.out], by rw [HX0.out], by omega, Below.refl _ _⟩
  case round =>
    obtain ⟨j, rfl, rfl, rfl, hj, hbw⟩ := hrel
    by_cases hlt : j < 7
    · have hc : j = 0 ∨ j = 1 ∨ j = 2 ∨ j = 3 ∨ j = 4 ∨ j = 5 ∨ j = 6 := by omega
      clear hlt hj
      rcases hc with rfl | rfl | rfl | rfl | rfl | rfl | rfl
      · have hR := HR.out 0
        have hR1 : R 1 = R 0 % 31536000000 := HR1.out 0
        have hL := HL.out 0
        have hX : X 1 = X 0 ++ (if 0 < R 0 / 31536000000 then decDigits (R 0 / 31536000000) ++ [121] else []) := HX.out 0
        obtain ⟨q, hq⟩ : ∃ q : Nat, q = R 0 / 31536000000 := ⟨_, rfl⟩
        rw [← hq] at hX
        have kF := fun w => rdec_any q 1 w (by omega) (by omega)
        rw [dcm1 q (by omega)] at kF
        have e1 : (R 0 : Int).tdiv 31536000000 = (q : Int) := by rw [Int.tdiv_eq_ediv_of_nonneg (by omega)]; omega
        obtain ⟨P, hP⟩ : ∃ P : Int, P = (q : Int) * 31536000000 := ⟨_, rfl⟩
        have e2 : IntKind.i64.wrap ((q : Int) * 31536000000) = P := by rw [← hP]; exact wrI _ (by omega) (by omega)
        have e3 : IntKind.i64.wrap ((R 0 : Int) - P) = (R 1 : Int) := by rw [wrI _ (by omega) (by omega)]; omega
        have wq : IntKind.u64.wrap (q : Int) = (q : Int) := by rw [IntKind.wrap_u64]; omega
        have we : IntKind.i64.wrap (q : Int) = (q : Int) := wrI _ (by omega) (by omega)
        have hdz := dd_len0 q (by omega)
        have zD : (mk (decDigits q)).size ≤ 20 := by rw [mk_size]; exact hdz
        have zX : (mk (X 0)).size ≤ 200 := by rw [mk_size]; omega
        have hy := (hbw.cell (block_lt_of_cell Y0.out)).trans Y0.out
        by_cases hp : 0 < q
        · rw [if_pos hp] at hX
          have hpi : (0 : Int) < (q : Int) := by omega
          obtain ⟨x1, hx1⟩ : ∃ x1, x1 = mk (decDigits q) ++ ⟨#[121]⟩ := ⟨_, rfl⟩
          have zN : (⟨#[121]⟩ : ByteArray).size ≤ 2 := by decide
          have z1 : x1.size ≤ 30 := by rw [hx1, ByteArray.size_append]; omega
          have f1 : ∀ w, (Op.stringOp .add (mk (decDigits q)) ⟨#[121]⟩).run Tryd.prog w = .ok (.string x1) w := fun w => by rw [hx1]; exact run_string_add w _ _ (by omega) (by omega)
          have ex : mk (X 0) ++ (mk (decDigits q) ++ ⟨#[121]⟩) = mk (X 1) := by
            rw [hX]
            apply Go.WideShapes.bytes_inj
            simp
          have f2 : ∀ w, (Op.stringOp .add (mk (X 0)) x1).run Tryd.prog w = .ok (.string (mk (X 1))) w := fun w => by
            rw [run_string_add w _ _ (by omega) (by omega), hx1, ex]
          obtain ⟨T', hT'⟩ : ∃ T', T' = mk (X 1) := ⟨_, rfl⟩
          rw [← hT'] at f2
          have HT' : Hid (T' = mk (X 1)) := hT'
          obtain ⟨A', hA'⟩ : ∃ A' : Int, A' = (R 1 : Int) := ⟨_, rfl⟩
          rw [← hA'] at e3
          have HA' : Hid (A' = (R 1 : Int)) := hA'
          clear hT' hA'
          have HKF := hidden kF
          clear hR hR1 hL hX hq kF hdz zD zX hx1 zN z1 hp ex hP
          generalize mk (X 0) = T at *
          generalize mk (decDigits q) = D at *
          generalize (R 0 : Int) = A at *
          generalize (q : Int) = Q at *
          go_wp2_with fail
          go_fit (runit0 _)
          rintro e w2 ⟨rfl, rfl⟩
          go_upto_region 14 with fail
          have c0 := fun d os => Calls.regrown_of (HKF.out (Go.Sort.grow (redrawn w2 d) os))
          have r0 := cell_regrown hy
          clear hy
          refine wp_region_quiet_below (by kernel_rfl) (by kernel_rfl) ?_
          iterate 3 (quiet_step (fail))
          quiet_step (exact c0 _ _)
          iterate 6 (quiet_step (fail))
          refine wpQuiet_nil ?_
          intro _ hw'
          obtain ⟨⟨dq, osq⟩, hw''⟩ := hw'
          subst hw''
          have HB7 : Hid (Below w1.heap.size w1 (Go.Sort.grow (redrawn w2 dq) osq)) := hbw.trans ((below_regrown w2 dq osq).mono hbw.size)
          clear c0 r0 hbw
          generalize Go.Sort.grow (redrawn w2 dq) osq = w7 at *
          go_wp2
          exact ⟨⟨1, rfl, by rw [HA'.out], by rw [HT'.out], by omega, HB7.out⟩, by simp [RowKit.intOf]⟩
        · rw [if_neg hp, List.append_nil] at hX
          have hpi : ¬ (0 : Int) < (q : Int) := by omega
          have HXX := hidden hX
          clear hX
          obtain ⟨A', hA'⟩ : ∃ A' : Int, A' = (R 1 : Int) := ⟨_, rfl⟩
          rw [← hA'] at e3
          have HA' : Hid (A' = (R 1 : Int)) := hA'
          clear hA'
          clear hR hR1 hL hq kF hdz zD zX hp hP
          generalize (R 0 : Int) = A at *
          generalize (q : Int) = Q at *
          go_wp2_with fail
          go_fit (runit0 _)
          rintro e w2 ⟨rfl, rfl⟩
          go_wp2
          exact ⟨⟨1, rfl, by rw [HA'.out], by rw [HXX.out], by omega, hbw⟩, by simp [RowKit.intOf]⟩
      · have hR := HR.out 1
        have hR1 : R 2 = R 1 % 604800000 := HR1.out 1
        have hL := HL.out 1
        have hX : X 2 = X 1 ++ (if 0 < R 1 / 604800000 then decDigits (R 1 / 604800000) ++ [119] else []) := HX.out 1
        obtain ⟨q, hq⟩ : ∃ q : Nat, q = R 1 / 604800000 := ⟨_, rfl⟩
        rw [← hq] at hX
        have kF := fun w => rdec_any q 1 w (by omega) (by omega)
        rw [dcm1 q (by omega)] at kF
        have e1 : (R 1 : Int).tdiv 604800000 = (q : Int) := by rw [Int.tdiv_eq_ediv_of_nonneg (by omega)]; omega
        obtain ⟨P, hP⟩ : ∃ P : Int, P = (q : Int) * 604800000 := ⟨_, rfl⟩
        have e2 : IntKind.i64.wrap ((q : Int) * 604800000) = P := by rw [← hP]; exact wrI _ (by omega) (by omega)
        have e3 : IntKind.i64.wrap ((R 1 : Int) - P) = (R 2 : Int) := by rw [wrI _ (by omega) (by omega)]; omega
        have wq : IntKind.u64.wrap (q : Int) = (q : Int) := by rw [IntKind.wrap_u64]; omega
        have we : IntKind.i64.wrap (q : Int) = (q : Int) := wrI _ (by omega) (by omega)
        have hdz := dd_len0 q (by omega)
        have zD : (mk (decDigits q)).size ≤ 20 := by rw [mk_size]; exact hdz
        have zX : (mk (X 1)).size ≤ 200 := by rw [mk_size]; omega
        have hy := (hbw.cell (block_lt_of_cell Y1.out)).trans Y1.out
        by_cases hp : 0 < q
        · rw [if_pos hp] at hX
          have hpi : (0 : Int) < (q : Int) := by omega
          obtain ⟨x1, hx1⟩ : ∃ x1, x1 = mk (decDigits q) ++ ⟨#[119]⟩ := ⟨_, rfl⟩
          have zN : (⟨#[119]⟩ : ByteArray).size ≤ 2 := by decide
          have z1 : x1.size ≤ 30 := by rw [hx1, ByteArray.size_append]; omega
          have f1 : ∀ w, (Op.stringOp .add (mk (decDigits q)) ⟨#[119]⟩).run Tryd.prog w = .ok (.string x1) w := fun w => by rw [hx1]; exact run_string_add w _ _ (by omega) (by omega)
          have ex : mk (X 1) ++ (mk (decDigits q) ++ ⟨#[119]⟩) = mk (X 2) := by
            rw [hX]
            apply Go.WideShapes.bytes_inj
            simp
          have f2 : ∀ w, (Op.stringOp .add (mk (X 1)) x1).run Tryd.prog w = .ok (.string (mk (X 2))) w := fun w => by
            rw [run_string_add w _ _ (by omega) (by omega), hx1, ex]
          obtain ⟨T', hT'⟩ : ∃ T', T' = mk (X 2) := ⟨_, rfl⟩
          rw [← hT'] at f2
          have HT' : Hid (T' = mk (X 2)) := hT'
          obtain ⟨A', hA'⟩ : ∃ A' : Int, A' = (R 2 : Int) := ⟨_, rfl⟩
          rw [← hA'] at e3
          have HA' : Hid (A' = (R 2 : Int)) := hA'
          clear hT' hA'
          have HKF := hidden kF
          clear hR hR1 hL hX hq kF hdz zD zX hx1 zN z1 hp ex hP
          generalize mk (X 1) = T at *
          generalize mk (decDigits q) = D at *
          generalize (R 1 : Int) = A at *
          generalize (q : Int) = Q at *
          go_wp2_with fail
          go_fit (runit1 _)
          rintro e w2 ⟨rfl, rfl⟩
          go_upto_region 14 with fail
          have c0 := fun d os => Calls.regrown_of (HKF.out (Go.Sort.grow (redrawn w2 d) os))
          have r0 := cell_regrown hy
          clear hy
          refine wp_region_quiet_below (by kernel_rfl) (by kernel_rfl) ?_
          iterate 3 (quiet_step (fail))
          quiet_step (exact c0 _ _)
          iterate 6 (quiet_step (fail))
          refine wpQuiet_nil ?_
          intro _ hw'
          obtain ⟨⟨dq, osq⟩, hw''⟩ := hw'
          subst hw''
          have HB7 : Hid (Below w1.heap.size w1 (Go.Sort.grow (redrawn w2 dq) osq)) := hbw.trans ((below_regrown w2 dq osq).mono hbw.size)
          clear c0 r0 hbw
          generalize Go.Sort.grow (redrawn w2 dq) osq = w7 at *
          go_wp2
          exact ⟨⟨2, rfl, by rw [HA'.out], by rw [HT'.out], by omega, HB7.out⟩, by simp [RowKit.intOf]⟩
        · rw [if_neg hp, List.append_nil] at hX
          have hpi : ¬ (0 : Int) < (q : Int) := by omega
          have HXX := hidden hX
          clear hX
          obtain ⟨A', hA'⟩ : ∃ A' : Int, A' = (R 2 : Int) := ⟨_, rfl⟩
          rw [← hA'] at e3
          have HA' : Hid (A' = (R 2 : Int)) := hA'
          clear hA'
          clear hR hR1 hL hq kF hdz zD zX hp hP
          generalize (R 1 : Int) = A at *
          generalize (q : Int) = Q at *
          go_wp2_with fail
          go_fit (runit1 _)
          rintro e w2 ⟨rfl, rfl⟩
          go_wp2
          exact ⟨⟨2, rfl, by rw [HA'.out], by rw [HXX.out], by omega, hbw⟩, by simp [RowKit.intOf]⟩
      · have hR := HR.out 2
        have hR1 : R 3 = R 2 % 86400000 := HR1.out 2
        have hL := HL.out 2
        have hX : X 3 = X 2 ++ (if 0 < R 2 / 86400000 then decDigits (R 2 / 86400000) ++ [100] else []) := HX.out 2
        obtain ⟨q, hq⟩ : ∃ q : Nat, q = R 2 / 86400000 := ⟨_, rfl⟩
        rw [← hq] at hX
        have kF := fun w => rdec_any q 1 w (by omega) (by omega)
        rw [dcm1 q (by omega)] at kF
        have e1 : (R 2 : Int).tdiv 86400000 = (q : Int) := by rw [Int.tdiv_eq_ediv_of_nonneg (by omega)]; omega
        obtain ⟨P, hP⟩ : ∃ P : Int, P = (q : Int) * 86400000 := ⟨_, rfl⟩
        have e2 : IntKind.i64.wrap ((q : Int) * 86400000) = P := by rw [← hP]; exact wrI _ (by omega) (by omega)
        have e3 : IntKind.i64.wrap ((R 2 : Int) - P) = (R 3 : Int) := by rw [wrI _ (by omega) (by omega)]; omega
        have wq : IntKind.u64.wrap (q : Int) = (q : Int) := by rw [IntKind.wrap_u64]; omega
        have we : IntKind.i64.wrap (q : Int) = (q : Int) := wrI _ (by omega) (by omega)
        have hdz := dd_len0 q (by omega)
        have zD : (mk (decDigits q)).size ≤ 20 := by rw [mk_size]; exact hdz
        have zX : (mk (X 2)).size ≤ 200 := by rw [mk_size]; omega
        have hy := (hbw.cell (block_lt_of_cell Y2.out)).trans Y2.out
        by_cases hp : 0 < q
        · rw [if_pos hp] at hX
          have hpi : (0 : Int) < (q : Int) := by omega
          obtain ⟨x1, hx1⟩ : ∃ x1, x1 = mk (decDigits q) ++ ⟨#[100]⟩ := ⟨_, rfl⟩
          have zN : (⟨#[100]⟩ : ByteArray).size ≤ 2 := by decide
          have z1 : x1.size ≤ 30 := by rw [hx1, ByteArray.size_append]; omega
          have f1 : ∀ w, (Op.stringOp .add (mk (decDigits q)) ⟨#[100]⟩).run Tryd.prog w = .ok (.string x1) w := fun w => by rw [hx1]; exact run_string_add w _ _ (by omega) (by omega)
          have ex : mk (X 2) ++ (mk (decDigits q) ++ ⟨#[100]⟩) = mk (X 3) := by
            rw [hX]
            apply Go.WideShapes.bytes_inj
            simp
          have f2 : ∀ w, (Op.stringOp .add (mk (X 2)) x1).run Tryd.prog w = .ok (.string (mk (X 3))) w := fun w => by
            rw [run_string_add w _ _ (by omega) (by omega), hx1, ex]
          obtain ⟨T', hT'⟩ : ∃ T', T' = mk (X 3) := ⟨_, rfl⟩
          rw [← hT'] at f2
          have HT' : Hid (T' = mk (X 3)) := hT'
          obtain ⟨A', hA'⟩ : ∃ A' : Int, A' = (R 3 : Int) := ⟨_, rfl⟩
          rw [← hA'] at e3
          have HA' : Hid (A' = (R 3 : Int)) := hA'
          clear hT' hA'
          have HKF := hidden kF
          clear hR hR1 hL hX hq kF hdz zD zX hx1 zN z1 hp ex hP
          generalize mk (X 2) = T at *
          generalize mk (decDigits q) = D at *
          generalize (R 2 : Int) = A at *
          generalize (q : Int) = Q at *
          go_wp2_with fail
          go_fit (runit2 _)
          rintro e w2 ⟨rfl, rfl⟩
          go_upto_region 14 with fail
          have c0 := fun d os => Calls.regrown_of (HKF.out (Go.Sort.grow (redrawn w2 d) os))
          have r0 := cell_regrown hy
          clear hy
          refine wp_region_quiet_below (by kernel_rfl) (by kernel_rfl) ?_
          iterate 3 (quiet_step (fail))
          quiet_step (exact c0 _ _)
          iterate 6 (quiet_step (fail))
          refine wpQuiet_nil ?_
          intro _ hw'
          obtain ⟨⟨dq, osq⟩, hw''⟩ := hw'
          subst hw''
          have HB7 : Hid (Below w1.heap.size w1 (Go.Sort.grow (redrawn w2 dq) osq)) := hbw.trans ((below_regrown w2 dq osq).mono hbw.size)
          clear c0 r0 hbw
          generalize Go.Sort.grow (redrawn w2 dq) osq = w7 at *
          go_wp2
          exact ⟨⟨3, rfl, by rw [HA'.out], by rw [HT'.out], by omega, HB7.out⟩, by simp [RowKit.intOf]⟩
        · rw [if_neg hp, List.append_nil] at hX
          have hpi : ¬ (0 : Int) < (q : Int) := by omega
          have HXX := hidden hX
          clear hX
          obtain ⟨A', hA'⟩ : ∃ A' : Int, A' = (R 3 : Int) := ⟨_, rfl⟩
          rw [← hA'] at e3
          have HA' : Hid (A' = (R 3 : Int)) := hA'
          clear hA'
          clear hR hR1 hL hq kF hdz zD zX hp hP
          generalize (R 2 : Int) = A at *
          generalize (q : Int) = Q at *
          go_wp2_with fail
          go_fit (runit2 _)
          rintro e w2 ⟨rfl, rfl⟩
          go_wp2
          exact ⟨⟨3, rfl, by rw [HA'.out], by rw [HXX.out], by omega, hbw⟩, by simp [RowKit.intOf]⟩
      · have hR := HR.out 3
        have hR1 : R 4 = R 3 % 3600000 := HR1.out 3
        have hL := HL.out 3
        have hX : X 4 = X 3 ++ (if 0 < R 3 / 3600000 then decDigits (R 3 / 3600000) ++ [104] else []) := HX.out 3
        obtain ⟨q, hq⟩ : ∃ q : Nat, q = R 3 / 3600000 := ⟨_, rfl⟩
        rw [← hq] at hX
        have kF := fun w => rdec_any q 1 w (by omega) (by omega)
        rw [dcm1 q (by omega)] at kF
        have e1 : (R 3 : Int).tdiv 3600000 = (q : Int) := by rw [Int.tdiv_eq_ediv_of_nonneg (by omega)]; omega
        obtain ⟨P, hP⟩ : ∃ P : Int, P = (q : Int) * 3600000 := ⟨_, rfl⟩
        have e2 : IntKind.i64.wrap ((q : Int) * 3600000) = P := by rw [← hP]; exact wrI _ (by omega) (by omega)
        have e3 : IntKind.i64.wrap ((R 3 : Int) - P) = (R 4 : Int) := by rw [wrI _ (by omega) (by omega)]; omega
        have wq : IntKind.u64.wrap (q : Int) = (q : Int) := by rw [IntKind.wrap_u64]; omega
        have we : IntKind.i64.wrap (q : Int) = (q : Int) := wrI _ (by omega) (by omega)
        have hdz := dd_len0 q (by omega)
        have zD : (mk (decDigits q)).size ≤ 20 := by rw [mk_size]; exact hdz
        have zX : (mk (X 3)).size ≤ 200 := by rw [mk_size]; omega
        have hy := (hbw.cell (block_lt_of_cell Y3.out)).trans Y3.out
        by_cases hp : 0 < q
        · rw [if_pos hp] at hX
          have hpi : (0 : Int) < (q : Int) := by omega
          obtain ⟨x1, hx1⟩ : ∃ x1, x1 = mk (decDigits q) ++ ⟨#[104]⟩ := ⟨_, rfl⟩
          have zN : (⟨#[104]⟩ : ByteArray).size ≤ 2 := by decide
          have z1 : x1.size ≤ 30 := by rw [hx1, ByteArray.size_append]; omega
          have f1 : ∀ w, (Op.stringOp .add (mk (decDigits q)) ⟨#[104]⟩).run Tryd.prog w = .ok (.string x1) w := fun w => by rw [hx1]; exact run_string_add w _ _ (by omega) (by omega)
          have ex : mk (X 3) ++ (mk (decDigits q) ++ ⟨#[104]⟩) = mk (X 4) := by
            rw [hX]
            apply Go.WideShapes.bytes_inj
            simp
          have f2 : ∀ w, (Op.stringOp .add (mk (X 3)) x1).run Tryd.prog w = .ok (.string (mk (X 4))) w := fun w => by
            rw [run_string_add w _ _ (by omega) (by omega), hx1, ex]
          obtain ⟨T', hT'⟩ : ∃ T', T' = mk (X 4) := ⟨_, rfl⟩
          rw [← hT'] at f2
          have HT' : Hid (T' = mk (X 4)) := hT'
          obtain ⟨A', hA'⟩ : ∃ A' : Int, A' = (R 4 : Int) := ⟨_, rfl⟩
          rw [← hA'] at e3
          have HA' : Hid (A' = (R 4 : Int)) := hA'
          clear hT' hA'
          have HKF := hidden kF
          clear hR hR1 hL hX hq kF hdz zD zX hx1 zN z1 hp ex hP
          generalize mk (X 3) = T at *
          generalize mk (decDigits q) = D at *
          generalize (R 3 : Int) = A at *
          generalize (q : Int) = Q at *
          go_wp2_with fail
          go_fit (runit3 _)
          rintro e w2 ⟨rfl, rfl⟩
          go_upto_region 14 with fail
          have c0 := fun d os => Calls.regrown_of (HKF.out (Go.Sort.grow (redrawn w2 d) os))
          have r0 := cell_regrown hy
          clear hy
          refine wp_region_quiet_below (by kernel_rfl) (by kernel_rfl) ?_
          iterate 3 (quiet_step (fail))
          quiet_step (exact c0 _ _)
          iterate 6 (quiet_step (fail))
          refine wpQuiet_nil ?_
          intro _ hw'
          obtain ⟨⟨dq, osq⟩, hw''⟩ := hw'
          subst hw''
          have HB7 : Hid (Below w1.heap.size w1 (Go.Sort.grow (redrawn w2 dq) osq)) := hbw.trans ((below_regrown w2 dq osq).mono hbw.size)
          clear c0 r0 hbw
          generalize Go.Sort.grow (redrawn w2 dq) osq = w7 at *
          go_wp2
          exact ⟨⟨4, rfl, by rw [HA'.out], by rw [HT'.out], by omega, HB7.out⟩, by simp [RowKit.intOf]⟩
        · rw [if_neg hp, List.append_nil] at hX
          have hpi : ¬ (0 : Int) < (q : Int) := by omega
          have HXX := hidden hX
          clear hX
          obtain ⟨A', hA'⟩ : ∃ A' : Int, A' = (R 4 : Int) := ⟨_, rfl⟩
          rw [← hA'] at e3
          have HA' : Hid (A' = (R 4 : Int)) := hA'
          clear hA'
          clear hR hR1 hL hq kF hdz zD zX hp hP
          generalize (R 3 : Int) = A at *
          generalize (q : Int) = Q at *
          go_wp2_with fail
          go_fit (runit3 _)
          rintro e w2 ⟨rfl, rfl⟩
          go_wp2
          exact ⟨⟨4, rfl, by rw [HA'.out], by rw [HXX.out], by omega, hbw⟩, by simp [RowKit.intOf]⟩
      · have hR := HR.out 4
        have hR1 : R 5 = R 4 % 60000 := HR1.out 4
        have hL := HL.out 4
        have hX : X 5 = X 4 ++ (if 0 < R 4 / 60000 then decDigits (R 4 / 60000) ++ [109] else []) := HX.out 4
        obtain ⟨q, hq⟩ : ∃ q : Nat, q = R 4 / 60000 := ⟨_, rfl⟩
        rw [← hq] at hX
        have kF := fun w => rdec_any q 1 w (by omega) (by omega)
        rw [dcm1 q (by omega)] at kF
        have e1 : (R 4 : Int).tdiv 60000 = (q : Int) := by rw [Int.tdiv_eq_ediv_of_nonneg (by omega)]; omega
        obtain ⟨P, hP⟩ : ∃ P : Int, P = (q : Int) * 60000 := ⟨_, rfl⟩
        have e2 : IntKind.i64.wrap ((q : Int) * 60000) = P := by rw [← hP]; exact wrI _ (by omega) (by omega)
        have e3 : IntKind.i64.wrap ((R 4 : Int) - P) = (R 5 : Int) := by rw [wrI _ (by omega) (by omega)]; omega
        have wq : IntKind.u64.wrap (q : Int) = (q : Int) := by rw [IntKind.wrap_u64]; omega
        have we : IntKind.i64.wrap (q : Int) = (q : Int) := wrI _ (by omega) (by omega)
        have hdz := dd_len0 q (by omega)
        have zD : (mk (decDigits q)).size ≤ 20 := by rw [mk_size]; exact hdz
        have zX : (mk (X 4)).size ≤ 200 := by rw [mk_size]; omega
        have hy := (hbw.cell (block_lt_of_cell Y4.out)).trans Y4.out
        by_cases hp : 0 < q
        · rw [if_pos hp] at hX
          have hpi : (0 : Int) < (q : Int) := by omega
          obtain ⟨x1, hx1⟩ : ∃ x1, x1 = mk (decDigits q) ++ ⟨#[109]⟩ := ⟨_, rfl⟩
          have zN : (⟨#[109]⟩ : ByteArray).size ≤ 2 := by decide
          have z1 : x1.size ≤ 30 := by rw [hx1, ByteArray.size_append]; omega
          have f1 : ∀ w, (Op.stringOp .add (mk (decDigits q)) ⟨#[109]⟩).run Tryd.prog w = .ok (.string x1) w := fun w => by rw [hx1]; exact run_string_add w _ _ (by omega) (by omega)
          have ex : mk (X 4) ++ (mk (decDigits q) ++ ⟨#[109]⟩) = mk (X 5) := by
            rw [hX]
            apply Go.WideShapes.bytes_inj
            simp
          have f2 : ∀ w, (Op.stringOp .add (mk (X 4)) x1).run Tryd.prog w = .ok (.string (mk (X 5))) w := fun w => by
            rw [run_string_add w _ _ (by omega) (by omega), hx1, ex]
          obtain ⟨T', hT'⟩ : ∃ T', T' = mk (X 5) := ⟨_, rfl⟩
          rw [← hT'] at f2
          have HT' : Hid (T' = mk (X 5)) := hT'
          obtain ⟨A', hA'⟩ : ∃ A' : Int, A' = (R 5 : Int) := ⟨_, rfl⟩
          rw [← hA'] at e3
          have HA' : Hid (A' = (R 5 : Int)) := hA'
          clear hT' hA'
          have HKF := hidden kF
          clear hR hR1 hL hX hq kF hdz zD zX hx1 zN z1 hp ex hP
          generalize mk (X 4) = T at *
          generalize mk (decDigits q) = D at *
          generalize (R 4 : Int) = A at *
          generalize (q : Int) = Q at *
          go_wp2_with fail
          go_fit (runit4 _)
          rintro e w2 ⟨rfl, rfl⟩
          go_upto_region 14 with fail
          have c0 := fun d os => Calls.regrown_of (HKF.out (Go.Sort.grow (redrawn w2 d) os))
          have r0 := cell_regrown hy
          clear hy
          refine wp_region_quiet_below (by kernel_rfl) (by kernel_rfl) ?_
          iterate 3 (quiet_step (fail))
          quiet_step (exact c0 _ _)
          iterate 6 (quiet_step (fail))
          refine wpQuiet_nil ?_
          intro _ hw'
          obtain ⟨⟨dq, osq⟩, hw''⟩ := hw'
          subst hw''
          have HB7 : Hid (Below w1.heap.size w1 (Go.Sort.grow (redrawn w2 dq) osq)) := hbw.trans ((below_regrown w2 dq osq).mono hbw.size)
          clear c0 r0 hbw
          generalize Go.Sort.grow (redrawn w2 dq) osq = w7 at *
          go_wp2
          exact ⟨⟨5, rfl, by rw [HA'.out], by rw [HT'.out], by omega, HB7.out⟩, by simp [RowKit.intOf]⟩
        · rw [if_neg hp, List.append_nil] at hX
          have hpi : ¬ (0 : Int) < (q : Int) := by omega
          have HXX := hidden hX
          clear hX
          obtain ⟨A', hA'⟩ : ∃ A' : Int, A' = (R 5 : Int) := ⟨_, rfl⟩
          rw [← hA'] at e3
          have HA' : Hid (A' = (R 5 : Int)) := hA'
          clear hA'
          clear hR hR1 hL hq kF hdz zD zX hp hP
          generalize (R 4 : Int) = A at *
          generalize (q : Int) = Q at *
          go_wp2_with fail
          go_fit (runit4 _)
          rintro e w2 ⟨rfl, rfl⟩
          go_wp2
          exact ⟨⟨5, rfl, by rw [HA'.out], by rw [HXX.out], by omega, hbw⟩, by simp [RowKit.intOf]⟩
      · have hR := HR.out 5
        have hR1 : R 6 = R 5 % 1000 := HR1.out 5
        have hL := HL.out 5
        have hX : X 6 = X 5 ++ (if 0 < R 5 / 1000 then decDigits (R 5 / 1000) ++ [115] else []) := HX.out 5
        obtain ⟨q, hq⟩ : ∃ q : Nat, q = R 5 / 1000 := ⟨_, rfl⟩
        rw [← hq] at hX
        have kF := fun w => rdec_any q 1 w (by omega) (by omega)
        rw [dcm1 q (by omega)] at kF
        have e1 : (R 5 : Int).tdiv 1000 = (q : Int) := by rw [Int.tdiv_eq_ediv_of_nonneg (by omega)]; omega
        obtain ⟨P, hP⟩ : ∃ P : Int, P = (q : Int) * 1000 := ⟨_, rfl⟩
        have e2 : IntKind.i64.wrap ((q : Int) * 1000) = P := by rw [← hP]; exact wrI _ (by omega) (by omega)
        have e3 : IntKind.i64.wrap ((R 5 : Int) - P) = (R 6 : Int) := by rw [wrI _ (by omega) (by omega)]; omega
        have wq : IntKind.u64.wrap (q : Int) = (q : Int) := by rw [IntKind.wrap_u64]; omega
        have we : IntKind.i64.wrap (q : Int) = (q : Int) := wrI _ (by omega) (by omega)
        have hdz := dd_len0 q (by omega)
        have zD : (mk (decDigits q)).size ≤ 20 := by rw [mk_size]; exact hdz
        have zX : (mk (X 5)).size ≤ 200 := by rw [mk_size]; omega
        have hy := (hbw.cell (block_lt_of_cell Y5.out)).trans Y5.out
        by_cases hp : 0 < q
        · rw [if_pos hp] at hX
          have hpi : (0 : Int) < (q : Int) := by omega
          obtain ⟨x1, hx1⟩ : ∃ x1, x1 = mk (decDigits q) ++ ⟨#[115]⟩ := ⟨_, rfl⟩
          have zN : (⟨#[115]⟩ : ByteArray).size ≤ 2 := by decide
          have z1 : x1.size ≤ 30 := by rw [hx1, ByteArray.size_append]; omega
          have f1 : ∀ w, (Op.stringOp .add (mk (decDigits q)) ⟨#[115]⟩).run Tryd.prog w = .ok (.string x1) w := fun w => by rw [hx1]; exact run_string_add w _ _ (by omega) (by omega)
          have ex : mk (X 5) ++ (mk (decDigits q) ++ ⟨#[115]⟩) = mk (X 6) := by
            rw [hX]
            apply Go.WideShapes.bytes_inj
            simp
          have f2 : ∀ w, (Op.stringOp .add (mk (X 5)) x1).run Tryd.prog w = .ok (.string (mk (X 6))) w := fun w => by
            rw [run_string_add w _ _ (by omega) (by omega), hx1, ex]
          obtain ⟨T', hT'⟩ : ∃ T', T' = mk (X 6) := ⟨_, rfl⟩
          rw [← hT'] at f2
          have HT' : Hid (T' = mk (X 6)) := hT'
          obtain ⟨A', hA'⟩ : ∃ A' : Int, A' = (R 6 : Int) := ⟨_, rfl⟩
          rw [← hA'] at e3
          have HA' : Hid (A' = (R 6 : Int)) := hA'
          clear hT' hA'
          have HKF := hidden kF
          clear hR hR1 hL hX hq kF hdz zD zX hx1 zN z1 hp ex hP
          generalize mk (X 5) = T at *
          generalize mk (decDigits q) = D at *
          generalize (R 5 : Int) = A at *
          generalize (q : Int) = Q at *
          go_wp2_with fail
          go_fit (runit5 _)
          rintro e w2 ⟨rfl, rfl⟩
          go_upto_region 14 with fail
          have c0 := fun d os => Calls.regrown_of (HKF.out (Go.Sort.grow (redrawn w2 d) os))
          have r0 := cell_regrown hy
          clear hy
          refine wp_region_quiet_below (by kernel_rfl) (by kernel_rfl) ?_
          iterate 3 (quiet_step (fail))
          quiet_step (exact c0 _ _)
          iterate 6 (quiet_step (fail))
          refine wpQuiet_nil ?_
          intro _ hw'
          obtain ⟨⟨dq, osq⟩, hw''⟩ := hw'
          subst hw''
          have HB7 : Hid (Below w1.heap.size w1 (Go.Sort.grow (redrawn w2 dq) osq)) := hbw.trans ((below_regrown w2 dq osq).mono hbw.size)
          clear c0 r0 hbw
          generalize Go.Sort.grow (redrawn w2 dq) osq = w7 at *
          go_wp2
          exact ⟨⟨6, rfl, by rw [HA'.out], by rw [HT'.out], by omega, HB7.out⟩, by simp [RowKit.intOf]⟩
        · rw [if_neg hp, List.append_nil] at hX
          have hpi : ¬ (0 : Int) < (q : Int) := by omega
          have HXX := hidden hX
          clear hX
          obtain ⟨A', hA'⟩ : ∃ A' : Int, A' = (R 6 : Int) := ⟨_, rfl⟩
          rw [← hA'] at e3
          have HA' : Hid (A' = (R 6 : Int)) := hA'
          clear hA'
          clear hR hR1 hL hq kF hdz zD zX hp hP
          generalize (R 5 : Int) = A at *
          generalize (q : Int) = Q at *
          go_wp2_with fail
          go_fit (runit5 _)
          rintro e w2 ⟨rfl, rfl⟩
          go_wp2
          exact ⟨⟨6, rfl, by rw [HA'.out], by rw [HXX.out], by omega, hbw⟩, by simp [RowKit.intOf]⟩
      · have hR := HR.out 6
        have hR1 : R 7 = R 6 % 1 := HR1.out 6
        have hL := HL.out 6
        have hX : X 7 = X 6 ++ (if 0 < R 6 / 1 then decDigits (R 6 / 1) ++ [109, 115] else []) := HX.out 6
        obtain ⟨q, hq⟩ : ∃ q : Nat, q = R 6 / 1 := ⟨_, rfl⟩
        rw [← hq] at hX
        have kF := fun w => rdec_any q 1 w (by omega) (by omega)
        rw [dcm1 q (by omega)] at kF
        have e1 : (R 6 : Int).tdiv 1 = (q : Int) := by rw [Int.tdiv_eq_ediv_of_nonneg (by omega)]; omega
        obtain ⟨P, hP⟩ : ∃ P : Int, P = (q : Int) * 1 := ⟨_, rfl⟩
        have e2 : IntKind.i64.wrap ((q : Int) * 1) = P := by rw [← hP]; exact wrI _ (by omega) (by omega)
        have e3 : IntKind.i64.wrap ((R 6 : Int) - P) = (R 7 : Int) := by rw [wrI _ (by omega) (by omega)]; omega
        have e4 : IntKind.i64.wrap ((R 6 : Int) - (q : Int)) = (R 7 : Int) := by rw [wrI _ (by omega) (by omega)]; omega
        have wq : IntKind.u64.wrap (q : Int) = (q : Int) := by rw [IntKind.wrap_u64]; omega
        have we : IntKind.i64.wrap (q : Int) = (q : Int) := wrI _ (by omega) (by omega)
        have hdz := dd_len0 q (by omega)
        have zD : (mk (decDigits q)).size ≤ 20 := by rw [mk_size]; exact hdz
        have zX : (mk (X 6)).size ≤ 200 := by rw [mk_size]; omega
        have hy := (hbw.cell (block_lt_of_cell Y6.out)).trans Y6.out
        by_cases hp : 0 < q
        · rw [if_pos hp] at hX
          have hpi : (0 : Int) < (q : Int) := by omega
          obtain ⟨x1, hx1⟩ : ∃ x1, x1 = mk (decDigits q) ++ ⟨#[109, 115]⟩ := ⟨_, rfl⟩
          have zN : (⟨#[109, 115]⟩ : ByteArray).size ≤ 2 := by decide
          have z1 : x1.size ≤ 30 := by rw [hx1, ByteArray.size_append]; omega
          have f1 : ∀ w, (Op.stringOp .add (mk (decDigits q)) ⟨#[109, 115]⟩).run Tryd.prog w = .ok (.string x1) w := fun w => by rw [hx1]; exact run_string_add w _ _ (by omega) (by omega)
          have ex : mk (X 6) ++ (mk (decDigits q) ++ ⟨#[109, 115]⟩) = mk (X 7) := by
            rw [hX]
            apply Go.WideShapes.bytes_inj
            simp
          have f2 : ∀ w, (Op.stringOp .add (mk (X 6)) x1).run Tryd.prog w = .ok (.string (mk (X 7))) w := fun w => by
            rw [run_string_add w _ _ (by omega) (by omega), hx1, ex]
          obtain ⟨T', hT'⟩ : ∃ T', T' = mk (X 7) := ⟨_, rfl⟩
          rw [← hT'] at f2
          have HT' : Hid (T' = mk (X 7)) := hT'
          obtain ⟨A', hA'⟩ : ∃ A' : Int, A' = (R 7 : Int) := ⟨_, rfl⟩
          rw [← hA'] at e3 e4
          have HA' : Hid (A' = (R 7 : Int)) := hA'
          clear hT' hA'
          have HKF := hidden kF
          clear hR hR1 hL hX hq kF hdz zD zX hx1 zN z1 hp ex hP
          generalize mk (X 6) = T at *
          generalize mk (decDigits q) = D at *
          generalize (R 6 : Int) = A at *
          generalize (q : Int) = Q at *
          go_wp2_with fail
          go_fit (runit6 _)
          rintro e w2 ⟨rfl, rfl⟩
          go_upto_region 14 with fail
          have c0 := fun d os => Calls.regrown_of (HKF.out (Go.Sort.grow (redrawn w2 d) os))
          have r0 := cell_regrown hy
          clear hy
          refine wp_region_quiet_below (by kernel_rfl) (by kernel_rfl) ?_
          iterate 3 (quiet_step (fail))
          quiet_step (exact c0 _ _)
          iterate 6 (quiet_step (fail))
          refine wpQuiet_nil ?_
          intro _ hw'
          obtain ⟨⟨dq, osq⟩, hw''⟩ := hw'
          subst hw''
          have HB7 : Hid (Below w1.heap.size w1 (Go.Sort.grow (redrawn w2 dq) osq)) := hbw.trans ((below_regrown w2 dq osq).mono hbw.size)
          clear c0 r0 hbw
          generalize Go.Sort.grow (redrawn w2 dq) osq = w7 at *
          go_wp2
          exact ⟨⟨7, rfl, by rw [HA'.out], by rw [HT'.out], by omega, HB7.out⟩, by simp [RowKit.intOf]⟩
        · rw [if_neg hp, List.append_nil] at hX
          have hpi : ¬ (0 : Int) < (q : Int) := by omega
          have HXX := hidden hX
          clear hX
          obtain ⟨A', hA'⟩ : ∃ A' : Int, A' = (R 7 : Int) := ⟨_, rfl⟩
          rw [← hA'] at e3 e4
          have HA' : Hid (A' = (R 7 : Int)) := hA'
          clear hA'
          clear hR hR1 hL hq kF hdz zD zX hp hP
          generalize (R 6 : Int) = A at *
          generalize (q : Int) = Q at *
          go_wp2_with fail
          go_fit (runit6 _)
          rintro e w2 ⟨rfl, rfl⟩
          go_wp2
          exact ⟨⟨7, rfl, by rw [HA'.out], by rw [HXX.out], by omega, hbw⟩, by simp [RowKit.intOf]⟩
    · have hji : ¬ (j : Int) < 7 := by omega
      obtain rfl : j = 7 := by omega
      go_wp2
      go_ret2
      exact ⟨rfl, HB1.out.trans (hbw.mono HB1.out.size)⟩
end Go.Proofs.YtmfeckpcnofkhabDoor
