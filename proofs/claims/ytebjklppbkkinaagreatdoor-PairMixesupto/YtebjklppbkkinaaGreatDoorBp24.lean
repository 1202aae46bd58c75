/- A bundle of texts. -/
import Derived.Test.YtebjklppbkkinaaGreatDoorBp23
/- Powers of finite numbers. -/
namespace Go.Proofs.YtebjklppbkkinaaGreatDoor.F
open Go.RowKit Ieee

/-- Finite, not 0, x not 1. -/
def Pf (x y : Nat) : Prop := Fi x ∧ Fi y ∧ x % 9223372036854775808 ≠ 0 ∧ y % 9223372036854775808 ≠ 0 ∧ x ≠ 4607182418800017408
set_option maxHeartbeats 1000000 in
theorem edge_no (x y : Nat) (h : Pf x y) (w : World) : Calls Tryz.prog 138 #[.float .f64 x, .float .f64 y] w fun r w' => r = .returned (.tuple #[.float .f64 0, .bool false]) ∧ w' = w := by
  obtain ⟨hx, hy, hx0, hy0, hx1⟩ := h
  have kC := bad_any x
  have kD := bad_any y
  have kE := endless_any y hy.1
  have kF := endless_any x hx.1
  rw [hx.2.1] at kC
  rw [hy.2.1] at kD
  rw [hy.inf] at kE
  rw [hx.inf] at kF
  have h1 := eq0_not y hy.1 hy0
  have h2 := eq0_not x hx.1 hx0
  have h3 := one_no x hx.1 hx1
  go_enter Tryz.func138, Tryz.ntmps138
  go_wp2_with fail
  go_fit (kC _)
  rintro r w ⟨rfl, rfl⟩
  go_wp2_with fail
  go_fit (kD _)
  rintro r w ⟨rfl, rfl⟩
  go_wp2_with fail
  go_fit (kE _)
  rintro r w ⟨rfl, rfl⟩
  go_wp2_with fail
  go_fit (kE _)
  rintro r w ⟨rfl, rfl⟩
  go_wp2_with fail
  go_fit (kE _)
  rintro r w ⟨rfl, rfl⟩
  go_wp2_with fail
  go_fit (kF _)
  rintro r w ⟨rfl, rfl⟩
  go_wp2_with fail
  go_fit (kF _)
  rintro r w ⟨rfl, rfl⟩
  go_wp2_with fail
  go_fit (kF _)
  rintro r w ⟨rfl, rfl⟩
  go_wp2_with fail
  go_fit (kF _)
  rintro r w ⟨rfl, rfl⟩
  go_wp2
  go_ret2
  exact ⟨rfl, rfl⟩
theorem le_1024 (y : Nat) (h : y % 9223372036854775808 ≤ 4652218415073722368) : FloatKind.f64.format.order (y % 9223372036854775808) 4652218415073722368 = some .lt ∨ FloatKind.f64.format.order (y % 9223372036854775808) 4652218415073722368 = some .eq := by
  rw [pos_order _ _ (by omega) (by decide)]
  rcases Nat.lt_or_ge (y % 9223372036854775808) 4652218415073722368 with c | c
  · left; rw [Nat.compare_eq_lt.2 c]
  · right; rw [Nat.compare_eq_eq.2 (by omega)]
set_option maxRecDepth 100000 in
set_option maxHeartbeats 2000000 in
theorem pow_whole_lt (x y K : Nat) (h : Pf x y) (hw : whB y = true) (hle : FloatKind.f64.format.order (y % 9223372036854775808) 4652218415073722368 = some .lt) (hK : floatToIntVal .f64 (y % 9223372036854775808) .i64 = some (K : Int)) (hK2 : K ≤ 9007199254740992) (w : World) :
    Calls Tryz.prog 80 #[.float .f64 x, .float .f64 y] w (RF w (pwR y (pwC K K (cl x) (some 4607182418800017408)))) := by
  have kP := powWhole_any x y K h.2.1.1 hK hK2
  obtain ⟨hx, hy, hx0, hy0, hx1⟩ := h
  have kA := isNaN_any x
  have kB := isNaN_any y
  have kI := isInf_any y hy.1
  have kX := isInf_any x hx.1
  have kW := isWhole_any y hy
  have kAy := abs_any y hy.1
  rw [hx.2.1] at kA
  rw [hy.2.1] at kB
  rw [hy.inf] at kI
  rw [hx.inf] at kX
  rw [hw] at kW
  have h1 := eq0_not y hy.1 hy0
  have h2 := eq0_not x hx.1 hx0
  have h3 := one_no x hx.1 hx1
  generalize pwR y (pwC K K (cl x) (some 4607182418800017408)) = R at *
  clear hK hx0 hy0
  generalize y % 9223372036854775808 = y' at *
  go_enter Tryz.func80, Tryz.ntmps80
  go_wp2_with fail
  go_fit (kA _)
  rintro r w ⟨rfl, rfl⟩
  go_wp2_with fail
  go_fit (kB _)
  rintro r w ⟨rfl, rfl⟩
  go_wp2_with fail
  go_fit (kI _)
  rintro r w ⟨rfl, rfl⟩
  go_wp2_with fail
  go_fit (kX _)
  rintro r w ⟨rfl, rfl⟩
  go_wp2_with fail
  go_fit (kW _)
  rintro r w ⟨rfl, rfl⟩
  go_wp2_with fail
  go_fit (kAy _)
  rintro r w ⟨rfl, rfl⟩
  go_wp2_with fail
  go_fit (kP _)
  rintro r w2 ⟨z, k, rfl, rfl, hzl, hzc⟩
  have HZ : Hid (cl z = R) := hzc
  clear hzc
  go_wp2
  go_ret
  exact ⟨_, _, rfl, rfl, hzl, HZ.out⟩
set_option maxRecDepth 100000 in
set_option maxHeartbeats 2000000 in
theorem rpow_whole_lt (x y K : Nat) (h : Pf x y) (hw : whB y = true) (hle : FloatKind.f64.format.order (y % 9223372036854775808) 4652218415073722368 = some .lt) (hK : floatToIntVal .f64 (y % 9223372036854775808) .i64 = some (K : Int)) (hK2 : K ≤ 9007199254740992) (w : World) :
    Calls Tryz.prog 87 #[.float .f64 x, .float .f64 y] w (RF w (pwR y (pwC K K (cl x) (some 4607182418800017408)))) := by
  have kE := edge_no x y h
  have hy := h.2.1
  have kW := whole_ref y hy
  rw [hw] at kW
  have kAy := abs_any y hy.1
  have hcv : ∀ w, (convert 23 3 (.float .f64 (y % 9223372036854775808))).run Tryz.prog w = .ok (.int .i64 (K : Int)) w := fun w => run_convert_float_int w 23 3 .f64 .i64 _ K (by rw [Tryz.underlying23]; rfl) (by rw [Tryz.underlying3]) hK
  have hm := @run_fmul Tryz.prog
  have hq := @run_fquo Tryz.prog
  have HC : Hid (Pw K (cl x) (cl 4607182418800017408) (pwC K K (cl x) (some 4607182418800017408))) := ⟨K, by omega, by rw [cl_lit 4607182418800017408 (by decide)]⟩
  generalize hC : pwC K K (cl x) (some 4607182418800017408) = C at *
  clear hK hC h hw
  generalize y % 9223372036854775808 = y' at *
  generalize hR : pwR y C = R
  have HR : Hid (pwR y C = R) := hR
  clear hR
  go_enter Tryz.func87, Tryz.ntmps87
  go_wp2_with fail
  go_fit (kE _)
  rintro r w ⟨rfl, rfl⟩
  go_wp2_with fail
  go_fit (kW _)
  rintro r w ⟨rfl, rfl⟩
  go_wp2_with fail
  go_fit (kAy _)
  rintro r w ⟨rfl, rfl⟩
  go_wp2_with fail
  go_fit (kAy _)
  rintro r w ⟨rfl, rfl⟩
  go_wp2
  go_loopw [7, 8, 9] (fun av rv nv w' => ∃ (a r n k : Nat), av = .float .f64 a ∧ rv = .float .f64 r ∧ nv = .int .i64 (n : Int) ∧ w' = w.drewN k ∧ n ≤ 9007199254740992 ∧ r < 18446744073709551616 ∧ Hid (Pw n (cl a) (cl r) C)) (fun _ _ nv _ => (RowKit.intOf nv).toNat)
  case atStart => exact ⟨x, _, K, 0, rfl, rfl, rfl, rfl, hK2, by decide, HC⟩
  case round =>
    obtain ⟨a, r, n, k, rfl, rfl, rfl, rfl, hn, hrl, HP⟩ := hrel
    by_cases hn0 : n = 0
    · subst hn0
      have hrC := HP.out.end
      have hz : ¬ (0 : Int) < ((0 : Nat) : Int) := by decide
      by_cases hs : FloatKind.f64.format.order y 0 = some .lt
      · have HR2 : Hid (fb .quo (some 4607182418800017408) C = R) := by
          have := HR.out
          unfold pwR at this
          rw [if_pos hs] at this
          exact this
        have HrC : Hid (cl r = C) := hrC
        clear hrC
        go_wp2
        go_ret
        refine ⟨_, _, rfl, rfl, fz_lt _ _ _ _, ?_⟩
        rw [cl_fz, cl_lit 4607182418800017408 (by decide), HrC.out]
        exact HR2.out
      · have hs' : (FloatKind.f64.format.order y 0 == some .lt) = false := beq_eq_false_iff_ne.2 hs
        have HR2 : Hid (C = R) := by
          have := HR.out
          unfold pwR at this
          rw [if_neg hs] at this
          exact this
        have HrC : Hid (cl r = C) := hrC
        clear hrC hs
        go_wp2
        go_ret
        exact ⟨_, _, rfl, rfl, hrl, HrC.out.trans HR2.out⟩
    · have hgt : (0 : Int) < (n : Int) := by omega
      obtain ⟨q, hq⟩ : ∃ q, n / 2 = q := ⟨_, rfl⟩
      have hst := HP.out.step hn0
      rw [hq] at hst
      have hd1 : (n : Int).tdiv 2 = (q : Int) := by rw [Int.tdiv_eq_ediv_of_nonneg (by omega)]; omega
      have hd2 : (n : Int) / 2 = (q : Int) := by omega
      have hqn : q < n := by omega
      clear hq
      by_cases ho : n % 2 = 1
      · rw [if_pos ho] at hst
        have hr1 : (n : Int).tmod 2 = 1 := by rw [Int.tmod_eq_emod_of_nonneg (by omega)]; omega
        have hr2 : (n : Int) % 2 = 1 := by omega
        by_cases hq0 : q = 0
        · rw [if_pos hq0] at hst
          subst hq0
          have hz : ¬ (0 : Int) < ((0 : Nat) : Int) := by decide
          have HS : Hid _ := hst
          clear hst ho
          go_wp2
          refine ⟨⟨a, _, 0, _, rfl, rfl, rfl, rfl, by omega, fz_lt _ _ _ _, ?_⟩, by simp only [RowKit.intOf]; omega⟩
          show Pw _ _ _ _
          rw [cl_fz]
          exact HS.out
        · rw [if_neg hq0] at hst
          have hz : (0 : Int) < (q : Int) := by omega
          have HS : Hid _ := hst
          clear hst ho
          go_wp2
          refine ⟨⟨_, _, q, _, rfl, rfl, rfl, rfl, by omega, fz_lt _ _ _ _, ?_⟩, by simp only [RowKit.intOf]; omega⟩
          show Pw _ _ _ _
          rw [cl_fz, cl_fz]
          exact HS.out
      · rw [if_neg ho] at hst
        have hr1 : (n : Int).tmod 2 = 0 := by rw [Int.tmod_eq_emod_of_nonneg (by omega)]; omega
        have hr2 : (n : Int) % 2 = 0 := by omega
        by_cases hq0 : q = 0
        · exfalso; omega
        · rw [if_neg hq0] at hst
          have hz : (0 : Int) < (q : Int) := by omega
          have HS : Hid _ := hst
          clear hst ho
          go_wp2
          refine ⟨⟨_, r, q, _, rfl, rfl, rfl, rfl, by omega, hrl, ?_⟩, by simp only [RowKit.intOf]; omega⟩
          show Pw _ _ _ _
          rw [cl_fz]
          exact HS.out
set_option maxRecDepth 100000 in
set_option maxHeartbeats 2000000 in
theorem pow_whole_eq (x y K : Nat) (h : Pf x y) (hw : whB y = true) (hle : FloatKind.f64.format.order (y % 9223372036854775808) 4652218415073722368 = some .eq) (hK : floatToIntVal .f64 (y % 9223372036854775808) .i64 = some (K : Int)) (hK2 : K ≤ 9007199254740992) (w : World) :
    Calls Tryz.prog 80 #[.float .f64 x, .float .f64 y] w (RF w (pwR y (pwC K K (cl x) (some 4607182418800017408)))) := by
  have kP := powWhole_any x y K h.2.1.1 hK hK2
  obtain ⟨hx, hy, hx0, hy0, hx1⟩ := h
  have kA := isNaN_any x
  have kB := isNaN_any y
  have kI := isInf_any y hy.1
  have kX := isInf_any x hx.1
  have kW := isWhole_any y hy
  have kAy := abs_any y hy.1
  rw [hx.2.1] at kA
  rw [hy.2.1] at kB
  rw [hy.inf] at kI
  rw [hx.inf] at kX
  rw [hw] at kW
  have h1 := eq0_not y hy.1 hy0
  have h2 := eq0_not x hx.1 hx0
  have h3 := one_no x hx.1 hx1
  generalize pwR y (pwC K K (cl x) (some 4607182418800017408)) = R at *
  clear hK hx0 hy0
  generalize y % 9223372036854775808 = y' at *
  go_enter Tryz.func80, Tryz.ntmps80
  go_wp2_with fail
  go_fit (kA _)
  rintro r w ⟨rfl, rfl⟩
  go_wp2_with fail
  go_fit (kB _)
  rintro r w ⟨rfl, rfl⟩
  go_wp2_with fail
  go_fit (kI _)
  rintro r w ⟨rfl, rfl⟩
  go_wp2_with fail
  go_fit (kX _)
  rintro r w ⟨rfl, rfl⟩
  go_wp2_with fail
  go_fit (kW _)
  rintro r w ⟨rfl, rfl⟩
  go_wp2_with fail
  go_fit (kAy _)
  rintro r w ⟨rfl, rfl⟩
  go_wp2_with fail
  go_fit (kP _)
  rintro r w2 ⟨z, k, rfl, rfl, hzl, hzc⟩
  have HZ : Hid (cl z = R) := hzc
  clear hzc
  go_wp2
  go_ret
  exact ⟨_, _, rfl, rfl, hzl, HZ.out⟩
set_option maxRecDepth 100000 in
set_option maxHeartbeats 2000000 in
theorem rpow_whole_eq (x y K : Nat) (h : Pf x y) (hw : whB y = true) (hle : FloatKind.f64.format.order (y % 9223372036854775808) 4652218415073722368 = some .eq) (hK : floatToIntVal .f64 (y % 9223372036854775808) .i64 = some (K : Int)) (hK2 : K ≤ 9007199254740992) (w : World) :
    Calls Tryz.prog 87 #[.float .f64 x, .float .f64 y] w (RF w (pwR y (pwC K K (cl x) (some 4607182418800017408)))) := by
  have kE := edge_no x y h
  have hy := h.2.1
  have kW := whole_ref y hy
  rw [hw] at kW
  have kAy := abs_any y hy.1
  have hcv : ∀ w, (convert 23 3 (.float .f64 (y % 9223372036854775808))).run Tryz.prog w = .ok (.int .i64 (K : Int)) w := fun w => run_convert_float_int w 23 3 .f64 .i64 _ K (by rw [Tryz.underlying23]; rfl) (by rw [Tryz.underlying3]) hK
  have hm := @run_fmul Tryz.prog
  have hq := @run_fquo Tryz.prog
  have HC : Hid (Pw K (cl x) (cl 4607182418800017408) (pwC K K (cl x) (some 4607182418800017408))) := ⟨K, by omega, by rw [cl_lit 4607182418800017408 (by decide)]⟩
  generalize hC : pwC K K (cl x) (some 4607182418800017408) = C at *
  clear hK hC h hw
  generalize y % 9223372036854775808 = y' at *
  generalize hR : pwR y C = R
  have HR : Hid (pwR y C = R) := hR
  clear hR
  go_enter Tryz.func87, Tryz.ntmps87
  go_wp2_with fail
  go_fit (kE _)
  rintro r w ⟨rfl, rfl⟩
  go_wp2_with fail
  go_fit (kW _)
  rintro r w ⟨rfl, rfl⟩
  go_wp2_with fail
  go_fit (kAy _)
  rintro r w ⟨rfl, rfl⟩
  go_wp2_with fail
  go_fit (kAy _)
  rintro r w ⟨rfl, rfl⟩
  go_wp2
  go_loopw [7, 8, 9] (fun av rv nv w' => ∃ (a r n k : Nat), av = .float .f64 a ∧ rv = .float .f64 r ∧ nv = .int .i64 (n : Int) ∧ w' = w.drewN k ∧ n ≤ 9007199254740992 ∧ r < 18446744073709551616 ∧ Hid (Pw n (cl a) (cl r) C)) (fun _ _ nv _ => (RowKit.intOf nv).toNat)
  case atStart => exact ⟨x, _, K, 0, rfl, rfl, rfl, rfl, hK2, by decide, HC⟩
  case round =>
    obtain ⟨a, r, n, k, rfl, rfl, rfl, rfl, hn, hrl, HP⟩ := hrel
    by_cases hn0 : n = 0
    · subst hn0
      have hrC := HP.out.end
      have hz : ¬ (0 : Int) < ((0 : Nat) : Int) := by decide
      by_cases hs : FloatKind.f64.format.order y 0 = some .lt
      · have HR2 : Hid (fb .quo (some 4607182418800017408) C = R) := by
          have := HR.out
          unfold pwR at this
          rw [if_pos hs] at this
          exact this
        have HrC : Hid (cl r = C) := hrC
        clear hrC
        go_wp2
        go_ret
        refine ⟨_, _, rfl, rfl, fz_lt _ _ _ _, ?_⟩
        rw [cl_fz, cl_lit 4607182418800017408 (by decide), HrC.out]
        exact HR2.out
      · have hs' : (FloatKind.f64.format.order y 0 == some .lt) = false := beq_eq_false_iff_ne.2 hs
        have HR2 : Hid (C = R) := by
          have := HR.out
          unfold pwR at this
          rw [if_neg hs] at this
          exact this
        have HrC : Hid (cl r = C) := hrC
        clear hrC hs
        go_wp2
        go_ret
        exact ⟨_, _, rfl, rfl, hrl, HrC.out.trans HR2.out⟩
    · have hgt : (0 : Int) < (n : Int) := by omega
      obtain ⟨q, hq⟩ : ∃ q, n / 2 = q := ⟨_, rfl⟩
      have hst := HP.out.step hn0
      rw [hq] at hst
      have hd1 : (n : Int).tdiv 2 = (q : Int) := by rw [Int.tdiv_eq_ediv_of_nonneg (by omega)]; omega
      have hd2 : (n : Int) / 2 = (q : Int) := by omega
      have hqn : q < n := by omega
      clear hq
      by_cases ho : n % 2 = 1
      · rw [if_pos ho] at hst
        have hr1 : (n : Int).tmod 2 = 1 := by rw [Int.tmod_eq_emod_of_nonneg (by omega)]; omega
        have hr2 : (n : Int) % 2 = 1 := by omega
        by_cases hq0 : q = 0
        · rw [if_pos hq0] at hst
          subst hq0
          have hz : ¬ (0 : Int) < ((0 : Nat) : Int) := by decide
          have HS : Hid _ := hst
          clear hst ho
          go_wp2
          refine ⟨⟨a, _, 0, _, rfl, rfl, rfl, rfl, by omega, fz_lt _ _ _ _, ?_⟩, by simp only [RowKit.intOf]; omega⟩
          show Pw _ _ _ _
          rw [cl_fz]
          exact HS.out
        · rw [if_neg hq0] at hst
          have hz : (0 : Int) < (q : Int) := by omega
          have HS : Hid _ := hst
          clear hst ho
          go_wp2
          refine ⟨⟨_, _, q, _, rfl, rfl, rfl, rfl, by omega, fz_lt _ _ _ _, ?_⟩, by simp only [RowKit.intOf]; omega⟩
          show Pw _ _ _ _
          rw [cl_fz, cl_fz]
          exact HS.out
      · rw [if_neg ho] at hst
        have hr1 : (n : Int).tmod 2 = 0 := by rw [Int.tmod_eq_emod_of_nonneg (by omega)]; omega
        have hr2 : (n : Int) % 2 = 0 := by omega
        by_cases hq0 : q = 0
        · exfalso; omega
        · rw [if_neg hq0] at hst
          have hz : (0 : Int) < (q : Int) := by omega
          have HS : Hid _ := hst
          clear hst ho
          go_wp2
          refine ⟨⟨_, r, q, _, rfl, rfl, rfl, rfl, by omega, hrl, ?_⟩, by simp only [RowKit.intOf]; omega⟩
          show Pw _ _ _ _
          rw [cl_fz]
          exact HS.out
end Go.Proofs.YtebjklppbkkinaaGreatDoor.F
