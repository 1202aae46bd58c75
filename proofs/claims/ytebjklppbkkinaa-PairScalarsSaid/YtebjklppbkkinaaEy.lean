/- Exp on both sides. -/
import Derived.Test.YtebjklppbkkinaaEx
namespace Go.Proofs.Ytebjklppbkkinaa
open Go.RowKit Ieee

theorem cvN (n : Int) (w : World) : (convert 3 22 (.int .i64 n)).run Try.prog w = .ok (.float .f64 (iw n)) w := run_convert_int_float w 3 22 .i64 .f64 n (by rw [Try.underlying3]; rfl) Try.underlying22
/-- The series: behind n of its fourteen steps. -/
def exS (r : Option Nat) : Nat → Option Nat
  | 0 => some 4607182418800017408
  | n + 1 => fb .add (some 4607182418800017408) (fb .quo (fb .mul r (exS r n)) (some (iw (14 - (n : Int)))))
theorem good_exS (r : Option Nat) (n s : Nat) (h : cl s = exS r (n + 1)) : gdS s := by
  cases hn : nanB s with
  | true =>
    intro t m i hr
    unfold nanB at hn
    rw [hr] at hn
    cases hn
  | false =>
    rw [cl_num hn, exS] at h
    generalize fb .quo (fb .mul r (exS r n)) (some (iw (14 - (n : Int)))) = Q at h
    cases Q with
    | none => cases h
    | some q => exact good_add q s h.symm
/-- Exp's k. -/
def exK (x : Nat) : Nat := flr ((fb .add (fb .mul (cl x) (some 4609176140021203710)) (some 4602678819172646912)).getD 0)
def expF (x : Nat) : Option Nat :=
  if nanB x = true then none
  else if FloatKind.f64.format.order x 4649454530587146735 = some .gt then some 9218868437227405312
  else if FloatKind.f64.format.order x 13873137513782915154 = some .lt then some 0
  else scC (exS (fb .sub (fb .sub (cl x) (fb .mul (cl (exK x)) (some 4604418534312771584))) (fb .mul (cl (exK x)) (some 4455313330490472685))) 14) ((floatToIntVal .f64 (exK x) .i64).getD 0)

theorem rdInv : Ieee.double.read 4609176140021203710 = .number false 6497320848556798 (-52) := by decide +kernel
theorem inv_bd : 6497320848556798 * 2 ^ ((-52 : Int) + 1074).toNat * 2 ≤ 3 * U := by
  obtain ⟨C, hC⟩ : ∃ C : Nat, C = 2 ^ 1022 := ⟨_, rfl⟩
  have hU : U = C * 2 ^ 52 := pow_parts 1074 1022 52 U C (by decide) U_eq hC
  rw [show ((-52 : Int) + 1074).toNat = 1022 by decide, ← hC, hU]
  omega
theorem exp_parts (x : Nat) (hn : nanB x = false) (h1 : FloatKind.f64.format.order x 4649454530587146735 ≠ some .gt) (h2 : FloatKind.f64.format.order x 13873137513782915154 ≠ some .lt) :
    ∃ y1 y2 K, floatBits .mul .f64 x 4609176140021203710 = some y1 ∧ floatBits .add .f64 y1 4602678819172646912 = some y2 ∧ floatToIntVal .f64 (flr y2) .i64 = some K ∧ -1900 ≤ K ∧ K ≤ 1900 ∧ nanB y1 = false ∧ nanB y2 = false ∧
      expF x = scC (exS (fb .sub (fb .sub (cl x) (fb .mul (cl (flr y2)) (some 4604418534312771584))) (fb .mul (cl (flr y2)) (some 4455313330490472685))) 14) K := by
  have hb := exp_bd x hn h1 h2
  obtain ⟨y1, e1, b1⟩ := mul_bd x 4609176140021203710 746 1119 _ _ hb rdInv inv_bd (by decide) (by decide) (by decide)
  obtain ⟨y2, e2, b2⟩ := add_bd y1 1119 b1 (by decide)
  obtain ⟨K, hK, hK1, hK2⟩ := floor_bd y2 1120 b2 (by decide)
  have n1 := fb_num e1
  have n2 := fb_num e2
  refine ⟨y1, y2, K, e1, e2, hK, by omega, by omega, n1, n2, ?_⟩
  have ek : exK x = flr y2 := by
    unfold exK
    rw [← cl_lit 4609176140021203710 (by decide), ← fb_cl, e1, ← cl_num n1, ← cl_lit 4602678819172646912 (by decide), ← fb_cl, e2]
    rfl
  unfold expF
  rw [if_neg (by rw [hn]; decide), if_neg h1, if_neg h2, ek, hK]
  rfl

set_option maxHeartbeats 2000000 in
set_option maxRecDepth 100000 in
theorem exp_any (x : Nat) (w : World) : Calls Try.prog 42 #[.float .f64 x] w (RF w (expF x)) := by
  have kI := isNaN_any x
  have kN := nan_any
  cases hn : nanB x
  · rw [hn] at kI
    by_cases h1 : FloatKind.f64.format.order x 4649454530587146735 = some .gt
    · have E : Hid (expF x = some 9218868437227405312) := by show _ = _; unfold expF; rw [if_neg (by rw [hn]; decide), if_pos h1]
      go_enter Try.func42, Try.ntmps42
      go_wp2_with fail
      go_fit (kI _)
      rintro r w ⟨rfl, rfl⟩
      go_wp2_with fail
      go_fit (fromBits_any 4649454530587146735 _)
      rintro r w ⟨rfl, rfl⟩
      go_wp2_with fail
      go_fit (inf1_any _)
      rintro r w ⟨rfl, rfl⟩
      go_wp2
      go_ret
      exact ⟨_, 0, rfl, rfl, by decide, by rw [E.out]; exact cl_lit _ (by decide)⟩
    · have h1' : (FloatKind.f64.format.order x 4649454530587146735 == some .gt) = false := beq_eq_false_iff_ne.2 h1
      by_cases h2 : FloatKind.f64.format.order x 13873137513782915154 = some .lt
      · have E : Hid (expF x = some 0) := by show _ = _; unfold expF; rw [if_neg (by rw [hn]; decide), if_neg h1, if_pos h2]
        clear h1
        go_enter Try.func42, Try.ntmps42
        go_wp2_with fail
        go_fit (kI _)
        rintro r w ⟨rfl, rfl⟩
        go_wp2_with fail
        go_fit (fromBits_any 4649454530587146735 _)
        rintro r w ⟨rfl, rfl⟩
        go_wp2_with fail
        go_fit (fromBits_any 13873137513782915154 _)
        rintro r w ⟨rfl, rfl⟩
        go_wp2
        go_ret
        exact ⟨_, 0, rfl, rfl, by decide, by rw [E.out]; exact cl_lit _ (by decide)⟩
      · have h2' : (FloatKind.f64.format.order x 13873137513782915154 == some .lt) = false := beq_eq_false_iff_ne.2 h2
        obtain ⟨y1, y2, K, e1, e2, hK, hKb1, hKb2, hy1, hy2, hE⟩ := exp_parts x hn h1 h2
        have r1 : ∀ t w, (binOp .mul t (.float .f64 x) (.float .f64 4609176140021203710)).run Try.prog w = .ok (.float .f64 y1) w := fun t w => run_float_arith w .mul t .f64 _ _ _ e1
        have r2 : ∀ t w, (binOp .add t (.float .f64 y1) (.float .f64 4602678819172646912)).run Try.prog w = .ok (.float .f64 y2) w := fun t w => run_float_arith w .add t .f64 _ _ _ e2
        have r3 : ∀ w, (convert 22 3 (.float .f64 (flr y2))).run Try.prog w = .ok (.int .i64 K) w := fun w => run_convert_float_int w 22 3 .f64 .i64 _ K (by rw [Try.underlying22]; rfl) Try.underlying3 hK
        have kF := floor_num y2 hy2
        have HE : Hid _ := hE
        clear hE e1 e2 hK h1 h2
        generalize flr y2 = kw at *
        go_enter Try.func42, Try.ntmps42
        go_wp2_with fail
        go_fit (kI _)
        rintro r w ⟨rfl, rfl⟩
        go_wp2_with fail
        go_fit (fromBits_any 4649454530587146735 _)
        rintro r w ⟨rfl, rfl⟩
        go_wp2_with fail
        go_fit (fromBits_any 13873137513782915154 _)
        rintro r w ⟨rfl, rfl⟩
        go_wp2_with fail
        go_fit (fromBits_any 4609176140021203710 _)
        rintro r w ⟨rfl, rfl⟩
        go_wp2_with fail
        go_fit (kF _)
        rintro r w ⟨rfl, rfl⟩
        clear r1 r2
        have ha := @run_fadd Try.prog
        have hs := @run_fsub Try.prog
        have hm := @run_fmul Try.prog
        have hq := @run_fquo Try.prog
        have hcn := cvN
        go_wp2_with fail
        go_fit (fromBits_any 4604418534312771584 _)
        rintro r w ⟨rfl, rfl⟩
        go_wp2_with fail
        go_fit (fromBits_any 4455313330490472685 _)
        rintro r w ⟨rfl, rfl⟩
        have HR : Hid (∀ w w1 w2 w3, cl (fz .sub (fz .sub x (fz .mul kw 4604418534312771584 w) w1) (fz .mul kw 4455313330490472685 w2) w3) = fb .sub (fb .sub (cl x) (fb .mul (cl kw) (some 4604418534312771584))) (fb .mul (cl kw) (some 4455313330490472685))) := fun w w1 w2 w3 => by
          simp only [cl_fz]
          rw [cl_lit 4604418534312771584 (by decide), cl_lit 4455313330490472685 (by decide)]
        go_wp2
        obtain ⟨R, hR⟩ : ∃ R, R = fb .sub (fb .sub (cl x) (fb .mul (cl kw) (some 4604418534312771584))) (fb .mul (cl kw) (some 4455313330490472685)) := ⟨_, rfl⟩
        rw [← hR] at HE
        have HRe : Hid _ := hR
        clear hR HR
        have X0 : Hid (exS R 0 = some 4607182418800017408) := (rfl : exS R 0 = _)
        have XS : Hid (∀ n, exS R (n + 1) = fb .add (some 4607182418800017408) (fb .quo (fb .mul R (exS R n)) (some (iw (14 - (n : Int)))))) := fun n => rfl
        have XG : Hid (∀ n s, cl s = exS R (n + 1) → gdS s) := good_exS R
        generalize exS R = X at *
        go_loopw [5, 6] (fun sv iv w' => ∃ (j s k : Nat), iv = .int .i64 (14 - (j : Int)) ∧ j ≤ 14 ∧ sv = .float .f64 s ∧ s < 18446744073709551616 ∧ Hid (cl s = X j) ∧ w' = w.drewN k) (fun _ iv _ => (RowKit.intOf iv).toNat)
        case atStart => exact ⟨0, _, _, rfl, by omega, rfl, by decide, by show _ = _; rw [X0.out]; exact cl_lit _ (by decide), rfl⟩
        case round =>
          obtain ⟨j, s, k, rfl, hj, rfl, hsl, hst, rfl⟩ := hrel
          by_cases hlt : j < 14
          · have hii : (1 : Int) ≤ 14 - (j : Int) := by omega
            go_wp2
            refine ⟨⟨j + 1, _, _, by go_num, by omega, rfl, fz_lt _ _ _ _, ?_, rfl⟩, by simp [RowKit.intOf]; omega⟩
            show _ = _
            rw [XS.out]
            simp only [cl_fz]
            rw [cl_lit 4607182418800017408 (by decide), cl_lit 4604418534312771584 (by decide), cl_lit 4455313330490472685 (by decide), hst.out, iw_num, HRe.out]
          · have hii : ¬ (1 : Int) ≤ 14 - (j : Int) := by omega
            obtain rfl : j = 14 := by omega
            have hg := XG.out 13 s hst.out
            have kS := scaled_any s hg K hKb1 hKb2
            have hE2 : Hid (scC (cl s) K = expF x) := by show _ = _; rw [hst.out, HE.out]
            go_wp2_with fail
            go_fit (kS _)
            rintro r w2 ⟨z, kk, rfl, rfl, hzl, hzc⟩
            have HZ : Hid (cl z = expF x) := hzc.trans hE2.out
            clear hzc
            go_wp2
            go_ret
            exact ⟨_, _, rfl, rfl, hzl, HZ.out⟩
  · rw [hn] at kI
    have E : Hid (expF x = none) := by show _ = _; unfold expF; rw [if_pos hn]
    go_enter Try.func42, Try.ntmps42
    go_wp2_with fail
    go_fit (kI _)
    rintro r w ⟨rfl, rfl⟩
    go_wp2_with fail
    go_fit (kN _)
    rintro r w ⟨rfl, rfl⟩
    go_wp2
    go_ret
    exact ⟨_, 0, rfl, rfl, by decide, by rw [E.out]; exact cl_theNaN⟩
set_option maxHeartbeats 2000000 in
set_option maxRecDepth 100000 in
theorem rexp_any (x : Nat) (w : World) : Calls Try.prog 31 #[.float .f64 x] w (RF w (expF x)) := by
  have kI := bad_any x
  have kN := rnan_any
  cases hn : nanB x
  · rw [hn] at kI
    by_cases h1 : FloatKind.f64.format.order x 4649454530587146735 = some .gt
    · have E : Hid (expF x = some 9218868437227405312) := by show _ = _; unfold expF; rw [if_neg (by rw [hn]; decide), if_pos h1]
      go_enter Try.func31, Try.ntmps31
      go_wp2_with fail
      go_fit (kI _)
      rintro r w ⟨rfl, rfl⟩
      go_wp2_with fail
      go_fit (rbits_any 4649454530587146735 _)
      rintro r w ⟨rfl, rfl⟩
      go_wp2_with fail
      go_fit (rinf1_any _)
      rintro r w ⟨rfl, rfl⟩
      go_wp2
      go_ret
      exact ⟨_, 0, rfl, rfl, by decide, by rw [E.out]; exact cl_lit _ (by decide)⟩
    · have h1' : (FloatKind.f64.format.order x 4649454530587146735 == some .gt) = false := beq_eq_false_iff_ne.2 h1
      by_cases h2 : FloatKind.f64.format.order x 13873137513782915154 = some .lt
      · have E : Hid (expF x = some 0) := by show _ = _; unfold expF; rw [if_neg (by rw [hn]; decide), if_neg h1, if_pos h2]
        clear h1
        go_enter Try.func31, Try.ntmps31
        go_wp2_with fail
        go_fit (kI _)
        rintro r w ⟨rfl, rfl⟩
        go_wp2_with fail
        go_fit (rbits_any 4649454530587146735 _)
        rintro r w ⟨rfl, rfl⟩
        go_wp2_with fail
        go_fit (rbits_any 13873137513782915154 _)
        rintro r w ⟨rfl, rfl⟩
        go_wp2
        go_ret
        exact ⟨_, 0, rfl, rfl, by decide, by rw [E.out]; exact cl_lit _ (by decide)⟩
      · have h2' : (FloatKind.f64.format.order x 13873137513782915154 == some .lt) = false := beq_eq_false_iff_ne.2 h2
        obtain ⟨y1, y2, K, e1, e2, hK, hKb1, hKb2, hy1, hy2, hE⟩ := exp_parts x hn h1 h2
        have r1 : ∀ t w, (binOp .mul t (.float .f64 x) (.float .f64 4609176140021203710)).run Try.prog w = .ok (.float .f64 y1) w := fun t w => run_float_arith w .mul t .f64 _ _ _ e1
        have r2 : ∀ t w, (binOp .add t (.float .f64 y1) (.float .f64 4602678819172646912)).run Try.prog w = .ok (.float .f64 y2) w := fun t w => run_float_arith w .add t .f64 _ _ _ e2
        have r3 : ∀ w, (convert 22 3 (.float .f64 (flr y2))).run Try.prog w = .ok (.int .i64 K) w := fun w => run_convert_float_int w 22 3 .f64 .i64 _ K (by rw [Try.underlying22]; rfl) Try.underlying3 hK
        have kF := floor_num y2 hy2
        have HE : Hid _ := hE
        clear hE e1 e2 hK h1 h2
        generalize flr y2 = kw at *
        go_enter Try.func31, Try.ntmps31
        go_wp2_with fail
        go_fit (kI _)
        rintro r w ⟨rfl, rfl⟩
        go_wp2_with fail
        go_fit (rbits_any 4649454530587146735 _)
        rintro r w ⟨rfl, rfl⟩
        go_wp2_with fail
        go_fit (rbits_any 13873137513782915154 _)
        rintro r w ⟨rfl, rfl⟩
        go_wp2_with fail
        go_fit (rc80_any _)
        rintro r w ⟨rfl, rfl⟩
        go_wp2_with fail
        go_fit (kF _)
        rintro r w ⟨rfl, rfl⟩
        clear r1 r2
        have ha := @run_fadd Try.prog
        have hs := @run_fsub Try.prog
        have hm := @run_fmul Try.prog
        have hq := @run_fquo Try.prog
        have hcn := cvN
        go_wp2_with fail
        go_fit (rc81_any _)
        rintro r w ⟨rfl, rfl⟩
        go_wp2_with fail
        go_fit (rc82_any _)
        rintro r w ⟨rfl, rfl⟩
        have HR : Hid (∀ w w1 w2 w3, cl (fz .sub (fz .sub x (fz .mul kw 4604418534312771584 w) w1) (fz .mul kw 4455313330490472685 w2) w3) = fb .sub (fb .sub (cl x) (fb .mul (cl kw) (some 4604418534312771584))) (fb .mul (cl kw) (some 4455313330490472685))) := fun w w1 w2 w3 => by
          simp only [cl_fz]
          rw [cl_lit 4604418534312771584 (by decide), cl_lit 4455313330490472685 (by decide)]
        go_wp2
        obtain ⟨R, hR⟩ : ∃ R, R = fb .sub (fb .sub (cl x) (fb .mul (cl kw) (some 4604418534312771584))) (fb .mul (cl kw) (some 4455313330490472685)) := ⟨_, rfl⟩
        rw [← hR] at HE
        have HRe : Hid _ := hR
        clear hR HR
        have X0 : Hid (exS R 0 = some 4607182418800017408) := (rfl : exS R 0 = _)
        have XS : Hid (∀ n, exS R (n + 1) = fb .add (some 4607182418800017408) (fb .quo (fb .mul R (exS R n)) (some (iw (14 - (n : Int)))))) := fun n => rfl
        have XG : Hid (∀ n s, cl s = exS R (n + 1) → gdS s) := good_exS R
        generalize exS R = X at *
        go_loopw [5, 6] (fun sv iv w' => ∃ (j s k : Nat), iv = .int .i64 (14 - (j : Int)) ∧ j ≤ 14 ∧ sv = .float .f64 s ∧ s < 18446744073709551616 ∧ Hid (cl s = X j) ∧ w' = w.drewN k) (fun _ iv _ => (RowKit.intOf iv).toNat)
        case atStart => exact ⟨0, _, _, rfl, by omega, rfl, by decide, by show _ = _; rw [X0.out]; exact cl_lit _ (by decide), rfl⟩
        case round =>
          obtain ⟨j, s, k, rfl, hj, rfl, hsl, hst, rfl⟩ := hrel
          by_cases hlt : j < 14
          · have hii : (1 : Int) ≤ 14 - (j : Int) := by omega
            go_wp2
            refine ⟨⟨j + 1, _, _, by go_num, by omega, rfl, fz_lt _ _ _ _, ?_, rfl⟩, by simp [RowKit.intOf]; omega⟩
            show _ = _
            rw [XS.out]
            simp only [cl_fz]
            rw [cl_lit 4607182418800017408 (by decide), cl_lit 4604418534312771584 (by decide), cl_lit 4455313330490472685 (by decide), hst.out, iw_num, HRe.out]
          · have hii : ¬ (1 : Int) ≤ 14 - (j : Int) := by omega
            obtain rfl : j = 14 := by omega
            have hg := XG.out 13 s hst.out
            have kS := scale_any s hsl hg K hKb1 hKb2
            have hE2 : Hid (scC (cl s) K = expF x) := by show _ = _; rw [hst.out, HE.out]
            go_wp2_with fail
            go_fit (kS _)
            rintro r w2 ⟨z, kk, rfl, rfl, hzl, hzc⟩
            have HZ : Hid (cl z = expF x) := hzc.trans hE2.out
            clear hzc
            go_wp2
            go_ret
            exact ⟨_, _, rfl, rfl, hzl, HZ.out⟩
  · rw [hn] at kI
    have E : Hid (expF x = none) := by show _ = _; unfold expF; rw [if_pos hn]
    go_enter Try.func31, Try.ntmps31
    go_wp2_with fail
    go_fit (kI _)
    rintro r w ⟨rfl, rfl⟩
    go_wp2_with fail
    go_fit (kN _)
    rintro r w ⟨rfl, rfl⟩
    go_wp2
    go_ret
    exact ⟨_, 0, rfl, rfl, by decide, by rw [E.out]; exact cl_theNaN⟩
end Go.Proofs.Ytebjklppbkkinaa
