/- Powers by logarithms; Pow on both sides. -/
import Derived.Test.YtebjklppbkkinaaMs
namespace Go.Proofs.Ytebjklppbkkinaa
open Go.RowKit Ieee

/-- Exp of a class. -/
def expC (c : Option Nat) : Option Nat := c.bind expF
theorem expF_cl (z : Nat) : expF z = expC (cl z) := by
  cases hn : nanB z
  · rw [cl_num hn]; rfl
  · rw [cl_nan hn]
    unfold expF
    rw [if_pos hn]; rfl
/-- A class turned. -/
def ngC (c : Option Nat) : Option Nat := c.map (Op.negFloat .f64)
theorem neg_mod (z : Nat) : Op.negFloat .f64 z % 2 ^ 63 = z % 2 ^ 63 := by
  rw [neg_eq, Nat.xor_mod_two_pow, Nat.mod_self, Nat.xor_zero]
theorem cl_neg (z : Nat) : cl (Op.negFloat .f64 z) = ngC (cl z) := by
  have e : nanB (Op.negFloat .f64 z) = nanB z := by
    rw [nanB_eq, nanB_eq, neg_mod]
  cases hn : nanB z
  · rw [hn] at e
    rw [cl_num hn, cl_num e]; rfl
  · rw [hn] at e
    rw [cl_nan hn, cl_nan e]; rfl
theorem neg_lt (z : Nat) (h : z < 18446744073709551616) : Op.negFloat .f64 z < 18446744073709551616 := by
  rw [neg_eq]
  exact Nat.xor_lt_two_pow (n := 64) h (by decide)
set_option maxRecDepth 100000 in
set_option maxHeartbeats 2000000 in
theorem pow_logo (x y : Nat) (c : Option Nat) (h : Pf x y) (hw : whB y = true) (hgt : FloatKind.f64.format.order (y % 9223372036854775808) 4652218415073722368 = some .gt) (hs : FloatKind.f64.format.order x 0 = some .lt) (ho : odB y = true) (hl : ∀ w, Calls Try.prog 43 #[.float .f64 (x % 9223372036854775808)] w (RF w c)) (w : World) :
    Calls Try.prog 21 #[.float .f64 x, .float .f64 y] w (RF w (ngC (expC (fb .mul (some y) c)))) := by
  obtain ⟨hx, hy, hx0, hy0, hx1⟩ := h
  have hm := @run_fmul Try.prog
  have kA := isNaN_any x
  have kB := isNaN_any y
  have kI := isInf_any y hy.1
  have kX := isInf_any x hx.1
  have kW := isWhole_any y hy
  have kV := whole_ref y hy
  have kAy := abs_any y hy.1
  have kAx := abs_any x hx.1
  rw [hx.2.1] at kA
  rw [hy.2.1] at kB
  rw [hy.inf] at kI
  rw [hx.inf] at kX
  rw [hw] at kW kV
  have h1 := eq0_not y hy.1 hy0
  have h2 := eq0_not x hx.1 hx0
  have h3 := one_no x hx.1 hx1
  have hcy : Hid (cl y = some y) := cl_num hy.2.1
  have kO := isOdd_any y hy
  rw [ho] at kO
  have hng := @run_neg Try.prog
  generalize hR : ngC (expC (fb .mul (some y) c)) = R
  have HR : Hid (ngC (expC (fb .mul (some y) c)) = R) := hR
  clear hR hx0 hy0
  generalize y % 9223372036854775808 = y' at *
  generalize x % 9223372036854775808 = x' at *
  go_enter Try.func21, Try.ntmps21
  go_wp2_with fail
  go_fit (kA _)
  rintro r w ⟨rfl, rfl⟩
  go_wp2_with fail
  go_fit (kB _)
  rintro r w ⟨rfl, rfl⟩
  go_wp2_with fail
  go_fit (kI _)
  rintro r w ⟨rfl, rfl⟩
  go_wp2_with fail
  go_fit (kX _)
  rintro r w ⟨rfl, rfl⟩
  go_wp2_with fail
  go_fit (kW _)
  rintro r w ⟨rfl, rfl⟩
  go_wp2_with fail
  go_fit (kAy _)
  rintro r w ⟨rfl, rfl⟩
  go_wp2_with fail
  go_fit (kW _)
  rintro r w ⟨rfl, rfl⟩
  go_wp2_with fail
  go_fit (kAx _)
  rintro r w ⟨rfl, rfl⟩
  go_wp2_with fail
  go_fit (hl _)
  rintro r w2 ⟨z, k, rfl, rfl, hzl, hzc⟩
  have HZ : Hid (cl z = c) := hzc
  clear hzc
  go_wp2_with fail
  go_fit (exp_any _ _)
  rintro r w3 ⟨v, k2, rfl, rfl, hvl, hvc⟩
  have HV : Hid (cl v = expC (fb .mul (some y) c)) := by
    rw [expF_cl, cl_fz, hcy.out, HZ.out] at hvc
    exact hvc
  clear hvc
  go_wp2_with fail
  go_fit (kO _)
  rintro r w ⟨rfl, rfl⟩
  go_wp2
  go_ret
  refine ⟨_, _, rfl, rfl, neg_lt _ hvl, ?_⟩
  rw [cl_neg, HV.out]
  exact HR.out
set_option maxRecDepth 100000 in
set_option maxHeartbeats 2000000 in
theorem rpow_logo (x y : Nat) (c : Option Nat) (h : Pf x y) (hw : whB y = true) (hgt : FloatKind.f64.format.order (y % 9223372036854775808) 4652218415073722368 = some .gt) (hs : FloatKind.f64.format.order x 0 = some .lt) (ho : odB y = true) (hl : ∀ w, Calls Try.prog 32 #[.float .f64 (x % 9223372036854775808)] w (RF w c)) (w : World) :
    Calls Try.prog 19 #[.float .f64 x, .float .f64 y] w (RF w (ngC (expC (fb .mul (some y) c)))) := by
  have kE := edge_no x y h
  obtain ⟨hx, hy, hx0, hy0, hx1⟩ := h
  have hm := @run_fmul Try.prog
  have kA := isNaN_any x
  have kB := isNaN_any y
  have kI := isInf_any y hy.1
  have kX := isInf_any x hx.1
  have kW := isWhole_any y hy
  have kV := whole_ref y hy
  have kAy := abs_any y hy.1
  have kAx := abs_any x hx.1
  rw [hx.2.1] at kA
  rw [hy.2.1] at kB
  rw [hy.inf] at kI
  rw [hx.inf] at kX
  rw [hw] at kW kV
  have h1 := eq0_not y hy.1 hy0
  have h2 := eq0_not x hx.1 hx0
  have h3 := one_no x hx.1 hx1
  have hcy : Hid (cl y = some y) := cl_num hy.2.1
  have kO := odd_ref y hy
  rw [ho] at kO
  have hng := @run_neg Try.prog
  generalize hR : ngC (expC (fb .mul (some y) c)) = R
  have HR : Hid (ngC (expC (fb .mul (some y) c)) = R) := hR
  clear hR hx0 hy0
  generalize y % 9223372036854775808 = y' at *
  generalize x % 9223372036854775808 = x' at *
  go_enter Try.func19, Try.ntmps19
  go_wp2_with fail
  go_fit (kE _)
  rintro r w ⟨rfl, rfl⟩
  go_wp2_with fail
  go_fit (kV _)
  rintro r w ⟨rfl, rfl⟩
  go_wp2_with fail
  go_fit (kAy _)
  rintro r w ⟨rfl, rfl⟩
  go_wp2_with fail
  go_fit (kV _)
  rintro r w ⟨rfl, rfl⟩
  go_wp2_with fail
  go_fit (kAx _)
  rintro r w ⟨rfl, rfl⟩
  go_wp2_with fail
  go_fit (hl _)
  rintro r w2 ⟨z, k, rfl, rfl, hzl, hzc⟩
  have HZ : Hid (cl z = c) := hzc
  clear hzc
  go_wp2_with fail
  go_fit (rexp_any _ _)
  rintro r w3 ⟨v, k2, rfl, rfl, hvl, hvc⟩
  have HV : Hid (cl v = expC (fb .mul (some y) c)) := by
    rw [expF_cl, cl_fz, hcy.out, HZ.out] at hvc
    exact hvc
  clear hvc
  go_wp2_with fail
  go_fit (kO _)
  rintro r w ⟨rfl, rfl⟩
  go_wp2
  go_ret
  refine ⟨_, _, rfl, rfl, neg_lt _ hvl, ?_⟩
  rw [cl_neg, HV.out]
  exact HR.out
set_option maxRecDepth 100000 in
set_option maxHeartbeats 2000000 in
theorem pow_loge (x y : Nat) (c : Option Nat) (h : Pf x y) (hw : whB y = true) (hgt : FloatKind.f64.format.order (y % 9223372036854775808) 4652218415073722368 = some .gt) (hs : FloatKind.f64.format.order x 0 = some .lt) (ho : odB y = false) (hl : ∀ w, Calls Try.prog 43 #[.float .f64 (x % 9223372036854775808)] w (RF w c)) (w : World) :
    Calls Try.prog 21 #[.float .f64 x, .float .f64 y] w (RF w (expC (fb .mul (some y) c))) := by
  obtain ⟨hx, hy, hx0, hy0, hx1⟩ := h
  have hm := @run_fmul Try.prog
  have kA := isNaN_any x
  have kB := isNaN_any y
  have kI := isInf_any y hy.1
  have kX := isInf_any x hx.1
  have kW := isWhole_any y hy
  have kV := whole_ref y hy
  have kAy := abs_any y hy.1
  have kAx := abs_any x hx.1
  rw [hx.2.1] at kA
  rw [hy.2.1] at kB
  rw [hy.inf] at kI
  rw [hx.inf] at kX
  rw [hw] at kW kV
  have h1 := eq0_not y hy.1 hy0
  have h2 := eq0_not x hx.1 hx0
  have h3 := one_no x hx.1 hx1
  have hcy : Hid (cl y = some y) := cl_num hy.2.1
  have kO := isOdd_any y hy
  rw [ho] at kO
  generalize hR : expC (fb .mul (some y) c) = R
  have HR : Hid (expC (fb .mul (some y) c) = R) := hR
  clear hR hx0 hy0
  generalize y % 9223372036854775808 = y' at *
  generalize x % 9223372036854775808 = x' at *
  go_enter Try.func21, Try.ntmps21
  go_wp2_with fail
  go_fit (kA _)
  rintro r w ⟨rfl, rfl⟩
  go_wp2_with fail
  go_fit (kB _)
  rintro r w ⟨rfl, rfl⟩
  go_wp2_with fail
  go_fit (kI _)
  rintro r w ⟨rfl, rfl⟩
  go_wp2_with fail
  go_fit (kX _)
  rintro r w ⟨rfl, rfl⟩
  go_wp2_with fail
  go_fit (kW _)
  rintro r w ⟨rfl, rfl⟩
  go_wp2_with fail
  go_fit (kAy _)
  rintro r w ⟨rfl, rfl⟩
  go_wp2_with fail
  go_fit (kW _)
  rintro r w ⟨rfl, rfl⟩
  go_wp2_with fail
  go_fit (kAx _)
  rintro r w ⟨rfl, rfl⟩
  go_wp2_with fail
  go_fit (hl _)
  rintro r w2 ⟨z, k, rfl, rfl, hzl, hzc⟩
  have HZ : Hid (cl z = c) := hzc
  clear hzc
  go_wp2_with fail
  go_fit (exp_any _ _)
  rintro r w3 ⟨v, k2, rfl, rfl, hvl, hvc⟩
  have HV : Hid (cl v = expC (fb .mul (some y) c)) := by
    rw [expF_cl, cl_fz, hcy.out, HZ.out] at hvc
    exact hvc
  clear hvc
  go_wp2_with fail
  go_fit (kO _)
  rintro r w ⟨rfl, rfl⟩
  go_wp2
  go_ret
  refine ⟨_, _, rfl, rfl, hvl, ?_⟩
  rw [HV.out]
  exact HR.out
set_option maxRecDepth 100000 in
set_option maxHeartbeats 2000000 in
theorem rpow_loge (x y : Nat) (c : Option Nat) (h : Pf x y) (hw : whB y = true) (hgt : FloatKind.f64.format.order (y % 9223372036854775808) 4652218415073722368 = some .gt) (hs : FloatKind.f64.format.order x 0 = some .lt) (ho : odB y = false) (hl : ∀ w, Calls Try.prog 32 #[.float .f64 (x % 9223372036854775808)] w (RF w c)) (w : World) :
    Calls Try.prog 19 #[.float .f64 x, .float .f64 y] w (RF w (expC (fb .mul (some y) c))) := by
  have kE := edge_no x y h
  obtain ⟨hx, hy, hx0, hy0, hx1⟩ := h
  have hm := @run_fmul Try.prog
  have kA := isNaN_any x
  have kB := isNaN_any y
  have kI := isInf_any y hy.1
  have kX := isInf_any x hx.1
  have kW := isWhole_any y hy
  have kV := whole_ref y hy
  have kAy := abs_any y hy.1
  have kAx := abs_any x hx.1
  rw [hx.2.1] at kA
  rw [hy.2.1] at kB
  rw [hy.inf] at kI
  rw [hx.inf] at kX
  rw [hw] at kW kV
  have h1 := eq0_not y hy.1 hy0
  have h2 := eq0_not x hx.1 hx0
  have h3 := one_no x hx.1 hx1
  have hcy : Hid (cl y = some y) := cl_num hy.2.1
  have kO := odd_ref y hy
  rw [ho] at kO
  generalize hR : expC (fb .mul (some y) c) = R
  have HR : Hid (expC (fb .mul (some y) c) = R) := hR
  clear hR hx0 hy0
  generalize y % 9223372036854775808 = y' at *
  generalize x % 9223372036854775808 = x' at *
  go_enter Try.func19, Try.ntmps19
  go_wp2_with fail
  go_fit (kE _)
  rintro r w ⟨rfl, rfl⟩
  go_wp2_with fail
  go_fit (kV _)
  rintro r w ⟨rfl, rfl⟩
  go_wp2_with fail
  go_fit (kAy _)
  rintro r w ⟨rfl, rfl⟩
  go_wp2_with fail
  go_fit (kV _)
  rintro r w ⟨rfl, rfl⟩
  go_wp2_with fail
  go_fit (kAx _)
  rintro r w ⟨rfl, rfl⟩
  go_wp2_with fail
  go_fit (hl _)
  rintro r w2 ⟨z, k, rfl, rfl, hzl, hzc⟩
  have HZ : Hid (cl z = c) := hzc
  clear hzc
  go_wp2_with fail
  go_fit (rexp_any _ _)
  rintro r w3 ⟨v, k2, rfl, rfl, hvl, hvc⟩
  have HV : Hid (cl v = expC (fb .mul (some y) c)) := by
    rw [expF_cl, cl_fz, hcy.out, HZ.out] at hvc
    exact hvc
  clear hvc
  go_wp2_with fail
  go_fit (kO _)
  rintro r w ⟨rfl, rfl⟩
  go_wp2
  go_ret
  refine ⟨_, _, rfl, rfl, hvl, ?_⟩
  rw [HV.out]
  exact HR.out
set_option maxRecDepth 100000 in
set_option maxHeartbeats 2000000 in
theorem pow_logp (x y : Nat) (c : Option Nat) (h : Pf x y) (hw : whB y = true) (hgt : FloatKind.f64.format.order (y % 9223372036854775808) 4652218415073722368 = some .gt) (hs : FloatKind.f64.format.order x 0 = some .gt) (hl : ∀ w, Calls Try.prog 43 #[.float .f64 (x % 9223372036854775808)] w (RF w c)) (w : World) :
    Calls Try.prog 21 #[.float .f64 x, .float .f64 y] w (RF w (expC (fb .mul (some y) c))) := by
  obtain ⟨hx, hy, hx0, hy0, hx1⟩ := h
  have hm := @run_fmul Try.prog
  have kA := isNaN_any x
  have kB := isNaN_any y
  have kI := isInf_any y hy.1
  have kX := isInf_any x hx.1
  have kW := isWhole_any y hy
  have kV := whole_ref y hy
  have kAy := abs_any y hy.1
  have kAx := abs_any x hx.1
  rw [hx.2.1] at kA
  rw [hy.2.1] at kB
  rw [hy.inf] at kI
  rw [hx.inf] at kX
  rw [hw] at kW kV
  have h1 := eq0_not y hy.1 hy0
  have h2 := eq0_not x hx.1 hx0
  have h3 := one_no x hx.1 hx1
  have hcy : Hid (cl y = some y) := cl_num hy.2.1
  generalize hR : expC (fb .mul (some y) c) = R
  have HR : Hid (expC (fb .mul (some y) c) = R) := hR
  clear hR hx0 hy0
  generalize y % 9223372036854775808 = y' at *
  generalize x % 9223372036854775808 = x' at *
  go_enter Try.func21, Try.ntmps21
  go_wp2_with fail
  go_fit (kA _)
  rintro r w ⟨rfl, rfl⟩
  go_wp2_with fail
  go_fit (kB _)
  rintro r w ⟨rfl, rfl⟩
  go_wp2_with fail
  go_fit (kI _)
  rintro r w ⟨rfl, rfl⟩
  go_wp2_with fail
  go_fit (kX _)
  rintro r w ⟨rfl, rfl⟩
  go_wp2_with fail
  go_fit (kW _)
  rintro r w ⟨rfl, rfl⟩
  go_wp2_with fail
  go_fit (kAy _)
  rintro r w ⟨rfl, rfl⟩
  go_wp2_with fail
  go_fit (kAx _)
  rintro r w ⟨rfl, rfl⟩
  go_wp2_with fail
  go_fit (hl _)
  rintro r w2 ⟨z, k, rfl, rfl, hzl, hzc⟩
  have HZ : Hid (cl z = c) := hzc
  clear hzc
  go_wp2_with fail
  go_fit (exp_any _ _)
  rintro r w3 ⟨v, k2, rfl, rfl, hvl, hvc⟩
  have HV : Hid (cl v = expC (fb .mul (some y) c)) := by
    rw [expF_cl, cl_fz, hcy.out, HZ.out] at hvc
    exact hvc
  clear hvc
  go_wp2
  go_ret
  refine ⟨_, _, rfl, rfl, hvl, ?_⟩
  rw [HV.out]
  exact HR.out
set_option maxRecDepth 100000 in
set_option maxHeartbeats 2000000 in
theorem rpow_logp (x y : Nat) (c : Option Nat) (h : Pf x y) (hw : whB y = true) (hgt : FloatKind.f64.format.order (y % 9223372036854775808) 4652218415073722368 = some .gt) (hs : FloatKind.f64.format.order x 0 = some .gt) (hl : ∀ w, Calls Try.prog 32 #[.float .f64 (x % 9223372036854775808)] w (RF w c)) (w : World) :
    Calls Try.prog 19 #[.float .f64 x, .float .f64 y] w (RF w (expC (fb .mul (some y) c))) := by
  have kE := edge_no x y h
  obtain ⟨hx, hy, hx0, hy0, hx1⟩ := h
  have hm := @run_fmul Try.prog
  have kA := isNaN_any x
  have kB := isNaN_any y
  have kI := isInf_any y hy.1
  have kX := isInf_any x hx.1
  have kW := isWhole_any y hy
  have kV := whole_ref y hy
  have kAy := abs_any y hy.1
  have kAx := abs_any x hx.1
  rw [hx.2.1] at kA
  rw [hy.2.1] at kB
  rw [hy.inf] at kI
  rw [hx.inf] at kX
  rw [hw] at kW kV
  have h1 := eq0_not y hy.1 hy0
  have h2 := eq0_not x hx.1 hx0
  have h3 := one_no x hx.1 hx1
  have hcy : Hid (cl y = some y) := cl_num hy.2.1
  generalize hR : expC (fb .mul (some y) c) = R
  have HR : Hid (expC (fb .mul (some y) c) = R) := hR
  clear hR hx0 hy0
  generalize y % 9223372036854775808 = y' at *
  generalize x % 9223372036854775808 = x' at *
  go_enter Try.func19, Try.ntmps19
  go_wp2_with fail
  go_fit (kE _)
  rintro r w ⟨rfl, rfl⟩
  go_wp2_with fail
  go_fit (kV _)
  rintro r w ⟨rfl, rfl⟩
  go_wp2_with fail
  go_fit (kAy _)
  rintro r w ⟨rfl, rfl⟩
  go_wp2_with fail
  go_fit (kAx _)
  rintro r w ⟨rfl, rfl⟩
  go_wp2_with fail
  go_fit (hl _)
  rintro r w2 ⟨z, k, rfl, rfl, hzl, hzc⟩
  have HZ : Hid (cl z = c) := hzc
  clear hzc
  go_wp2_with fail
  go_fit (rexp_any _ _)
  rintro r w3 ⟨v, k2, rfl, rfl, hvl, hvc⟩
  have HV : Hid (cl v = expC (fb .mul (some y) c)) := by
    rw [expF_cl, cl_fz, hcy.out, HZ.out] at hvc
    exact hvc
  clear hvc
  go_wp2
  go_ret
  refine ⟨_, _, rfl, rfl, hvl, ?_⟩
  rw [HV.out]
  exact HR.out
set_option maxRecDepth 100000 in
set_option maxHeartbeats 2000000 in
theorem pow_logw (x y : Nat) (c : Option Nat) (h : Pf x y) (hw : whB y = false) (hs : FloatKind.f64.format.order x 0 = some .gt) (hl : ∀ w, Calls Try.prog 43 #[.float .f64 (x % 9223372036854775808)] w (RF w c)) (w : World) :
    Calls Try.prog 21 #[.float .f64 x, .float .f64 y] w (RF w (expC (fb .mul (some y) c))) := by
  obtain ⟨hx, hy, hx0, hy0, hx1⟩ := h
  have hm := @run_fmul Try.prog
  have kA := isNaN_any x
  have kB := isNaN_any y
  have kI := isInf_any y hy.1
  have kX := isInf_any x hx.1
  have kW := isWhole_any y hy
  have kV := whole_ref y hy
  have kAy := abs_any y hy.1
  have kAx := abs_any x hx.1
  rw [hx.2.1] at kA
  rw [hy.2.1] at kB
  rw [hy.inf] at kI
  rw [hx.inf] at kX
  rw [hw] at kW kV
  have h1 := eq0_not y hy.1 hy0
  have h2 := eq0_not x hx.1 hx0
  have h3 := one_no x hx.1 hx1
  have hcy : Hid (cl y = some y) := cl_num hy.2.1
  generalize hR : expC (fb .mul (some y) c) = R
  have HR : Hid (expC (fb .mul (some y) c) = R) := hR
  clear hR hx0 hy0
  generalize y % 9223372036854775808 = y' at *
  generalize x % 9223372036854775808 = x' at *
  go_enter Try.func21, Try.ntmps21
  go_wp2_with fail
  go_fit (kA _)
  rintro r w ⟨rfl, rfl⟩
  go_wp2_with fail
  go_fit (kB _)
  rintro r w ⟨rfl, rfl⟩
  go_wp2_with fail
  go_fit (kI _)
  rintro r w ⟨rfl, rfl⟩
  go_wp2_with fail
  go_fit (kX _)
  rintro r w ⟨rfl, rfl⟩
  go_wp2_with fail
  go_fit (kW _)
  rintro r w ⟨rfl, rfl⟩
  go_wp2_with fail
  go_fit (kAx _)
  rintro r w ⟨rfl, rfl⟩
  go_wp2_with fail
  go_fit (hl _)
  rintro r w2 ⟨z, k, rfl, rfl, hzl, hzc⟩
  have HZ : Hid (cl z = c) := hzc
  clear hzc
  go_wp2_with fail
  go_fit (exp_any _ _)
  rintro r w3 ⟨v, k2, rfl, rfl, hvl, hvc⟩
  have HV : Hid (cl v = expC (fb .mul (some y) c)) := by
    rw [expF_cl, cl_fz, hcy.out, HZ.out] at hvc
    exact hvc
  clear hvc
  go_wp2
  go_ret
  refine ⟨_, _, rfl, rfl, hvl, ?_⟩
  rw [HV.out]
  exact HR.out
set_option maxRecDepth 100000 in
set_option maxHeartbeats 2000000 in
theorem rpow_logw (x y : Nat) (c : Option Nat) (h : Pf x y) (hw : whB y = false) (hs : FloatKind.f64.format.order x 0 = some .gt) (hl : ∀ w, Calls Try.prog 32 #[.float .f64 (x % 9223372036854775808)] w (RF w c)) (w : World) :
    Calls Try.prog 19 #[.float .f64 x, .float .f64 y] w (RF w (expC (fb .mul (some y) c))) := by
  have kE := edge_no x y h
  obtain ⟨hx, hy, hx0, hy0, hx1⟩ := h
  have hm := @run_fmul Try.prog
  have kA := isNaN_any x
  have kB := isNaN_any y
  have kI := isInf_any y hy.1
  have kX := isInf_any x hx.1
  have kW := isWhole_any y hy
  have kV := whole_ref y hy
  have kAy := abs_any y hy.1
  have kAx := abs_any x hx.1
  rw [hx.2.1] at kA
  rw [hy.2.1] at kB
  rw [hy.inf] at kI
  rw [hx.inf] at kX
  rw [hw] at kW kV
  have h1 := eq0_not y hy.1 hy0
  have h2 := eq0_not x hx.1 hx0
  have h3 := one_no x hx.1 hx1
  have hcy : Hid (cl y = some y) := cl_num hy.2.1
  generalize hR : expC (fb .mul (some y) c) = R
  have HR : Hid (expC (fb .mul (some y) c) = R) := hR
  clear hR hx0 hy0
  generalize y % 9223372036854775808 = y' at *
  generalize x % 9223372036854775808 = x' at *
  go_enter Try.func19, Try.ntmps19
  go_wp2_with fail
  go_fit (kE _)
  rintro r w ⟨rfl, rfl⟩
  go_wp2_with fail
  go_fit (kV _)
  rintro r w ⟨rfl, rfl⟩
  go_wp2_with fail
  go_fit (kAx _)
  rintro r w ⟨rfl, rfl⟩
  go_wp2_with fail
  go_fit (hl _)
  rintro r w2 ⟨z, k, rfl, rfl, hzl, hzc⟩
  have HZ : Hid (cl z = c) := hzc
  clear hzc
  go_wp2_with fail
  go_fit (rexp_any _ _)
  rintro r w3 ⟨v, k2, rfl, rfl, hvl, hvc⟩
  have HV : Hid (cl v = expC (fb .mul (some y) c)) := by
    rw [expF_cl, cl_fz, hcy.out, HZ.out] at hvc
    exact hvc
  clear hvc
  go_wp2
  go_ret
  refine ⟨_, _, rfl, rfl, hvl, ?_⟩
  rw [HV.out]
  exact HR.out
set_option maxRecDepth 100000 in
set_option maxHeartbeats 2000000 in
theorem pow_nan (x y : Nat) (h : Pf x y) (hw : whB y = false) (hs : FloatKind.f64.format.order x 0 = some .lt) (w : World) : Calls Try.prog 21 #[.float .f64 x, .float .f64 y] w (RF w none) := by
  obtain ⟨hx, hy, hx0, hy0, hx1⟩ := h
  have hm := @run_fmul Try.prog
  have kA := isNaN_any x
  have kB := isNaN_any y
  have kI := isInf_any y hy.1
  have kX := isInf_any x hx.1
  have kW := isWhole_any y hy
  have kV := whole_ref y hy
  have kAy := abs_any y hy.1
  have kAx := abs_any x hx.1
  rw [hx.2.1] at kA
  rw [hy.2.1] at kB
  rw [hy.inf] at kI
  rw [hx.inf] at kX
  rw [hw] at kW kV
  have h1 := eq0_not y hy.1 hy0
  have h2 := eq0_not x hx.1 hx0
  have h3 := one_no x hx.1 hx1
  have hcy : Hid (cl y = some y) := cl_num hy.2.1
  have kN := nan_any
  clear hx0 hy0
  go_enter Try.func21, Try.ntmps21
  go_wp2_with fail
  go_fit (kA _)
  rintro r w ⟨rfl, rfl⟩
  go_wp2_with fail
  go_fit (kB _)
  rintro r w ⟨rfl, rfl⟩
  go_wp2_with fail
  go_fit (kI _)
  rintro r w ⟨rfl, rfl⟩
  go_wp2_with fail
  go_fit (kX _)
  rintro r w ⟨rfl, rfl⟩
  go_wp2_with fail
  go_fit (kW _)
  rintro r w ⟨rfl, rfl⟩
  go_wp2_with fail
  go_fit (kW _)
  rintro r w ⟨rfl, rfl⟩
  go_wp2_with fail
  go_fit (kN _)
  rintro r w ⟨rfl, rfl⟩
  go_wp2
  go_ret
  exact ⟨_, 0, rfl, rfl, by decide, cl_theNaN⟩
set_option maxRecDepth 100000 in
set_option maxHeartbeats 2000000 in
theorem rpow_nan (x y : Nat) (h : Pf x y) (hw : whB y = false) (hs : FloatKind.f64.format.order x 0 = some .lt) (w : World) : Calls Try.prog 19 #[.float .f64 x, .float .f64 y] w (RF w none) := by
  have kE := edge_no x y h
  obtain ⟨hx, hy, hx0, hy0, hx1⟩ := h
  have hm := @run_fmul Try.prog
  have kA := isNaN_any x
  have kB := isNaN_any y
  have kI := isInf_any y hy.1
  have kX := isInf_any x hx.1
  have kW := isWhole_any y hy
  have kV := whole_ref y hy
  have kAy := abs_any y hy.1
  have kAx := abs_any x hx.1
  rw [hx.2.1] at kA
  rw [hy.2.1] at kB
  rw [hy.inf] at kI
  rw [hx.inf] at kX
  rw [hw] at kW kV
  have h1 := eq0_not y hy.1 hy0
  have h2 := eq0_not x hx.1 hx0
  have h3 := one_no x hx.1 hx1
  have hcy : Hid (cl y = some y) := cl_num hy.2.1
  have kN := rnan_any
  clear hx0 hy0
  go_enter Try.func19, Try.ntmps19
  go_wp2_with fail
  go_fit (kE _)
  rintro r w ⟨rfl, rfl⟩
  go_wp2_with fail
  go_fit (kV _)
  rintro r w ⟨rfl, rfl⟩
  go_wp2_with fail
  go_fit (kV _)
  rintro r w ⟨rfl, rfl⟩
  go_wp2_with fail
  go_fit (kN _)
  rintro r w ⟨rfl, rfl⟩
  go_wp2
  go_ret
  exact ⟨_, 0, rfl, rfl, by decide, cl_theNaN⟩
end Go.Proofs.Ytebjklppbkkinaa
