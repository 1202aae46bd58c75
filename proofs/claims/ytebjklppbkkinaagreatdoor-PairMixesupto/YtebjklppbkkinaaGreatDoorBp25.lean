/- A bundle of texts. -/
import Derived.Test.YtebjklppbkkinaaGreatDoorBp24
/- Powers by logarithms; Pow on both sides. -/
namespace Go.Proofs.YtebjklppbkkinaaGreatDoor.F
open Go.RowKit Ieee

/-- Exp of a class. -/
def expC (c : Option Nat) : Option Nat := c.bind expF
theorem expF_cl (z : Nat) : expF z = expC (cl z) := by
  cases hn : nanB z
  · rw [cl_num hn]; rfl
  · rw [cl_nan hn]
    unfold expF
    rw [if_pos hn]; rfl
/-- A class turned. -/
def ngC (c : Option Nat) : Option Nat := c.map (Op.negFloat .f64)
theorem neg_mod (z : Nat) : Op.negFloat .f64 z % 2 ^ 63 = z % 2 ^ 63 := by
  rw [neg_eq, Nat.xor_mod_two_pow, Nat.mod_self, Nat.xor_zero]
theorem cl_neg (z : Nat) : cl (Op.negFloat .f64 z) = ngC (cl z) := by
  have e : nanB (Op.negFloat .f64 z) = nanB z := by
    rw [nanB_eq, nanB_eq, neg_mod]
  cases hn : nanB z
  · rw [hn] at e
    rw [cl_num hn, cl_num e]; rfl
  · rw [hn] at e
    rw [cl_nan hn, cl_nan e]; rfl
theorem neg_lt (z : Nat) (h : z < 18446744073709551616) : Op.negFloat .f64 z < 18446744073709551616 := by
  rw [neg_eq]
  exact Nat.xor_lt_two_pow (n := 64) h (by decide)
set_option maxRecDepth 100000 in
set_option maxHeartbeats 2000000 in
theorem pow_logo (x y : Nat) (c : Option Nat) (h : Pf x y) (hw : whB y = true) (hgt : FloatKind.f64.format.order (y % 9223372036854775808) 4652218415073722368 = some .gt) (hs : FloatKind.f64.format.order x 0 = some .lt) (ho : odB y = true) (hl : ∀ w, Calls Tryz.prog 126 #[.float .f64 (x % 9223372036854775808)] w (RF w c)) (w : World) :
    Calls Tryz.prog 80 #[.float .f64 x, .float .f64 y] w (RF w (ngC (expC (fb .mul (some y) c)))) := by
  obtain ⟨hx, hy, hx0, hy0, hx1⟩ := h
  have hm := @run_fmul Tryz.prog
  have kA := isNaN_any x
  have kB := isNaN_any y
  have kI := isInf_any y hy.1
  have kX := isInf_any x hx.1
  have kW := isWhole_any y hy
  have kV := whole_ref y hy
  have kAy := abs_any y hy.1
  have kAx := abs_any x hx.1
  rw [hx.2.1] at kA
  rw [hy.2.1] at kB
  rw [hy.inf] at kI
  rw [hx.inf] at kX
  rw [hw] at kW kV
  have h1 := eq0_not y hy.1 hy0
  have h2 := eq0_not x hx.1 hx0
  have h3 := one_no x hx.1 hx1
  have hcy : Hid (cl y = some y) := cl_num hy.2.1
  have kO := isOdd_any y hy
  rw [ho] at kO
  have hng := @run_neg Tryz.prog
  generalize hR : ngC (expC (fb .mul (some y) c)) = R
  have HR : Hid (ngC (expC (fb .mul (some y) c)) = R) := hR
  clear hR hx0 hy0
  generalize y % 9223372036854775808 = y' at *
  generalize x % 9223372036854775808 = x' at *
  go_enter Tryz.func80, Tryz.ntmps80
  go_wp2_with fail
  go_fit (kA _)
  rintro r w ⟨rfl, rfl⟩
  go_wp2_with fail
  go_fit (kB _)
  rintro r w ⟨rfl, rfl⟩
  go_wp2_with fail
  go_fit (kI _)
  rintro r w ⟨rfl, rfl⟩
  go_wp2_with fail
  go_fit (kX _)
  rintro r w ⟨rfl, rfl⟩
  go_wp2_with fail
  go_fit (kW _)
  rintro r w ⟨rfl, rfl⟩
  go_wp2_with fail
  go_fit (kAy _)
  rintro r w ⟨rfl, rfl⟩
  go_wp2_with fail
  go_fit (kW _)
  rintro r w ⟨rfl, rfl⟩
  go_wp2_with fail
  go_fit (kAx _)
  rintro r w ⟨rfl, rfl⟩
  go_wp2_with fail
  go_fit (hl _)
  rintro r w2 ⟨z, k, rfl, rfl, hzl, hzc⟩
  have HZ : Hid (cl z = c) := hzc
  clear hzc
  go_wp2_with fail
  go_fit (exp_any _ _)
  rintro r w3 ⟨v, k2, rfl, rfl, hvl, hvc⟩
  have HV : Hid (cl v = expC (fb .mul (some y) c)) := by
    rw [expF_cl, cl_fz, hcy.out, HZ.out] at hvc
    exact hvc
  clear hvc
  go_wp2_with fail
  go_fit (kO _)
  rintro r w ⟨rfl, rfl⟩
  go_wp2
  go_ret
  refine ⟨_, _, rfl, rfl, neg_lt _ hvl, ?_⟩
  rw [cl_neg, HV.out]
  exact HR.out
set_option maxRecDepth 100000 in
set_option maxHeartbeats 2000000 in
theorem rpow_logo (x y : Nat) (c : Option Nat) (h : Pf x y) (hw : whB y = true) (hgt : FloatKind.f64.format.order (y % 9223372036854775808) 4652218415073722368 = some .gt) (hs : FloatKind.f64.format.order x 0 = some .lt) (ho : odB y = true) (hl : ∀ w, Calls Tryz.prog 141 #[.float .f64 (x % 9223372036854775808)] w (RF w c)) (w : World) :
    Calls Tryz.prog 87 #[.float .f64 x, .float .f64 y] w (RF w (ngC (expC (fb .mul (some y) c)))) := by
  have kE := edge_no x y h
  obtain ⟨hx, hy, hx0, hy0, hx1⟩ := h
  have hm := @run_fmul Tryz.prog
  have kA := isNaN_any x
  have kB := isNaN_any y
  have kI := isInf_any y hy.1
  have kX := isInf_any x hx.1
  have kW := isWhole_any y hy
  have kV := whole_ref y hy
  have kAy := abs_any y hy.1
  have kAx := abs_any x hx.1
  rw [hx.2.1] at kA
  rw [hy.2.1] at kB
  rw [hy.inf] at kI
  rw [hx.inf] at kX
  rw [hw] at kW kV
  have h1 := eq0_not y hy.1 hy0
  have h2 := eq0_not x hx.1 hx0
  have h3 := one_no x hx.1 hx1
  have hcy : Hid (cl y = some y) := cl_num hy.2.1
  have kO := odd_ref y hy
  rw [ho] at kO
  have hng := @run_neg Tryz.prog
  generalize hR : ngC (expC (fb .mul (some y) c)) = R
  have HR : Hid (ngC (expC (fb .mul (some y) c)) = R) := hR
  clear hR hx0 hy0
  generalize y % 9223372036854775808 = y' at *
  generalize x % 9223372036854775808 = x' at *
  go_enter Tryz.func87, Tryz.ntmps87
  go_wp2_with fail
  go_fit (kE _)
  rintro r w ⟨rfl, rfl⟩
  go_wp2_with fail
  go_fit (kV _)
  rintro r w ⟨rfl, rfl⟩
  go_wp2_with fail
  go_fit (kAy _)
  rintro r w ⟨rfl, rfl⟩
  go_wp2_with fail
  go_fit (kV _)
  rintro r w ⟨rfl, rfl⟩
  go_wp2_with fail
  go_fit (kAx _)
  rintro r w ⟨rfl, rfl⟩
  go_wp2_with fail
  go_fit (hl _)
  rintro r w2 ⟨z, k, rfl, rfl, hzl, hzc⟩
  have HZ : Hid (cl z = c) := hzc
  clear hzc
  go_wp2_with fail
  go_fit (rexp_any _ _)
  rintro r w3 ⟨v, k2, rfl, rfl, hvl, hvc⟩
  have HV : Hid (cl v = expC (fb .mul (some y) c)) := by
    rw [expF_cl, cl_fz, hcy.out, HZ.out] at hvc
    exact hvc
  clear hvc
  go_wp2_with fail
  go_fit (kO _)
  rintro r w ⟨rfl, rfl⟩
  go_wp2
  go_ret
  refine ⟨_, _, rfl, rfl, neg_lt _ hvl, ?_⟩
  rw [cl_neg, HV.out]
  exact HR.out
set_option maxRecDepth 100000 in
set_option maxHeartbeats 2000000 in
theorem pow_loge (x y : Nat) (c : Option Nat) (h : Pf x y) (hw : whB y = true) (hgt : FloatKind.f64.format.order (y % 9223372036854775808) 4652218415073722368 = some .gt) (hs : FloatKind.f64.format.order x 0 = some .lt) (ho : odB y = false) (hl : ∀ w, Calls Tryz.prog 126 #[.float .f64 (x % 9223372036854775808)] w (RF w c)) (w : World) :
    Calls Tryz.prog 80 #[.float .f64 x, .float .f64 y] w (RF w (expC (fb .mul (some y) c))) := by
  obtain ⟨hx, hy, hx0, hy0, hx1⟩ := h
  have hm := @run_fmul Tryz.prog
  have kA := isNaN_any x
  have kB := isNaN_any y
  have kI := isInf_any y hy.1
  have kX := isInf_any x hx.1
  have kW := isWhole_any y hy
  have kV := whole_ref y hy
  have kAy := abs_any y hy.1
  have kAx := abs_any x hx.1
  rw [hx.2.1] at kA
  rw [hy.2.1] at kB
  rw [hy.inf] at kI
  rw [hx.inf] at kX
  rw [hw] at kW kV
  have h1 := eq0_not y hy.1 hy0
  have h2 := eq0_not x hx.1 hx0
  have h3 := one_no x hx.1 hx1
  have hcy : Hid (cl y = some y) := cl_num hy.2.1
  have kO := isOdd_any y hy
  rw [ho] at kO
  generalize hR : expC (fb .mul (some y) c) = R
  have HR : Hid (expC (fb .mul (some y) c) = R) := hR
  clear hR hx0 hy0
  generalize y % 9223372036854775808 = y' at *
  generalize x % 9223372036854775808 = x' at *
  go_enter Tryz.func80, Tryz.ntmps80
  go_wp2_with fail
  go_fit (kA _)
  rintro r w ⟨rfl, rfl⟩
  go_wp2_with fail
  go_fit (kB _)
  rintro r w ⟨rfl, rfl⟩
  go_wp2_with fail
  go_fit (kI _)
  rintro r w ⟨rfl, rfl⟩
  go_wp2_with fail
  go_fit (kX _)
  rintro r w ⟨rfl, rfl⟩
  go_wp2_with fail
  go_fit (kW _)
  rintro r w ⟨rfl, rfl⟩
  go_wp2_with fail
  go_fit (kAy _)
  rintro r w ⟨rfl, rfl⟩
  go_wp2_with fail
  go_fit (kW _)
  rintro r w ⟨rfl, rfl⟩
  go_wp2_with fail
  go_fit (kAx _)
  rintro r w ⟨rfl, rfl⟩
  go_wp2_with fail
  go_fit (hl _)
  rintro r w2 ⟨z, k, rfl, rfl, hzl, hzc⟩
  have HZ : Hid (cl z = c) := hzc
  clear hzc
  go_wp2_with fail
  go_fit (exp_any _ _)
  rintro r w3 ⟨v, k2, rfl, rfl, hvl, hvc⟩
  have HV : Hid (cl v = expC (fb .mul (some y) c)) := by
    rw [expF_cl, cl_fz, hcy.out, HZ.out] at hvc
    exact hvc
  clear hvc
  go_wp2_with fail
  go_fit (kO _)
  rintro r w ⟨rfl, rfl⟩
  go_wp2
  go_ret
  refine ⟨_, _, rfl, rfl, hvl, ?_⟩
  rw [HV.out]
  exact HR.out
set_option maxRecDepth 100000 in
set_option maxHeartbeats 2000000 in
theorem rpow_loge (x y : Nat) (c : Option Nat) (h : Pf x y) (hw : whB y = true) (hgt : FloatKind.f64.format.order (y % 9223372036854775808) 4652218415073722368 = some .gt) (hs : FloatKind.f64.format.order x 0 = some .lt) (ho : odB y = false) (hl : ∀ w, Calls Tryz.prog 141 #[.float .f64 (x % 9223372036854775808)] w (RF w c)) (w : World) :
    Calls Tryz.prog 87 #[.float .f64 x, .float .f64 y] w (RF w (expC (fb .mul (some y) c))) := by
  have kE := edge_no x y h
  obtain ⟨hx, hy, hx0, hy0, hx1⟩ := h
  have hm := @run_fmul Tryz.prog
  have kA := isNaN_any x
  have kB := isNaN_any y
  have kI := isInf_any y hy.1
  have kX := isInf_any x hx.1
  have kW := isWhole_any y hy
  have kV := whole_ref y hy
  have kAy := abs_any y hy.1
  have kAx := abs_any x hx.1
  rw [hx.2.1] at kA
  rw [hy.2.1] at kB
  rw [hy.inf] at kI
  rw [hx.inf] at kX
  rw [hw] at kW kV
  have h1 := eq0_not y hy.1 hy0
  have h2 := eq0_not x hx.1 hx0
  have h3 := one_no x hx.1 hx1
  have hcy : Hid (cl y = some y) := cl_num hy.2.1
  have kO := odd_ref y hy
  rw [ho] at kO
  generalize hR : expC (fb .mul (some y) c) = R
  have HR : Hid (expC (fb .mul (some y) c) = R) := hR
  clear hR hx0 hy0
  generalize y % 9223372036854775808 = y' at *
  generalize x % 9223372036854775808 = x' at *
  go_enter Tryz.func87, Tryz.ntmps87
  go_wp2_with fail
  go_fit (kE _)
  rintro r w ⟨rfl, rfl⟩
  go_wp2_with fail
  go_fit (kV _)
  rintro r w ⟨rfl, rfl⟩
  go_wp2_with fail
  go_fit (kAy _)
  rintro r w ⟨rfl, rfl⟩
  go_wp2_with fail
  go_fit (kV _)
  rintro r w ⟨rfl, rfl⟩
  go_wp2_with fail
  go_fit (kAx _)
  rintro r w ⟨rfl, rfl⟩
  go_wp2_with fail
  go_fit (hl _)
  rintro r w2 ⟨z, k, rfl, rfl, hzl, hzc⟩
  have HZ : Hid (cl z = c) := hzc
  clear hzc
  go_wp2_with fail
  go_fit (rexp_any _ _)
  rintro r w3 ⟨v, k2, rfl, rfl, hvl, hvc⟩
  have HV : Hid (cl v = expC (fb .mul (some y) c)) := by
    rw [expF_cl, cl_fz, hcy.out, HZ.out] at hvc
    exact hvc
  clear hvc
  go_wp2_with fail
  go_fit (kO _)
  rintro r w ⟨rfl, rfl⟩
  go_wp2
  go_ret
  refine ⟨_, _, rfl, rfl, hvl, ?_⟩
  rw [HV.out]
  exact HR.out
set_option maxRecDepth 100000 in
set_option maxHeartbeats 2000000 in
theorem pow_logp (x y : Nat) (c : Option Nat) (h : Pf x y) (hw : whB y = true) (hgt : FloatKind.f64.format.order (y % 9223372036854775808) 4652218415073722368 = some .gt) (hs : FloatKind.f64.format.order x 0 = some .gt) (hl : ∀ w, Calls Tryz.prog 126 #[.float .f64 (x % 9223372036854775808)] w (RF w c)) (w : World) :
    Calls Tryz.prog 80 #[.float .f64 x, .float .f64 y] w (RF w (expC (fb .mul (some y) c))) := by
  obtain ⟨hx, hy, hx0, hy0, hx1⟩ := h
  have hm := @run_fmul Tryz.prog
  have kA := isNaN_any x
  have kB := isNaN_any y
  have kI := isInf_any y hy.1
  have kX := isInf_any x hx.1
  have kW := isWhole_any y hy
  have kV := whole_ref y hy
  have kAy := abs_any y hy.1
  have kAx := abs_any x hx.1
  rw [hx.2.1] at kA
  rw [hy.2.1] at kB
  rw [hy.inf] at kI
  rw [hx.inf] at kX
  rw [hw] at kW kV
  have h1 := eq0_not y hy.1 hy0
  have h2 := eq0_not x hx.1 hx0
  have h3 := one_no x hx.1 hx1
  have hcy : Hid (cl y = some y) := cl_num hy.2.1
  generalize hR : expC (fb .mul (some y) c) = R
  have HR : Hid (expC (fb .mul (some y) c) = R) := hR
  clear hR hx0 hy0
  generalize y % 9223372036854775808 = y' at *
  generalize x % 9223372036854775808 = x' at *
  go_enter Tryz.func80, Tryz.ntmps80
  go_wp2_with fail
  go_fit (kA _)
  rintro r w ⟨rfl, rfl⟩
  go_wp2_with fail
  go_fit (kB _)
  rintro r w ⟨rfl, rfl⟩
  go_wp2_with fail
  go_fit (kI _)
  rintro r w ⟨rfl, rfl⟩
  go_wp2_with fail
  go_fit (kX _)
  rintro r w ⟨rfl, rfl⟩
  go_wp2_with fail
  go_fit (kW _)
  rintro r w ⟨rfl, rfl⟩
  go_wp2_with fail
  go_fit (kAy _)
  rintro r w ⟨rfl, rfl⟩
  go_wp2_with fail
  go_fit (kAx _)
  rintro r w ⟨rfl, rfl⟩
  go_wp2_with fail
  go_fit (hl _)
  rintro r w2 ⟨z, k, rfl, rfl, hzl, hzc⟩
  have HZ : Hid (cl z = c) := hzc
  clear hzc
  go_wp2_with fail
  go_fit (exp_any _ _)
  rintro r w3 ⟨v, k2, rfl, rfl, hvl, hvc⟩
  have HV : Hid (cl v = expC (fb .mul (some y) c)) := by
    rw [expF_cl, cl_fz, hcy.out, HZ.out] at hvc
    exact hvc
  clear hvc
  go_wp2
  go_ret
  refine ⟨_, _, rfl, rfl, hvl, ?_⟩
  rw [HV.out]
  exact HR.out
set_option maxRecDepth 100000 in
set_option maxHeartbeats 2000000 in
theorem rpow_logp (x y : Nat) (c : Option Nat) (h : Pf x y) (hw : whB y = true) (hgt : FloatKind.f64.format.order (y % 9223372036854775808) 4652218415073722368 = some .gt) (hs : FloatKind.f64.format.order x 0 = some .gt) (hl : ∀ w, Calls Tryz.prog 141 #[.float .f64 (x % 9223372036854775808)] w (RF w c)) (w : World) :
    Calls Tryz.prog 87 #[.float .f64 x, .float .f64 y] w (RF w (expC (fb .mul (some y) c))) := by
  have kE := edge_no x y h
  obtain ⟨hx, hy, hx0, hy0, hx1⟩ := h
  have hm := @run_fmul Tryz.prog
  have kA := isNaN_any x
  have kB := isNaN_any y
  have kI := isInf_any y hy.1
  have kX := isInf_any x hx.1
  have kW := isWhole_any y hy
  have kV := whole_ref y hy
  have kAy := abs_any y hy.1
  have kAx := abs_any x hx.1
  rw [hx.2.1] at kA
  rw [hy.2.1] at kB
  rw [hy.inf] at kI
  rw [hx.inf] at kX
  rw [hw] at kW kV
  have h1 := eq0_not y hy.1 hy0
  have h2 := eq0_not x hx.1 hx0
  have h3 := one_no x hx.1 hx1
  have hcy : Hid (cl y = some y) := cl_num hy.2.1
  generalize hR : expC (fb .mul (some y) c) = R
  have HR : Hid (expC (fb .mul (some y) c) = R) := hR
  clear hR hx0 hy0
  generalize y % 9223372036854775808 = y' at *
  generalize x % 9223372036854775808 = x' at *
  go_enter Tryz.func87, Tryz.ntmps87
  go_wp2_with fail
  go_fit (kE _)
  rintro r w ⟨rfl, rfl⟩
  go_wp2_with fail
  go_fit (kV _)
  rintro r w ⟨rfl, rfl⟩
  go_wp2_with fail
  go_fit (kAy _)
  rintro r w ⟨rfl, rfl⟩
  go_wp2_with fail
  go_fit (kAx _)
  rintro r w ⟨rfl, rfl⟩
  go_wp2_with fail
  go_fit (hl _)
  rintro r w2 ⟨z, k, rfl, rfl, hzl, hzc⟩
  have HZ : Hid (cl z = c) := hzc
  clear hzc
  go_wp2_with fail
  go_fit (rexp_any _ _)
  rintro r w3 ⟨v, k2, rfl, rfl, hvl, hvc⟩
  have HV : Hid (cl v = expC (fb .mul (some y) c)) := by
    rw [expF_cl, cl_fz, hcy.out, HZ.out] at hvc
    exact hvc
  clear hvc
  go_wp2
  go_ret
  refine ⟨_, _, rfl, rfl, hvl, ?_⟩
  rw [HV.out]
  exact HR.out
set_option maxRecDepth 100000 in
set_option maxHeartbeats 2000000 in
theorem pow_logw (x y : Nat) (c : Option Nat) (h : Pf x y) (hw : whB y = false) (hs : FloatKind.f64.format.order x 0 = some .gt) (hl : ∀ w, Calls Tryz.prog 126 #[.float .f64 (x % 9223372036854775808)] w (RF w c)) (w : World) :
    Calls Tryz.prog 80 #[.float .f64 x, .float .f64 y] w (RF w (expC (fb .mul (some y) c))) := by
  obtain ⟨hx, hy, hx0, hy0, hx1⟩ := h
  have hm := @run_fmul Tryz.prog
  have kA := isNaN_any x
  have kB := isNaN_any y
  have kI := isInf_any y hy.1
  have kX := isInf_any x hx.1
  have kW := isWhole_any y hy
  have kV := whole_ref y hy
  have kAy := abs_any y hy.1
  have kAx := abs_any x hx.1
  rw [hx.2.1] at kA
  rw [hy.2.1] at kB
  rw [hy.inf] at kI
  rw [hx.inf] at kX
  rw [hw] at kW kV
  have h1 := eq0_not y hy.1 hy0
  have h2 := eq0_not x hx.1 hx0
  have h3 := one_no x hx.1 hx1
  have hcy : Hid (cl y = some y) := cl_num hy.2.1
  generalize hR : expC (fb .mul (some y) c) = R
  have HR : Hid (expC (fb .mul (some y) c) = R) := hR
  clear hR hx0 hy0
  generalize y % 9223372036854775808 = y' at *
  generalize x % 9223372036854775808 = x' at *
  go_enter Tryz.func80, Tryz.ntmps80
  go_wp2_with fail
  go_fit (kA _)
  rintro r w ⟨rfl, rfl⟩
  go_wp2_with fail
  go_fit (kB _)
  rintro r w ⟨rfl, rfl⟩
  go_wp2_with fail
  go_fit (kI _)
  rintro r w ⟨rfl, rfl⟩
  go_wp2_with fail
  go_fit (kX _)
  rintro r w ⟨rfl, rfl⟩
  go_wp2_with fail
  go_fit (kW _)
  rintro r w ⟨rfl, rfl⟩
  go_wp2_with fail
  go_fit (kAx _)
  rintro r w ⟨rfl, rfl⟩
  go_wp2_with fail
  go_fit (hl _)
  rintro r w2 ⟨z, k, rfl, rfl, hzl, hzc⟩
  have HZ : Hid (cl z = c) := hzc
  clear hzc
  go_wp2_with fail
  go_fit (exp_any _ _)
  rintro r w3 ⟨v, k2, rfl, rfl, hvl, hvc⟩
  have HV : Hid (cl v = expC (fb .mul (some y) c)) := by
    rw [expF_cl, cl_fz, hcy.out, HZ.out] at hvc
    exact hvc
  clear hvc
  go_wp2
  go_ret
  refine ⟨_, _, rfl, rfl, hvl, ?_⟩
  rw [HV.out]
  exact HR.out
set_option maxRecDepth 100000 in
set_option maxHeartbeats 2000000 in
theorem rpow_logw (x y : Nat) (c : Option Nat) (h : Pf x y) (hw : whB y = false) (hs : FloatKind.f64.format.order x 0 = some .gt) (hl : ∀ w, Calls Tryz.prog 141 #[.float .f64 (x % 9223372036854775808)] w (RF w c)) (w : World) :
    Calls Tryz.prog 87 #[.float .f64 x, .float .f64 y] w (RF w (expC (fb .mul (some y) c))) := by
  have kE := edge_no x y h
  obtain ⟨hx, hy, hx0, hy0, hx1⟩ := h
  have hm := @run_fmul Tryz.prog
  have kA := isNaN_any x
  have kB := isNaN_any y
  have kI := isInf_any y hy.1
  have kX := isInf_any x hx.1
  have kW := isWhole_any y hy
  have kV := whole_ref y hy
  have kAy := abs_any y hy.1
  have kAx := abs_any x hx.1
  rw [hx.2.1] at kA
  rw [hy.2.1] at kB
  rw [hy.inf] at kI
  rw [hx.inf] at kX
  rw [hw] at kW kV
  have h1 := eq0_not y hy.1 hy0
  have h2 := eq0_not x hx.1 hx0
  have h3 := one_no x hx.1 hx1
  have hcy : Hid (cl y = some y) := cl_num hy.2.1
  generalize hR : expC (fb .mul (some y) c) = R
  have HR : Hid (expC (fb .mul (some y) c) = R) := hR
  clear hR hx0 hy0
  generalize y % 9223372036854775808 = y' at *
  generalize x % 9223372036854775808 = x' at *
  go_enter Tryz.func87, Tryz.ntmps87
  go_wp2_with fail
  go_fit (kE _)
  rintro r w ⟨rfl, rfl⟩
  go_wp2_with fail
  go_fit (kV _)
  rintro r w ⟨rfl, rfl⟩
  go_wp2_with fail
  go_fit (kAx _)
  rintro r w ⟨rfl, rfl⟩
  go_wp2_with fail
  go_fit (hl _)
  rintro r w2 ⟨z, k, rfl, rfl, hzl, hzc⟩
  have HZ : Hid (cl z = c) := hzc
  clear hzc
  go_wp2_with fail
  go_fit (rexp_any _ _)
  rintro r w3 ⟨v, k2, rfl, rfl, hvl, hvc⟩
  have HV : Hid (cl v = expC (fb .mul (some y) c)) := by
    rw [expF_cl, cl_fz, hcy.out, HZ.out] at hvc
    exact hvc
  clear hvc
  go_wp2
  go_ret
  refine ⟨_, _, rfl, rfl, hvl, ?_⟩
  rw [HV.out]
  exact HR.out
set_option maxRecDepth 100000 in
set_option maxHeartbeats 2000000 in
theorem pow_nan (x y : Nat) (h : Pf x y) (hw : whB y = false) (hs : FloatKind.f64.format.order x 0 = some .lt) (w : World) : Calls Tryz.prog 80 #[.float .f64 x, .float .f64 y] w (RF w none) := by
  obtain ⟨hx, hy, hx0, hy0, hx1⟩ := h
  have hm := @run_fmul Tryz.prog
  have kA := isNaN_any x
  have kB := isNaN_any y
  have kI := isInf_any y hy.1
  have kX := isInf_any x hx.1
  have kW := isWhole_any y hy
  have kV := whole_ref y hy
  have kAy := abs_any y hy.1
  have kAx := abs_any x hx.1
  rw [hx.2.1] at kA
  rw [hy.2.1] at kB
  rw [hy.inf] at kI
  rw [hx.inf] at kX
  rw [hw] at kW kV
  have h1 := eq0_not y hy.1 hy0
  have h2 := eq0_not x hx.1 hx0
  have h3 := one_no x hx.1 hx1
  have hcy : Hid (cl y = some y) := cl_num hy.2.1
  have kN := nan_any
  clear hx0 hy0
  go_enter Tryz.func80, Tryz.ntmps80
  go_wp2_with fail
  go_fit (kA _)
  rintro r w ⟨rfl, rfl⟩
  go_wp2_with fail
  go_fit (kB _)
  rintro r w ⟨rfl, rfl⟩
  go_wp2_with fail
  go_fit (kI _)
  rintro r w ⟨rfl, rfl⟩
  go_wp2_with fail
  go_fit (kX _)
  rintro r w ⟨rfl, rfl⟩
  go_wp2_with fail
  go_fit (kW _)
  rintro r w ⟨rfl, rfl⟩
  go_wp2_with fail
  go_fit (kW _)
  rintro r w ⟨rfl, rfl⟩
  go_wp2_with fail
  go_fit (kN _)
  rintro r w ⟨rfl, rfl⟩
  go_wp2
  go_ret
  exact ⟨_, 0, rfl, rfl, by decide, cl_theNaN⟩
set_option maxRecDepth 100000 in
set_option maxHeartbeats 2000000 in
theorem rpow_nan (x y : Nat) (h : Pf x y) (hw : whB y = false) (hs : FloatKind.f64.format.order x 0 = some .lt) (w : World) : Calls Tryz.prog 87 #[.float .f64 x, .float .f64 y] w (RF w none) := by
  have kE := edge_no x y h
  obtain ⟨hx, hy, hx0, hy0, hx1⟩ := h
  have hm := @run_fmul Tryz.prog
  have kA := isNaN_any x
  have kB := isNaN_any y
  have kI := isInf_any y hy.1
  have kX := isInf_any x hx.1
  have kW := isWhole_any y hy
  have kV := whole_ref y hy
  have kAy := abs_any y hy.1
  have kAx := abs_any x hx.1
  rw [hx.2.1] at kA
  rw [hy.2.1] at kB
  rw [hy.inf] at kI
  rw [hx.inf] at kX
  rw [hw] at kW kV
  have h1 := eq0_not y hy.1 hy0
  have h2 := eq0_not x hx.1 hx0
  have h3 := one_no x hx.1 hx1
  have hcy : Hid (cl y = some y) := cl_num hy.2.1
  have kN := rnan_any
  clear hx0 hy0
  go_enter Tryz.func87, Tryz.ntmps87
  go_wp2_with fail
  go_fit (kE _)
  rintro r w ⟨rfl, rfl⟩
  go_wp2_with fail
  go_fit (kV _)
  rintro r w ⟨rfl, rfl⟩
  go_wp2_with fail
  go_fit (kV _)
  rintro r w ⟨rfl, rfl⟩
  go_wp2_with fail
  go_fit (kN _)
  rintro r w ⟨rfl, rfl⟩
  go_wp2
  go_ret
  exact ⟨_, 0, rfl, rfl, by decide, cl_theNaN⟩
end Go.Proofs.YtebjklppbkkinaaGreatDoor.F
/- Pow on both sides; the law's walk. -/
namespace Go.Proofs.YtebjklppbkkinaaGreatDoor.F
open Go.RowKit Ieee

/-- Both sides answer alike, of two floats. -/
def Both2 (f g : FuncId) (x y : Nat) : Prop := ∃ c, (∀ w, Calls Tryz.prog f #[.float .f64 x, .float .f64 y] w (RF w c)) ∧ (∀ w, Calls Tryz.prog g #[.float .f64 x, .float .f64 y] w (RF w c))
set_option maxHeartbeats 400000 in
theorem Edge.both {x y : Nat} {c : Option Nat} (h : Edge x y c) : Both2 80 87 x y := by
  refine ⟨c, h.1, fun w => ?_⟩
  have k := h.2
  go_enter Tryz.func87, Tryz.ntmps87
  go_wp2_with fail
  go_fit (k _)
  rintro r w2 ⟨z, rfl, rfl, hzl, hzc⟩
  have HZ : Hid (cl z = c) := hzc
  clear hzc
  go_wp2
  go_ret
  exact ⟨_, 0, rfl, rfl, hzl, HZ.out⟩
theorem ord0_lt (y : Nat) (hy : y < 18446744073709551616) (hn : nanB y = false) (h0 : y % 9223372036854775808 ≠ 0) : FloatKind.f64.format.order y 0 = some .lt ∨ FloatKind.f64.format.order y 0 = some .gt := by
  rw [ord0 y hy hn, if_neg h0]
  split
  · right; rfl
  · left; rfl
theorem pow_both (x y : Nat) (hx : x < 18446744073709551616) (hy : y < 18446744073709551616) : Both2 80 87 x y := by
  by_cases hy0 : y % 9223372036854775808 = 0
  · have hn : nanB y = false := by
      rw [nanB_eq]; exact decide_eq_false (by omega)
    exact (edge1 x y (by rw [ord0 y hy hn, if_pos hy0])).both
  have ey := eq0_not y hy hy0
  by_cases hx1 : x = 4607182418800017408
  · subst hx1
    exact (edge2 y ey).both
  have ex := one_no x hx hx1
  by_cases hxn : nanB x = true
  · exact (edge3 x y ey ex (.inl hxn)).both
  by_cases hyn : nanB y = true
  · exact (edge3 x y ey ex (.inr hyn)).both
  have hxn : nanB x = false := by cases h : nanB x <;> simp_all
  have hyn : nanB y = false := by cases h : nanB y <;> simp_all
  rcases kinds y hy hyn with hyf | hyi
  · have hY : Fi y := ⟨hy, hyn, hyf⟩
    rcases kinds x hx hxn with hxf | hxi
    · by_cases hx0 : x % 9223372036854775808 = 0
      · rcases ord0_lt y hy hyn hy0 with hs | hs <;> cases ho : odB y
        · exact (edge6ne x y hx hx0 hY hs ho).both
        · exact (edge6no x y hx hx0 hY hs ho).both
        · exact (edge6pe x y hx hx0 hY hs ho).both
        · exact (edge6po x y hx hx0 hY hs ho).both
      · have hX : Fi x := ⟨hx, hxn, hxf⟩
        have hP : Pf x y := ⟨hX, hY, hx0, hy0, hx1⟩
        have hlx : x % 9223372036854775808 < 18446744073709551616 := by omega
        obtain ⟨c, hl1, hl2⟩ := ln_both (x % 9223372036854775808) hlx
        cases hw : whB y
        · rcases ord0_lt x hx hxn hx0 with hs | hs
          · exact ⟨_, pow_nan x y hP hw hs, rpow_nan x y hP hw hs⟩
          · exact ⟨_, pow_logw x y c hP hw hs hl1, rpow_logw x y c hP hw hs hl2⟩
        · by_cases hle : y % 9223372036854775808 ≤ 4652218415073722368
          · obtain ⟨K, hK, hK2⟩ := abs_int _ hle
            rcases le_1024 y hle with ho | ho
            · exact ⟨_, pow_whole_lt x y K hP hw ho hK hK2, rpow_whole_lt x y K hP hw ho hK hK2⟩
            · exact ⟨_, pow_whole_eq x y K hP hw ho hK hK2, rpow_whole_eq x y K hP hw ho hK hK2⟩
          · have hgt : FloatKind.f64.format.order (y % 9223372036854775808) 4652218415073722368 = some .gt := by
              rw [pos_order _ _ hyf (by decide), Nat.compare_eq_gt.2 (by omega)]
            rcases ord0_lt x hx hxn hx0 with hs | hs
            · cases ho : odB y
              · exact ⟨_, pow_loge x y c hP hw hgt hs ho hl1, rpow_loge x y c hP hw hgt hs ho hl2⟩
              · exact ⟨_, pow_logo x y c hP hw hgt hs ho hl1, rpow_logo x y c hP hw hgt hs ho hl2⟩
            · exact ⟨_, pow_logp x y c hP hw hgt hs hl1, rpow_logp x y c hP hw hgt hs hl2⟩
    · have : x = 9218868437227405312 ∨ x = 18442240474082181120 := by omega
      rcases this with rfl | rfl <;> rcases ord0_lt y hy hyn hy0 with hs | hs <;> cases ho : odB y
      · exact (edge7pne y hY hs ho).both
      · exact (edge7pno y hY hs ho).both
      · exact (edge7ppe y hY hs ho).both
      · exact (edge7ppo y hY hs ho).both
      · exact (edge7mne y hY hs ho).both
      · exact (edge7mno y hY hs ho).both
      · exact (edge7mpe y hY hs ho).both
      · exact (edge7mpo y hY hs ho).both
  · have hyy : y = 9218868437227405312 ∨ y = 18442240474082181120 := by omega
    by_cases hxm : x = 13830554455654793216
    · subst hxm
      rcases hyy with rfl | rfl
      · exact edge4p.both
      · exact edge4m.both
    · have hc : 4607182418800017408 < x % 9223372036854775808 ∨ x % 9223372036854775808 < 4607182418800017408 := by omega
      rcases hyy with rfl | rfl <;> rcases hc with hc | hc
      · exact (edge5pg x hx hxn hx1 hxm hc).both
      · exact (edge5pl x hx hxn hx1 hxm hc).both
      · exact (edge5mg x hx hxn hx1 hxm hc).both
      · exact (edge5ml x hx hxn hx1 hxm hc).both
theorem md53 : mdC 13840687554816376832 4613937818241073152 = some 13835058055282163712 := by decide +kernel
theorem rd75 : rdC (cl 4619567317775286272) (cl 4617315517961601024) = some 4617315517961601024 := by decide +kernel
theorem pw10 : pwR 4621819117588971520 (pwC 10 10 (cl 4611686018427387904) (some 4607182418800017408)) = some 4652218415073722368 := by decide +kernel
theorem pow_2_10 (w : World) : Calls Tryz.prog 80 #[.float .f64 4611686018427387904, .float .f64 4621819117588971520] w (RF w (some 4652218415073722368)) := by
  have h := pow_whole_lt 4611686018427387904 4621819117588971520 10 ⟨⟨by decide, by decide, by decide⟩, ⟨by decide, by decide, by decide⟩, by decide, by decide, by decide⟩ (by decide +kernel) (by decide +kernel) (by decide +kernel) (by decide) w
  rw [pw10] at h
  exact h
end Go.Proofs.YtebjklppbkkinaaGreatDoor.F
