/- CalcExps: the law's walk. -/
import Derived.Test.YtfjfpplemgjcmabPy
namespace Go.Proofs.Ytfjfpplemgjcmab
open Go.RowKit

theorem exp0 : expF 0 = some 4607182418800017408 := by decide +kernel
theorem l2C8 : l2C 4607182418800017408 3 = some 4613937818241073152 := by decide +kernel
theorem log2_8 (w : World) : Calls Try.prog 28 #[.float .f64 4620693217682128896] w (RF w (some 4613937818241073152)) := by
  have h := nm_normal 4620693217682128896 (by decide) (by decide)
  rw [show 2 ^ 52 + 4620693217682128896 % 2 ^ 52 = 4503599627370496 by decide, show ((4620693217682128896 / 2 ^ 52 : Nat) : Int) - 1075 = -49 by decide] at h
  have hq : qs 4503599627370496 = -52 := by decide
  have hn : Ieee.double.nearest false 4503599627370496 (-52) = 4607182418800017408 := by
    rw [near_norm _ _ (by decide) (by decide) (by decide) (by decide)]; decide
  have k1 := parts_norm 4620693217682128896 _ _ (by decide) h (by decide) (by decide) (by rw [near_norm _ _ (by decide) (by decide) (by decide) (by decide)]; decide)
  have k2 := rparts_any 4620693217682128896 _ _ (by decide) h
  rw [hq, hn, show (-49 : Int) - -52 = 3 by decide] at k1 k2
  have := log2_val 4620693217682128896 _ _ (by decide) (by decide) ⟨by decide, k1, k2⟩ w
  rw [l2C8] at this
  exact this

set_option maxHeartbeats 2000000 in
set_option maxRecDepth 100000 in
theorem exps_walk (x : Nat) (hx : x < 18446744073709551616) (w : World) : Calls Try.prog 7 #[.float .f64 x] w fun r w' => r = .returned (.bool true) ∧ Below w.heap.size w w' := by
  have k0 := exp_any 0
  rw [exp0] at k0
  have k8 := log2_8
  obtain ⟨c1, a1, b1⟩ := exp_both x
  obtain ⟨c2, a2, b2⟩ := ln_both x hx
  obtain ⟨c3, a3, b3⟩ := log2_both x hx
  obtain ⟨c4, a4, b4⟩ := log10_both x hx
  go_enter Try.func7, Try.ntmps7
  go_wp2_with fail
  go_fit (k0 _)
  rintro r _ ⟨z, n0, rfl, rfl, _, hz⟩
  obtain ⟨rfl, _⟩ := cl_some hz
  clear hz k0
  go_wp2_with fail
  go_fit (k8 _)
  rintro r _ ⟨z, n1, rfl, rfl, _, hz⟩
  obtain ⟨rfl, _⟩ := cl_some hz
  clear hz k8
  go_wp2_with fail
  go_fit (a1 _)
  rintro r _ ⟨y1, m1, rfl, rfl, _, d1⟩
  have D1 : Hid _ := d1
  clear d1 a1
  go_wp2_with fail
  go_fit (b1 _)
  rintro r _ ⟨z1, l1, rfl, rfl, _, d1⟩
  have q1 := fun w' => alike_any y1 z1 (D1.out.trans d1.symm) w'
  clear d1 b1
  go_wp2_with fail
  go_fit (q1 _)
  rintro r _ ⟨rfl, rfl⟩
  go_wp2_with fail
  go_fit (a2 _)
  rintro r _ ⟨y2, m2, rfl, rfl, _, d2⟩
  have D2 : Hid _ := d2
  clear d2 a2
  go_wp2_with fail
  go_fit (b2 _)
  rintro r _ ⟨z2, l2, rfl, rfl, _, d2⟩
  have q2 := fun w' => alike_any y2 z2 (D2.out.trans d2.symm) w'
  clear d2 b2
  go_wp2_with fail
  go_fit (q2 _)
  rintro r _ ⟨rfl, rfl⟩
  go_wp2_with fail
  go_fit (a3 _)
  rintro r _ ⟨y3, m3, rfl, rfl, _, d3⟩
  have D3 : Hid _ := d3
  clear d3 a3
  go_wp2_with fail
  go_fit (b3 _)
  rintro r _ ⟨z3, l3, rfl, rfl, _, d3⟩
  have q3 := fun w' => alike_any y3 z3 (D3.out.trans d3.symm) w'
  clear d3 b3
  go_wp2_with fail
  go_fit (q3 _)
  rintro r _ ⟨rfl, rfl⟩
  go_wp2_with fail
  go_fit (a4 _)
  rintro r _ ⟨y4, m4, rfl, rfl, _, d4⟩
  have D4 : Hid _ := d4
  clear d4 a4
  go_wp2_with fail
  go_fit (b4 _)
  rintro r _ ⟨z4, l4, rfl, rfl, _, d4⟩
  have q4 := fun w' => alike_any y4 z4 (D4.out.trans d4.symm) w'
  clear d4 b4
  go_wp2_with fail
  go_fit (q4 _)
  rintro r _ ⟨rfl, rfl⟩
  go_wp2
  go_ret
  refine ⟨rfl, ?_⟩
  repeat refine below_drewN ?_ _
  exact Below.refl _ _
end Go.Proofs.Ytfjfpplemgjcmab
