/- The series of the logarithm, on both sides. -/
import Derived.Test.YtebjklppbkkinaaPv
namespace Go.Proofs.Ytebjklppbkkinaa
open Go.RowKit Ieee

/-- The series: behind n of its twelve steps. -/
def lnP (z : Option Nat) : Nat → Option Nat
  | 0 => some 0
  | n + 1 => fb .mul z (fb .add (fb .quo (some 4607182418800017408) (some (iw (2 * (12 - (n : Int)) + 1)))) (lnP z n))
def lnT (m : Option Nat) : Option Nat := fb .sub m (some 4607182418800017408)
def lnS (m : Option Nat) : Option Nat := fb .quo (lnT m) (fb .add (some 4611686018427387904) (lnT m))
def lnF (m : Option Nat) : Option Nat := fb .add (fb .mul (some 4611686018427387904) (lnS m)) (fb .mul (fb .mul (some 4611686018427387904) (lnS m)) (lnP (fb .mul (lnS m) (lnS m)) 12))

set_option maxHeartbeats 1000000 in
set_option maxRecDepth 100000 in
theorem ln1_any (m : Nat) (w : World) : Calls Try.prog 65 #[.float .f64 m] w (RF w (lnF (cl m))) := by
  have ha := @run_fadd Try.prog
  have hs := @run_fsub Try.prog
  have hm := @run_fmul Try.prog
  have hq := @run_fquo Try.prog
  have hcn := cvN
  obtain ⟨X, hX⟩ : ∃ X, X = lnP (fb .mul (lnS (cl m)) (lnS (cl m))) := ⟨_, rfl⟩
  have X0 : Hid (X 0 = some 0) := by show _ = _; rw [hX]; rfl
  have XS : Hid (∀ n, X (n + 1) = fb .mul (fb .mul (lnS (cl m)) (lnS (cl m))) (fb .add (fb .quo (some 4607182418800017408) (some (iw (2 * (12 - (n : Int)) + 1)))) (X n))) := fun n => by rw [hX]; rfl
  have HX : Hid _ := hX
  clear hX
  go_enter Try.func65, Try.ntmps65
  go_wp2
  go_loopw [6, 7] (fun pv iv w' => ∃ (j p k : Nat), iv = .int .i64 (12 - (j : Int)) ∧ j ≤ 12 ∧ pv = .float .f64 p ∧ p < 18446744073709551616 ∧ Hid (cl p = X j) ∧ w' = w.drewN k) (fun _ iv _ => (RowKit.intOf iv).toNat)
  case atStart => exact ⟨0, _, _, rfl, by omega, rfl, by decide, by show _ = _; rw [X0.out]; exact cl_lit _ (by decide), rfl⟩
  case round =>
    obtain ⟨j, p, k, rfl, hj, rfl, hpl, hst, rfl⟩ := hrel
    by_cases hlt : j < 12
    · have hii : (1 : Int) ≤ 12 - (j : Int) := by omega
      go_wp2
      refine ⟨⟨j + 1, _, _, by go_num, by omega, rfl, fz_lt _ _ _ _, ?_, rfl⟩, by simp [RowKit.intOf]; omega⟩
      show _ = _
      rw [XS.out]
      simp only [cl_fz]
      rw [cl_lit 4607182418800017408 (by decide), cl_lit 4611686018427387904 (by decide), hst.out, iw_num]
      rfl
    · have hii : ¬ (1 : Int) ≤ 12 - (j : Int) := by omega
      obtain rfl : j = 12 := by omega
      go_wp2
      go_ret
      refine ⟨_, _, rfl, rfl, fz_lt _ _ _ _, ?_⟩
      simp only [cl_fz]
      rw [cl_lit 4607182418800017408 (by decide), cl_lit 4611686018427387904 (by decide), hst.out, HX.out]
      rfl

set_option maxHeartbeats 1000000 in
set_option maxRecDepth 100000 in
theorem rseries_any (m : Nat) (w : World) : Calls Try.prog 56 #[.float .f64 m] w (RF w (lnF (cl m))) := by
  have ha := @run_fadd Try.prog
  have hs := @run_fsub Try.prog
  have hm := @run_fmul Try.prog
  have hq := @run_fquo Try.prog
  have hcn := cvN
  obtain ⟨X, hX⟩ : ∃ X, X = lnP (fb .mul (lnS (cl m)) (lnS (cl m))) := ⟨_, rfl⟩
  have X0 : Hid (X 0 = some 0) := by show _ = _; rw [hX]; rfl
  have XS : Hid (∀ n, X (n + 1) = fb .mul (fb .mul (lnS (cl m)) (lnS (cl m))) (fb .add (fb .quo (some 4607182418800017408) (some (iw (2 * (12 - (n : Int)) + 1)))) (X n))) := fun n => by rw [hX]; rfl
  have HX : Hid _ := hX
  clear hX
  go_enter Try.func56, Try.ntmps56
  go_wp2
  go_loopw [6, 7] (fun pv iv w' => ∃ (j p k : Nat), iv = .int .i64 (12 - (j : Int)) ∧ j ≤ 12 ∧ pv = .float .f64 p ∧ p < 18446744073709551616 ∧ Hid (cl p = X j) ∧ w' = w.drewN k) (fun _ iv _ => (RowKit.intOf iv).toNat)
  case atStart => exact ⟨0, _, _, rfl, by omega, rfl, by decide, by show _ = _; rw [X0.out]; exact cl_lit _ (by decide), rfl⟩
  case round =>
    obtain ⟨j, p, k, rfl, hj, rfl, hpl, hst, rfl⟩ := hrel
    by_cases hlt : j < 12
    · have hii : (1 : Int) ≤ 12 - (j : Int) := by omega
      go_wp2
      refine ⟨⟨j + 1, _, _, by go_num, by omega, rfl, fz_lt _ _ _ _, ?_, rfl⟩, by simp [RowKit.intOf]; omega⟩
      show _ = _
      rw [XS.out]
      simp only [cl_fz]
      rw [cl_lit 4607182418800017408 (by decide), cl_lit 4611686018427387904 (by decide), hst.out, iw_num]
      rfl
    · have hii : ¬ (1 : Int) ≤ 12 - (j : Int) := by omega
      obtain rfl : j = 12 := by omega
      go_wp2
      go_ret
      refine ⟨_, _, rfl, rfl, fz_lt _ _ _ _, ?_⟩
      simp only [cl_fz]
      rw [cl_lit 4607182418800017408 (by decide), cl_lit 4611686018427387904 (by decide), hst.out, HX.out]
      rfl
end Go.Proofs.Ytebjklppbkkinaa
