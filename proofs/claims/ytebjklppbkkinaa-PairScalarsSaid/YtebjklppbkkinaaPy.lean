/- The logarithms, on both sides. -/
import Derived.Test.YtebjklppbkkinaaPx
namespace Go.Proofs.Ytebjklppbkkinaa
open Go.RowKit Ieee

/-- Both sides answer alike. -/
def Both (f g : FuncId) (x : Nat) : Prop := ∃ c, (∀ w, Calls Try.prog f #[.float .f64 x] w (RF w c)) ∧ (∀ w, Calls Try.prog g #[.float .f64 x] w (RF w c))
/-- A number's parts: how the functions of both sides answer. -/
def Prt (x mw : Nat) (e : Int) : Prop := mw < 18446744073709551616 ∧ (∀ w, Calls Try.prog 64 #[.float .f64 x] w fun r w' => r = .returned (.tuple #[.float .f64 mw, .float .f64 (iw e)]) ∧ w' = w) ∧ (∀ w, Calls Try.prog 55 #[.float .f64 x] w fun r w' => r = .returned (.tuple #[.float .f64 mw, .int .i64 e]) ∧ w' = w)
theorem prt_ex (x : Nat) (h0 : x ≠ 0) (hx : x < 0x7ff0000000000000) : ∃ mw e, Prt x mw e := by
  by_cases hs : x < 4503599627370496
  · obtain ⟨M, P, h, hP⟩ := nm_sub x h0 hs
    have hl := (half_cmp M (qs M) h.1 h.2.1 (by unfold qs; split <;> decide)).2.2
    exact ⟨_, _, by omega, parts_sub x M P hx h hs hP, rparts_any x M P hx h⟩
  · have h := nm_normal x (by omega) hx
    generalize hM : 2 ^ 52 + x % 2 ^ 52 = M at h
    generalize hP : ((x / 2 ^ 52 : Nat) : Int) - 1075 = P at h
    have hl := (half_cmp M (qs M) h.1 h.2.1 (by unfold qs; split <;> decide)).2.2
    refine ⟨_, _, by omega, parts_norm x M P hx h hs (by omega) ?_, rparts_any x M P hx h⟩
    rw [near_norm M P h.1 h.2.1 (by omega) h.2.2.1]
    omega
def lnC (mw : Nat) (e : Int) : Option Nat := fb .add (fb .mul (some (iw e)) (some 4604418534312771584)) (fb .add (lnF (cl mw)) (fb .mul (some (iw e)) (some 4455313330490472685)))
def l2C (mw : Nat) (e : Int) : Option Nat := fb .add (some (iw e)) (fb .mul (lnF (cl mw)) (some 4609176140021203710))
set_option maxHeartbeats 400000 in
theorem ln_end (x : Nat) (c : Option Nat) (h : End x c) (w : World) : Calls Try.prog 43 #[.float .f64 x] w (RF w c) := by
  have kA := hasParts_no x c h
  have kB := logOfEnd_any x c h
  go_enter Try.func43, Try.ntmps43
  go_wp2_with fail
  go_fit (kA _)
  rintro r w ⟨rfl, rfl⟩
  go_wp2_with fail
  go_fit (kB _)
  rintro r w2 ⟨z, k, rfl, rfl, hzl, hzc⟩
  have HZ : Hid (cl z = c) := hzc
  clear hzc
  go_wp2
  go_ret
  exact ⟨_, _, rfl, rfl, hzl, HZ.out⟩
set_option maxHeartbeats 400000 in
theorem rln_end (x : Nat) (c : Option Nat) (h : End x c) (w : World) : Calls Try.prog 32 #[.float .f64 x] w (RF w c) := by
  have kA := special_no x c h
  go_enter Try.func32, Try.ntmps32
  go_wp2_with fail
  go_fit (kA _)
  rintro r w2 ⟨z, rfl, rfl, hzl, hzc⟩
  have HZ : Hid (cl z = c) := hzc
  clear hzc
  go_wp2
  go_ret
  exact ⟨_, 0, rfl, rfl, hzl, HZ.out⟩
set_option maxHeartbeats 1000000 in
theorem ln_val (x mw : Nat) (e : Int) (h0 : x ≠ 0) (hx : x < 0x7ff0000000000000) (h : Prt x mw e) (w : World) : Calls Try.prog 43 #[.float .f64 x] w (RF w (lnC mw e)) := by
  have ha := @run_fadd Try.prog
  have hm := @run_fmul Try.prog
  have hcn := cvN
  go_enter Try.func43, Try.ntmps43
  go_wp2_with fail
  go_fit (hasParts_yes x h0 hx _)
  rintro r w ⟨rfl, rfl⟩
  go_wp2_with fail
  go_fit (h.2.1 _)
  rintro r w ⟨rfl, rfl⟩
  go_wp2_with fail
  go_fit (fromBits_any 4604418534312771584 _)
  rintro r w ⟨rfl, rfl⟩
  go_wp2_with fail
  go_fit (ln1_any mw _)
  rintro r w2 ⟨z, k, rfl, rfl, hzl, hzc⟩
  have HZ : Hid _ := hzc
  clear hzc
  go_wp2_with fail
  go_fit (fromBits_any 4455313330490472685 _)
  rintro r w ⟨rfl, rfl⟩
  go_wp2
  go_ret
  refine ⟨_, _, rfl, rfl, fz_lt _ _ _ _, ?_⟩
  simp only [cl_fz]
  rw [cl_lit 4604418534312771584 (by decide), cl_lit 4455313330490472685 (by decide), HZ.out, iw_num]
  rfl
set_option maxHeartbeats 1000000 in
theorem rln_val (x mw : Nat) (e : Int) (h0 : x ≠ 0) (hx : x < 0x7ff0000000000000) (h : Prt x mw e) (w : World) : Calls Try.prog 32 #[.float .f64 x] w (RF w (lnC mw e)) := by
  have ha := @run_fadd Try.prog
  have hm := @run_fmul Try.prog
  have hcn := cvN
  go_enter Try.func32, Try.ntmps32
  go_wp2_with fail
  go_fit (special_yes x h0 hx _)
  rintro r w ⟨rfl, rfl⟩
  go_wp2_with fail
  go_fit (h.2.2 _)
  rintro r w ⟨rfl, rfl⟩
  go_wp2_with fail
  go_fit (rseries_any mw _)
  rintro r w2 ⟨z, k, rfl, rfl, hzl, hzc⟩
  have HZ : Hid _ := hzc
  clear hzc
  go_wp2_with fail
  go_fit (rc81_any _)
  rintro r w ⟨rfl, rfl⟩
  go_wp2_with fail
  go_fit (rc82_any _)
  rintro r w ⟨rfl, rfl⟩
  go_wp2
  go_ret
  refine ⟨_, _, rfl, rfl, fz_lt _ _ _ _, ?_⟩
  simp only [cl_fz]
  rw [cl_lit 4604418534312771584 (by decide), cl_lit 4455313330490472685 (by decide), HZ.out, iw_num]
  rfl
theorem ln_both (x : Nat) (hx : x < 18446744073709551616) : Both 43 32 x := by
  rcases ends_or x hx with ⟨c, h⟩ | ⟨h0, hl⟩
  · exact ⟨c, ln_end x c h, rln_end x c h⟩
  · obtain ⟨mw, e, h⟩ := prt_ex x h0 hl
    exact ⟨_, ln_val x mw e h0 hl h, rln_val x mw e h0 hl h⟩
theorem exp_both (x : Nat) : Both 42 31 x := ⟨_, exp_any x, rexp_any x⟩
end Go.Proofs.Ytebjklppbkkinaa
