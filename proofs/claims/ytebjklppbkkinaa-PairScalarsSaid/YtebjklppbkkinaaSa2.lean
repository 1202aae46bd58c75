/- Pair: the value of an operator; does it hold. -/
import Derived.Test.YtebjklppbkkinaaSa1
namespace Go.Proofs.Ytebjklppbkkinaa
open Go.RowKit

/-- Both sides answer alike, of an operator and two floats. -/
def BothV (f g : FuncId) (s : ByteArray) (x y : Nat) (c : Option Nat) : Prop := (∀ w, Calls Try.prog f #[.string s, .float .f64 x, .float .f64 y] w (RF w c)) ∧ (∀ w, Calls Try.prog g #[.string s, .float .f64 x, .float .f64 y] w (RF w c))
set_option maxHeartbeats 4000000 in
set_option maxRecDepth 100000 in
theorem value_both (s : ByteArray) (k : Nat) (hk : k < 6) (h : OpK s k) (x y : Nat) (hx : x < 18446744073709551616) (hy : y < 18446744073709551616) : ∃ c, BothV 15 11 s x y c := by
  obtain ⟨e0, e1, e2, e3, e4, e5, e6, e7, e8, e9, e10, e11, e12, e13, e14⟩ := h
  have hs := @run_fsub Try.prog
  have ha := @run_fadd Try.prog
  have hm := @run_fmul Try.prog
  have hq := @run_fquo Try.prog
  obtain ⟨c5, p5, q5⟩ := pow_both x y hx hy
  rcases (show k = 0 ∨ k = 1 ∨ k = 2 ∨ k = 3 ∨ k = 4 ∨ k = 5 by omega) with rfl | rfl | rfl | rfl | rfl | rfl
  all_goals simp only [Nat.reduceBEq] at e0 e1 e2 e3 e4 e5 e6 e7 e8 e9 e10 e11 e12 e13 e14
  · refine ⟨fb .add (cl x) (cl y), fun w => ?_, fun w => ?_⟩
    · go_enter Try.func15, Try.ntmps15
      go_wp2
      go_ret
      exact ⟨_, _, rfl, rfl, fz_lt _ _ _ _, cl_fz _ _ _ _⟩
    · go_enter Try.func11, Try.ntmps11
      go_wp2
      go_ret
      exact ⟨_, _, rfl, rfl, fz_lt _ _ _ _, cl_fz _ _ _ _⟩
  · refine ⟨fb .sub (cl x) (cl y), fun w => ?_, fun w => ?_⟩
    · go_enter Try.func15, Try.ntmps15
      go_wp2
      go_ret
      exact ⟨_, _, rfl, rfl, fz_lt _ _ _ _, cl_fz _ _ _ _⟩
    · go_enter Try.func11, Try.ntmps11
      go_wp2
      go_ret
      exact ⟨_, _, rfl, rfl, fz_lt _ _ _ _, cl_fz _ _ _ _⟩
  · refine ⟨fb .mul (cl x) (cl y), fun w => ?_, fun w => ?_⟩
    · go_enter Try.func15, Try.ntmps15
      go_wp2
      go_ret
      exact ⟨_, _, rfl, rfl, fz_lt _ _ _ _, cl_fz _ _ _ _⟩
    · go_enter Try.func11, Try.ntmps11
      go_wp2
      go_ret
      exact ⟨_, _, rfl, rfl, fz_lt _ _ _ _, cl_fz _ _ _ _⟩
  · refine ⟨fb .quo (cl x) (cl y), fun w => ?_, fun w => ?_⟩
    · go_enter Try.func15, Try.ntmps15
      go_wp2
      go_ret
      exact ⟨_, _, rfl, rfl, fz_lt _ _ _ _, cl_fz _ _ _ _⟩
    · go_enter Try.func11, Try.ntmps11
      go_wp2
      go_ret
      exact ⟨_, _, rfl, rfl, fz_lt _ _ _ _, cl_fz _ _ _ _⟩
  · refine ⟨mdC x y, fun w => ?_, fun w => ?_⟩
    · go_enter Try.func15, Try.ntmps15
      go_wp2_with fail
      go_fit (calcMod_any x y hx hy _)
      rintro e w2 ⟨z, n, rfl, rfl, hz, hc⟩
      have HC : Hid (cl z = mdC x y) := hc
      clear hc
      go_wp2
      go_ret
      exact ⟨_, _, rfl, rfl, hz, HC.out⟩
    · go_enter Try.func11, Try.ntmps11
      go_wp2_with fail
      go_fit (rmod_any x y hx hy _)
      rintro e w2 ⟨z, n, rfl, rfl, hz, hc⟩
      have HC : Hid (cl z = mdC x y) := hc
      clear hc
      go_wp2
      go_ret
      exact ⟨_, _, rfl, rfl, hz, HC.out⟩
  · refine ⟨c5, fun w => ?_, fun w => ?_⟩
    · go_enter Try.func15, Try.ntmps15
      go_wp2_with fail
      go_fit (p5 _)
      rintro e w2 ⟨z, n, rfl, rfl, hz, hc⟩
      have HC : Hid (cl z = c5) := hc
      clear hc
      go_wp2
      go_ret
      exact ⟨_, _, rfl, rfl, hz, HC.out⟩
    · go_enter Try.func11, Try.ntmps11
      go_wp2_with fail
      go_fit (q5 _)
      rintro e w2 ⟨z, n, rfl, rfl, hz, hc⟩
      have HC : Hid (cl z = c5) := hc
      clear hc
      go_wp2
      go_ret
      exact ⟨_, _, rfl, rfl, hz, HC.out⟩

/-- Does a comparison hold? -/
def hdB (k x y : Nat) : Bool :=
  let o := FloatKind.f64.format.order x y
  if k = 6 then o == some .eq else if k = 7 then o != some .eq else if k = 8 then o == some .lt else if k = 9 then (o == some .lt || o == some .eq) else if k = 10 then o == some .gt else (o == some .gt || o == some .eq)
set_option maxHeartbeats 4000000 in
set_option maxRecDepth 100000 in
theorem holds_k (s : ByteArray) (k : Nat) (h6 : 6 ≤ k) (hk : k < 12) (h : OpK s k) (x y : Nat) (w : World) : Calls Try.prog 16 #[.string s, .float .f64 x, .float .f64 y] w fun r w' => r = .returned (.bool (hdB k x y)) ∧ w' = w := by
  obtain ⟨e0, e1, e2, e3, e4, e5, e6, e7, e8, e9, e10, e11, e12, e13, e14⟩ := h
  rcases (show k = 6 ∨ k = 7 ∨ k = 8 ∨ k = 9 ∨ k = 10 ∨ k = 11 by omega) with rfl | rfl | rfl | rfl | rfl | rfl
  all_goals
    simp only [Nat.reduceBEq] at e0 e1 e2 e3 e4 e5 e6 e7 e8 e9 e10 e11 e12 e13 e14
    go_enter Try.func16, Try.ntmps16
    go_wp2
    go_ret
    exact ⟨rfl, rfl⟩
set_option maxHeartbeats 4000000 in
set_option maxRecDepth 100000 in
theorem rholds_k (s : ByteArray) (k : Nat) (h6 : 6 ≤ k) (hk : k < 12) (h : OpK s k) (x y : Nat) (w : World) : Calls Try.prog 13 #[.string s, .float .f64 x, .float .f64 y] w fun r w' => r = .returned (.bool (hdB k x y)) ∧ w' = w := by
  obtain ⟨e0, e1, e2, e3, e4, e5, e6, e7, e8, e9, e10, e11, e12, e13, e14⟩ := h
  rcases (show k = 6 ∨ k = 7 ∨ k = 8 ∨ k = 9 ∨ k = 10 ∨ k = 11 by omega) with rfl | rfl | rfl | rfl | rfl | rfl
  all_goals
    simp only [Nat.reduceBEq] at e0 e1 e2 e3 e4 e5 e6 e7 e8 e9 e10 e11 e12 e13 e14
    go_enter Try.func13, Try.ntmps13
    go_wp2
    go_ret
    exact ⟨rfl, rfl⟩
end Go.Proofs.Ytebjklppbkkinaa
