/- Floor of any float; Round on both sides. -/
import Derived.Test.YtebjklppbkkinaaMh
namespace Go.Proofs.Ytebjklppbkkinaa
open Go.RowKit Ieee

theorem nanB_of (n : Nat) (h : 0x7ff0000000000000 < n % 2 ^ 63) : nanB n = true := by
  rw [nanB_eq]; exact decide_eq_true h
theorem read_nan_lt (n : Nat) (s : Bool) (f : Nat) (h : Ieee.double.read n = .nan s f) : f < 2 ^ 52 := by
  unfold Ieee.Format.read at h
  have h1 : Ieee.double.binade = 2 ^ 52 := rfl
  have h2 : Ieee.double.infRung = 0x7ff0000000000000 := by decide
  have h3 : Ieee.double.signWeight = 2 ^ 63 := rfl
  simp only [h1, h2, h3] at h
  split at h
  · cases h
  · split at h
    · cases h
    · split at h
      · cases h
      · cases h
        have := Nat.mod_lt n (show 2 ^ 63 > 0 by decide)
        omega
theorem quiet_nan (s : Bool) (t : Nat) (ht : t < 2 ^ 52) : nanB (FloatKind.f64.encode (.nan s (FloatKind.f64.format.quiet t))) = true ∧ FloatKind.f64.encode (.nan s (FloatKind.f64.format.quiet t)) < 18446744073709551616 := by
  have h1 : FloatKind.f64.format.quiet t = t ||| 2 ^ 51 := rfl
  have h2 : t ||| 2 ^ 51 < 2 ^ 52 := Nat.or_lt_two_pow ht (by decide)
  have h3 : 2 ^ 51 ≤ t ||| 2 ^ 51 := Nat.right_le_or
  rw [h1]
  generalize t ||| 2 ^ 51 = q at *
  have h4 : FloatKind.f64.encode (.nan s q) = Ieee.double.word s (0x7ff0000000000000 + q % 2 ^ 52) := rfl
  rw [h4]
  have h5 : Ieee.double.signWeight = 2 ^ 63 := rfl
  constructor
  · apply nanB_of
    unfold Ieee.Format.word
    rw [h5]
    cases s <;> simp <;> omega
  · unfold Ieee.Format.word
    rw [h5]
    cases s <;> simp <;> omega
theorem ti_nan (y : Nat) (hy : y < 18446744073709551616) (n : String) (h : nanB y = true) (w : World) : ∃ z k, (Extern.MathFloor.toIntegral n .down #[.float .f64 y]).run Try.prog w = .ok (.float .f64 z) (w.drewN k) ∧ nanB z = true ∧ z < 18446744073709551616 := by
  obtain ⟨s, t, hr⟩ : ∃ s t, Ieee.double.read y = .nan s t := by
    unfold nanB at h
    cases hr : Ieee.double.read y with
    | nan s f => exact ⟨s, f, rfl⟩
    | infinity s => rw [hr] at h; cases h
    | number s m i => rw [hr] at h; cases h
  have ht := read_nan_lt y s t hr
  have e : FloatKind.f64.decode y = Ieee.double.read y := rfl
  suffices H : ∀ X : Sem Value, X = Extern.MathFloor.toIntegral n .down #[.float .f64 y] → ∃ z k, X.run Try.prog w = .ok (.float .f64 z) (w.drewN k) ∧ nanB z = true ∧ z < 18446744073709551616 from H _ rfl
  intro X hX
  conv at hX => rhs; whnf
  rw [e, hr] at hX
  dsimp only at hX
  subst hX
  split
  · exact ⟨y, 0, by simp; rfl, h, hy⟩
  · simp only [Sem.run_bind, run_choose_drew, Question.forced]
    simp only [Nat.reduceEqDiff, decide_false, Bool.false_eq_true, if_false, Result.andThen, Sem.run_pure]
    split
    · exact ⟨_, 1, rfl, h, hy⟩
    · exact ⟨_, 1, rfl, quiet_nan s t ht⟩
theorem flr_lt (y : Nat) : flr y < 18446744073709551616 := FloatKind.f64.format.write_lt _
/-- A class made whole. -/
def flrC (c : Option Nat) : Option Nat := c.map flr
set_option maxRecDepth 100000 in
set_option maxHeartbeats 400000 in
theorem floor_any (y : Nat) (hy : y < 18446744073709551616) (w : World) : Calls Try.prog 47 #[.float .f64 y] w (RF w (flrC (cl y))) := by
  cases hn : nanB y
  · refine (floor_num y hn w).mono ?_
    rintro r w' ⟨rfl, rfl⟩
    refine ⟨_, 0, rfl, rfl, flr_lt y, ?_⟩
    rw [cl_num hn, cl_num (flr_num y hn)]; rfl
  · obtain ⟨z, k, hz, hzn, hzl⟩ := ti_nan y hy "math.archFloor" hn w
    have hc : (callFunc 66 #[.float .f64 y]).run Try.prog w = .ok (.value (.float .f64 z)) (w.drewN k) := by rw [callFloor0, hz]; rfl
    go_enter Try.func47, Try.ntmps47
    go_wp2
    go_ret
    exact ⟨z, k, rfl, rfl, hzl, by rw [cl_nan hn, cl_nan hzn]; rfl⟩
/-- Round's class. -/
def rdC (x t : Option Nat) : Option Nat := fb .quo (flrC (fb .add (fb .mul x (fb .quo (some 4607182418800017408) t)) (some 4602678819172646912))) (fb .quo (some 4607182418800017408) t)
end Go.Proofs.Ytebjklppbkkinaa
