/- The walks of Floor and of both sides' Millis. -/
import Derived.Test.YtmfeckpcnofkhaaRows
import Derived.Test.YtmfeckpcnofkhaaFlt
import Derived.WalkKit
import Derived.WalkSpells
import Derived.WalkLawsBesides
import Derived.Deep.Draws
import Derived.Deep.DeepFit
import Derived.Laws.Externs
namespace Go.Proofs.Ytmfeckpcnofkhaa
open Go.RowKit

theorem call7 (args : Array Value) (w : World) : (callFunc 7 args).run Try.prog w = ((Extern.MathFloor.toIntegral "math.archFloor" .down args).run Try.prog w).andThen fun v w' => .ok (.value v) w' :=
  run_callFunc_extern Try.func7 (by kernel_rfl) (by kernel_rfl) (by kernel_rfl) (by kernel_rfl) args w

/-- A number or an infinity made whole, downwards. -/
def flr (y : Nat) : Nat := FloatKind.f64.encode ((Ieee.double.read y).integral .down)
theorem ti_num (y : Nat) (n : String) (h : ¬ isN y) : Extern.MathFloor.toIntegral n .down #[.float .f64 y] = pure (.float .f64 (flr y)) := by
  conv => lhs; whnf
  have e : FloatKind.f64.decode y = Ieee.double.read y := rfl
  rw [e]
  unfold flr
  cases hr : Ieee.double.read y with
  | nan s f => exact absurd ⟨s, f, hr⟩ h
  | infinity s => rfl
  | number s m i => rfl
theorem ti_nan (y : Nat) (n : String) (h : isN y) (w : World) : ∃ z k, (Extern.MathFloor.toIntegral n .down #[.float .f64 y]).run Try.prog w = .ok (.float .f64 z) (w.drewN k) ∧ isN z := by
  obtain ⟨s, t, hr⟩ := h
  have ht := read_nan_lt y s t hr
  have e : FloatKind.f64.decode y = Ieee.double.read y := rfl
  suffices H : ∀ X : Sem Value, X = Extern.MathFloor.toIntegral n .down #[.float .f64 y] → ∃ z k, X.run Try.prog w = .ok (.float .f64 z) (w.drewN k) ∧ isN z from H _ rfl
  intro X hX
  conv at hX => rhs; whnf
  rw [e, hr] at hX
  dsimp only at hX
  subst hX
  split
  · exact ⟨y, 0, by simp; rfl, ⟨s, t, hr⟩⟩
  · simp only [Sem.run_bind, run_choose_drew, Question.forced]
    simp only [Nat.reduceEqDiff, decide_false, Bool.false_eq_true, if_false, Result.andThen, Sem.run_pure]
    split
    · exact ⟨_, 1, rfl, ⟨s, t, hr⟩⟩
    · exact ⟨_, 1, rfl, quiet_isN s t ht⟩
theorem call7_num (y : Nat) (h : ¬ isN y) (w : World) : (callFunc 7 #[.float .f64 y]).run Try.prog w = .ok (.value (.float .f64 (flr y))) w := by
  rw [call7, ti_num y _ h]; rfl
theorem call7_nan (y : Nat) (h : isN y) (w : World) : ∃ z k, (callFunc 7 #[.float .f64 y]).run Try.prog w = .ok (.value (.float .f64 z)) (w.drewN k) ∧ isN z := by
  obtain ⟨z, k, hz, hn⟩ := ti_nan y "math.archFloor" h w
  exact ⟨z, k, by rw [call7, hz]; rfl, hn⟩

set_option maxHeartbeats 400000 in
theorem floor_num (y : Nat) (h : ¬ isN y) (w : World) : Calls Try.prog 6 #[.float .f64 y] w fun e w' => e = .returned (.float .f64 (flr y)) ∧ w' = w := by
  have hc := call7_num y h w
  go_enter Try.func6, Try.ntmps6
  go_wp2
  go_ret
  exact ⟨rfl, rfl⟩
set_option maxHeartbeats 400000 in
theorem floor_nan (y : Nat) (h : isN y) (w : World) : Calls Try.prog 6 #[.float .f64 y] w fun e w' => ∃ z k, e = .returned (.float .f64 z) ∧ w' = w.drewN k ∧ isN z := by
  obtain ⟨z, k, hc, hz⟩ := call7_nan y h w
  go_enter Try.func6, Try.ntmps6
  go_wp2
  go_ret
  exact ⟨z, k, rfl, rfl, hz⟩
end Go.Proofs.Ytmfeckpcnofkhaa
