/- The walks of the reference's leap, yearDays, monthDays, before. -/
import Derived.Test.YtmfeckpcnofkhaaDoorCivA
namespace Go.Proofs.YtmfeckpcnofkhaaDoor
open Go.RowKit

set_option maxHeartbeats 400000 in
theorem rleap_any (y : Int) (w : World) (h0 : 0 ≤ y) (h1 : y ≤ 10000) : Calls Tryd.prog 58 #[.int .i64 y] w fun e w' => e = .returned (.bool (decide (lp y))) ∧ w' = w := by
  by_cases a : y % 4 = 0
  · by_cases b : y % 100 = 0
    · by_cases c : y % 400 = 0
      · have e : decide (lp y) = true := by simp [lp, c]
        rw [e]; clear e
        go_enter Tryd.func58, Tryd.ntmps58
        go_wp2
        go_ret
        exact ⟨rfl, rfl⟩
      · have e : decide (lp y) = false := by simp [lp, b, c]
        rw [e]; clear e
        go_enter Tryd.func58, Tryd.ntmps58
        go_wp2
        go_ret
        exact ⟨by simp [c], rfl⟩
    · have e : decide (lp y) = true := by simp [lp, a, b]
      rw [e]; clear e
      go_enter Tryd.func58, Tryd.ntmps58
      go_wp2
      go_ret
      exact ⟨rfl, rfl⟩
  · have c : ¬ y % 400 = 0 := by omega
    have e : decide (lp y) = false := by simp [lp, a, c]
    rw [e]; clear e
    go_enter Tryd.func58, Tryd.ntmps58
    go_wp2
    go_ret
    exact ⟨by simp [c], rfl⟩

set_option maxHeartbeats 400000 in
theorem ryearDays_any (y : Int) (w : World) (h0 : 0 ≤ y) (h1 : y ≤ 10000) : Calls Tryd.prog 42 #[.int .i64 y] w fun e w' => e = .returned (.int .i64 (365 + lpN y)) ∧ w' = w := by
  have k := rleap_any y w h0 h1
  by_cases l : lp y
  · rw [lpN_pos l]
    rw [decide_eq_true l] at k
    go_enter Tryd.func42, Tryd.ntmps42
    go_wp2_with fail
    go_fit k
    rintro e w' ⟨rfl, rfl⟩
    go_wp2
    go_ret
    exact ⟨rfl, rfl⟩
  · rw [lpN_neg l]
    rw [decide_eq_false l] at k
    go_enter Tryd.func42, Tryd.ntmps42
    go_wp2_with fail
    go_fit k
    rintro e w' ⟨rfl, rfl⟩
    go_wp2
    go_ret
    exact ⟨rfl, rfl⟩

set_option maxHeartbeats 400000 in
theorem rmonthDays_any (y m : Int) (w : World) (h0 : 0 ≤ y) (h1 : y ≤ 10000) (m0 : 1 ≤ m) (m1 : m ≤ 12) : Calls Tryd.prog 28 #[.int .i64 y, .int .i64 m] w fun e w' => e = .returned (.int .i64 (md y m)) ∧ w' = w := by
  have k := ryearDays_any y w h0 h1
  by_cases a : m = 2
  · subst a
    have hl := lpN_or y
    have e : md y 2 = 365 + lpN y - 337 := by simp [md]; omega
    rw [e]
    generalize lpN y = l at *
    have l0 : 0 ≤ l := by omega
    have l1 : l ≤ 1 := by omega
    clear e hl
    go_enter Tryd.func28, Tryd.ntmps28
    go_wp2_with fail
    go_fit k
    rintro e w' ⟨rfl, rfl⟩
    go_wp2
    go_ret
    exact ⟨rfl, rfl⟩
  · clear k
    have : m = 4 ∨ m = 6 ∨ m = 9 ∨ m = 11 ∨ m = 1 ∨ m = 3 ∨ m = 5 ∨ m = 7 ∨ m = 8 ∨ m = 10 ∨ m = 12 := by omega
    clear m0 m1
    rcases this with rfl | rfl | rfl | rfl | rfl | rfl | rfl | rfl | rfl | rfl | rfl
    all_goals
      go_enter Tryd.func28, Tryd.ntmps28
      go_wp2
      go_ret
      exact ⟨rfl, rfl⟩

set_option maxHeartbeats 400000 in
theorem rbefore_any (y : Int) (w : World) (h0 : 0 ≤ y) (h1 : y ≤ 9999) : Calls Tryd.prog 29 #[.int .i64 y] w fun e w' => e = .returned (.int .i64 (-719528 + dB y)) ∧ w' = w := by
  have k := fun z : Int => fun hz0 : 0 ≤ z => fun hz1 : z ≤ 10000 => fun w => ryearDays_any z w hz0 hz1
  go_enter Tryd.func29, Tryd.ntmps29
  go_wp2
  go_loopw [4, 3] (fun t u w' => ∃ z x : Int, t = .int .i64 z ∧ u = .int .i64 x ∧ x = -719528 + dB z ∧ 0 ≤ z ∧ z ≤ y ∧ w' = w) (fun t _ _ => (y - RowKit.intOf t).toNat)
  case atStart => exact ⟨0, _, rfl, rfl, by rw [dB_zero]; rfl, by omega, by omega, rfl⟩
  case round =>
    obtain ⟨z, x, rfl, rfl, hx, z0, z1, rfl⟩ := hrel
    have hB0 := dB_ge z z0
    have hB1 := dB_le z z0
    have x0 : -719528 ≤ x := by omega
    have x1 : x ≤ 4000000 := by omega
    have HX : Hid (x = -719528 + dB z) := hx
    clear hx hB0 hB1
    by_cases c : z = y
    · subst c
      clear k
      go_wp2
      go_ret
      have em := HX.out
      exact ⟨by rw [← em]; rfl, rfl⟩
    · have c1 : z < y := by omega
      have hs := dB_succ z
      have hl := lpN_or z
      go_wp2_with fail
      go_fit (k z (by omega) (by omega) _)
      rintro e w' ⟨rfl, rfl⟩
      clear k
      have HS : Hid (dB (z + 1) = dB z + 365 + lpN z) := hs
      clear hs
      generalize hE : lpN z = l at *
      have l0 : 0 ≤ l := by omega
      have l1 : l ≤ 1 := by omega
      clear hl
      go_wp2
      exact ⟨⟨z + 1, x + (365 + l), rfl, rfl, by have := HS.out; have := HX.out; omega, by omega, by omega, by trivial⟩, by simp [RowKit.intOf]; omega⟩
end Go.Proofs.YtmfeckpcnofkhaaDoor
