/- The walks of the reference's leap, yearDays, monthDays, before. -/
import Derived.Test.YtmfeckpcnofkhabDoorCivA
namespace Go.Proofs.YtmfeckpcnofkhabDoor
open Go.RowKit

set_option maxHeartbeats 400000 in
theorem rleap_any (y : Int) (w : World) (h0 : 0 ≤ y) (h1 : y ≤ 10000) : Calls Tryd.prog 57 #[.int .i64 y] w fun e w' => e = .returned (.bool (decide (lp y))) ∧ w' = w := by
  by_cases a : y % 4 = 0
  · by_cases b : y % 100 = 0
    · by_cases c : y % 400 = 0
      · have e : decide (lp y) = true := by simp [lp, c]
        rw [e]; clear e
        go_enter Tryd.func57, Tryd.ntmps57
        go_wp2
        go_ret
        exact ⟨rfl, rfl⟩
      · have e : decide (lp y) = false := by simp [lp, b, c]
        rw [e]; clear e
        go_enter Tryd.func57, Tryd.ntmps57
        go_wp2
        go_ret
        exact ⟨by simp [c], rfl⟩
    · have e : decide (lp y) = true := by simp [lp, a, b]
      rw [e]; clear e
      go_enter Tryd.func57, Tryd.ntmps57
      go_wp2
      go_ret
      exact ⟨rfl, rfl⟩
  · have c : ¬ y % 400 = 0 := by omega
    have e : decide (lp y) = false := by simp [lp, a, c]
    rw [e]; clear e
    go_enter Tryd.func57, Tryd.ntmps57
    go_wp2
    go_ret
    exact ⟨by simp [c], rfl⟩

set_option maxHeartbeats 400000 in
theorem ryearDays_any (y : Int) (w : World) (h0 : 0 ≤ y) (h1 : y ≤ 10000) : Calls Tryd.prog 37 #[.int .i64 y] w fun e w' => e = .returned (.int .i64 (365 + lpN y)) ∧ w' = w := by
  have k := rleap_any y w h0 h1
  by_cases l : lp y
  · rw [lpN_pos l]
    rw [decide_eq_true l] at k
    go_enter Tryd.func37, Tryd.ntmps37
    go_wp2_with fail
    go_fit k
    rintro e w' ⟨rfl, rfl⟩
    go_wp2
    go_ret
    exact ⟨rfl, rfl⟩
  · rw [lpN_neg l]
    rw [decide_eq_false l] at k
    go_enter Tryd.func37, Tryd.ntmps37
    go_wp2_with fail
    go_fit k
    rintro e w' ⟨rfl, rfl⟩
    go_wp2
    go_ret
    exact ⟨rfl, rfl⟩

set_option maxHeartbeats 400000 in
theorem rmonthDays_any (y m : Int) (w : World) (h0 : 0 ≤ y) (h1 : y ≤ 10000) (m0 : 1 ≤ m) (m1 : m ≤ 12) : Calls Tryd.prog 38 #[.int .i64 y, .int .i64 m] w fun e w' => e = .returned (.int .i64 (md y m)) ∧ w' = w := by
  have k := ryearDays_any y w h0 h1
  by_cases a : m = 2
  · subst a
    have hl := lpN_or y
    have e : md y 2 = 365 + lpN y - 337 := by simp [md]; omega
    rw [e]
    generalize lpN y = l at *
    have l0 : 0 ≤ l := by omega
    have l1 : l ≤ 1 := by omega
    clear e hl
    go_enter Tryd.func38, Tryd.ntmps38
    go_wp2_with fail
    go_fit k
    rintro e w' ⟨rfl, rfl⟩
    go_wp2
    go_ret
    exact ⟨rfl, rfl⟩
  · clear k
    have : m = 4 ∨ m = 6 ∨ m = 9 ∨ m = 11 ∨ m = 1 ∨ m = 3 ∨ m = 5 ∨ m = 7 ∨ m = 8 ∨ m = 10 ∨ m = 12 := by omega
    clear m0 m1
    rcases this with rfl | rfl | rfl | rfl | rfl | rfl | rfl | rfl | rfl | rfl | rfl
    all_goals
      go_enter Tryd.func38, Tryd.ntmps38
      go_wp2
      go_ret
      exact ⟨rfl, rfl⟩

theorem rfloor_any (a b q r : Int) (w : World) (h0 : -9223372036854775808 ≤ a) (h1 : a ≤ 9223372036854775807) (b0 : 0 < b) (b1 : b ≤ 86400000) (e : a = q * b + r) (r0 : 0 ≤ r) (r1 : r < b) (hq0 : -9223372036854775807 ≤ q) (hq1 : q ≤ 9223372036854775806) :
    Calls Tryd.prog 36 #[.int .i64 a, .int .i64 b] w fun x w' => x = .returned (.tuple #[.int .i64 q, .int .i64 r]) ∧ Below w.heap.size w w' := by
  by_cases h : 0 ≤ a ∨ r = 0
  · obtain ⟨e1, e2⟩ := tq1 a b q r b0 e r0 r1 h
    clear h e
    go_enter Tryd.func36, Tryd.ntmps36
    go_wp2
    go_region
    go_wp2
    go_ret2
    exact ⟨rfl, (Below.refl _ _).drew⟩
  · obtain ⟨e1, e2⟩ := tq2 a b q r b0 e (by omega) r1 (by omega)
    clear h e
    go_enter Tryd.func36, Tryd.ntmps36
    go_wp2
    go_region
    go_wp2
    go_ret2
    exact ⟨rfl, (Below.refl _ _).drew⟩
end Go.Proofs.YtmfeckpcnofkhabDoor
