/- The walks of divided, isLeap, monthDays, daysBefore, yearOf, monthOf. -/
import Derived.Test.YtmfeckpcnofkhabDoorRows
import Derived.Test.YtmfeckpcnofkhabDoorCal
import Derived.WalkKit
import Derived.WalkSpells
import Derived.WalkLawsBesides
import Derived.Below
import Derived.Deep.DeepFit
namespace Go.Proofs.YtmfeckpcnofkhabDoor
open Go.RowKit

theorem wrI (x : Int) (a : -9223372036854775808 ≤ x) (b : x ≤ 9223372036854775807) : IntKind.i64.wrap x = x := by
  unfold IntKind.wrap IntKind.signed IntKind.bits
  simp
  omega
theorem tq1 (a b q r : Int) (hb : 0 < b) (e : a = q * b + r) (hr0 : 0 ≤ r) (hr1 : r < b) (h : 0 ≤ a ∨ r = 0) : a.tdiv b = q ∧ a.tmod b = r := by
  have e1 : a / b = q := by rw [e, Int.add_comm, Int.add_mul_ediv_right _ _ (by omega), Int.ediv_eq_zero_of_lt hr0 hr1]; omega
  have e2 : a % b = r := by rw [e, Int.add_comm, Int.add_mul_emod_self_right, Int.emod_eq_of_lt hr0 hr1]
  by_cases h0 : 0 ≤ a
  · rw [Int.tdiv_eq_ediv_of_nonneg h0, Int.tmod_eq_emod_of_nonneg h0]; exact ⟨e1, e2⟩
  · have hr : r = 0 := by omega
    have hd : b ∣ a := Int.dvd_of_emod_eq_zero (by omega)
    rw [Int.tdiv_eq_ediv_of_dvd hd, Int.tmod_eq_zero_of_dvd hd]; exact ⟨e1, by omega⟩
theorem tq2 (a b q r : Int) (hb : 0 < b) (e : a = q * b + r) (hr0 : 0 < r) (hr1 : r < b) (h : a < 0) : a.tdiv b = q + 1 ∧ a.tmod b = r - b := by
  have e1 : a / b = q := by rw [e, Int.add_comm, Int.add_mul_ediv_right _ _ (by omega), Int.ediv_eq_zero_of_lt (by omega) hr1]; omega
  have e2 : a % b = r := by rw [e, Int.add_comm, Int.add_mul_emod_self_right, Int.emod_eq_of_lt (by omega) hr1]
  have hd : ¬ b ∣ a := fun hd => by have := Int.emod_eq_zero_of_dvd hd; omega
  have e3 : b.sign = 1 := Int.sign_eq_one_of_pos hb
  constructor
  · rw [Int.tdiv_eq_ediv, if_neg (by rintro (h' | h'); omega; exact hd h'), e3, e1]
  · rw [Int.tmod_eq_emod, if_neg (by rintro (h' | h'); omega; exact hd h'), e2]; omega

set_option maxHeartbeats 400000 in
theorem divided_any (a b q r : Int) (w : World) (ha0 : -9223372036854775808 ≤ a) (ha1 : a ≤ 9223372036854775807) (hb0 : 0 < b) (hb1 : b ≤ 86400000) (e : a = q * b + r) (hr0 : 0 ≤ r) (hr1 : r < b) (hq0 : -9223372036854775807 ≤ q) (hq1 : q ≤ 9223372036854775806) :
    Calls Tryd.prog 23 #[.int .i64 a, .int .i64 b] w fun e w' => e = .returned (.tuple #[.int .i64 q, .int .i64 r]) ∧ Below w.heap.size w w' := by
  by_cases h : 0 ≤ a ∨ r = 0
  · obtain ⟨e1, e2⟩ := tq1 a b q r hb0 e hr0 hr1 h
    clear h e
    go_enter Tryd.func23, Tryd.ntmps23
    go_wp2
    go_region
    go_wp2
    go_ret2
    exact ⟨rfl, (Below.refl _ _).drew⟩
  · obtain ⟨e1, e2⟩ := tq2 a b q r hb0 e (by omega) hr1 (by omega)
    clear h e
    go_enter Tryd.func23, Tryd.ntmps23
    go_wp2
    go_region
    go_wp2
    go_ret2
    exact ⟨rfl, (Below.refl _ _).drew⟩

set_option maxHeartbeats 400000 in
theorem isLeap_any (y : Int) (w : World) (h0 : 0 ≤ y) (h1 : y ≤ 10000) : Calls Tryd.prog 46 #[.int .i64 y] w fun e w' => e = .returned (.bool (decide (lp y))) ∧ w' = w := by
  by_cases a : y % 4 = 0
  · by_cases b : y % 100 = 0
    · by_cases c : y % 400 = 0
      · have e : decide (lp y) = true := by simp [lp, c]
        rw [e]; clear e
        go_enter Tryd.func46, Tryd.ntmps46
        go_wp2
        go_ret
        exact ⟨rfl, rfl⟩
      · have e : decide (lp y) = false := by simp [lp, b, c]
        rw [e]; clear e
        go_enter Tryd.func46, Tryd.ntmps46
        go_wp2
        go_ret
        exact ⟨by simp [c], rfl⟩
    · have e : decide (lp y) = true := by simp [lp, a, b]
      rw [e]; clear e
      go_enter Tryd.func46, Tryd.ntmps46
      go_wp2
      go_ret
      exact ⟨rfl, rfl⟩
  · have c : ¬ y % 400 = 0 := by omega
    have e : decide (lp y) = false := by simp [lp, a, c]
    rw [e]; clear e
    go_enter Tryd.func46, Tryd.ntmps46
    go_wp2
    go_ret
    exact ⟨by simp [c], rfl⟩

set_option maxHeartbeats 400000 in
theorem monthDays_any (y m : Int) (w : World) (h0 : 0 ≤ y) (h1 : y ≤ 10000) (m0 : 1 ≤ m) (m1 : m ≤ 12) : Calls Tryd.prog 27 #[.int .i64 y, .int .i64 m] w fun e w' => e = .returned (.int .i64 (md y m)) ∧ w' = w := by
  have k := isLeap_any y w h0 h1
  by_cases a : m = 2
  · subst a
    by_cases l : lp y
    · have e : md y 2 = 29 := by simp [md, lpN_pos l]
      rw [e]
      rw [decide_eq_true l] at k
      go_enter Tryd.func27, Tryd.ntmps27
      go_wp2_with fail
      go_fit k
      rintro e w' ⟨rfl, rfl⟩
      go_wp2
      go_ret
      exact ⟨rfl, rfl⟩
    · have e : md y 2 = 28 := by simp [md, lpN_neg l]
      rw [e]
      rw [decide_eq_false l] at k
      go_enter Tryd.func27, Tryd.ntmps27
      go_wp2_with fail
      go_fit k
      rintro e w' ⟨rfl, rfl⟩
      go_wp2
      go_ret
      exact ⟨rfl, rfl⟩
  · clear k
    have : m = 4 ∨ m = 6 ∨ m = 9 ∨ m = 11 ∨ m = 1 ∨ m = 3 ∨ m = 5 ∨ m = 7 ∨ m = 8 ∨ m = 10 ∨ m = 12 := by omega
    clear m0 m1
    rcases this with rfl | rfl | rfl | rfl | rfl | rfl | rfl | rfl | rfl | rfl | rfl
    iterate 4
      · go_enter Tryd.func27, Tryd.ntmps27
        go_wp2
        go_ret
        exact ⟨rfl, rfl⟩
    all_goals
      go_enter Tryd.func27, Tryd.ntmps27
      go_wp2
      go_ret
      exact ⟨rfl, rfl⟩

set_option maxHeartbeats 400000 in
theorem daysBefore_any (y : Int) (w : World) (h0 : 0 ≤ y) (h1 : y ≤ 10000) : Calls Tryd.prog 25 #[.int .i64 y] w fun e w' => e = .returned (.int .i64 (dB y)) ∧ w' = w := by
  unfold dB
  go_enter Tryd.func25, Tryd.ntmps25
  go_wp2
  go_ret
  exact ⟨rfl, rfl⟩

set_option maxHeartbeats 400000 in
theorem yearOf_any (d y : Int) (w : World) (h0 : 0 ≤ d) (h1 : d ≤ 146096) (y0 : 0 ≤ y) (y1 : y ≤ 399) (b0 : dB y ≤ d) (b1 : d < dB (y + 1)) : Calls Tryd.prog 24 #[.int .i64 d] w fun e w' => e = .returned (.int .i64 y) ∧ w' = w := by
  have hk0 : d / 366 ≤ y := by
    by_cases c : y + 1 ≤ d / 366
    · have h2 := dB_mono _ _ c
      have h3 := dB_le (d / 366) (by omega)
      omega
    · omega
  have k := fun z : Int => fun hz0 : 0 ≤ z => fun hz1 : z ≤ 10000 => fun w => daysBefore_any z w hz0 hz1
  have HB : Hid (dB y ≤ d ∧ d < dB (y + 1)) := ⟨b0, b1⟩
  clear b0 b1
  go_enter Tryd.func24, Tryd.ntmps24
  go_wp2
  go_loopw [3] (fun t w' => ∃ z : Int, t = .int .i64 z ∧ 0 ≤ z ∧ z ≤ y ∧ w' = w) (fun t _ => (y - RowKit.intOf t).toNat)
  case atStart => exact ⟨_, rfl, by omega, hk0, rfl⟩
  case round =>
    obtain ⟨z, rfl, z0, z1, rfl⟩ := hrel
    go_wp2_with fail
    go_fit (k (z + 1) (by omega) (by omega) _)
    rintro e w' ⟨rfl, rfl⟩
    by_cases c : z = y
    · subst c
      have c1 : ¬ dB (z + 1) ≤ d := by have := HB.out; omega
      go_wp2
      go_ret
      exact ⟨rfl, rfl⟩
    · have c1 : dB (z + 1) ≤ d := by have := HB.out; have := dB_mono (z + 1) y (by omega); omega
      go_wp2
      exact ⟨⟨z + 1, rfl, by omega, by omega, by trivial⟩, by simp [RowKit.intOf]; omega⟩
set_option maxHeartbeats 400000 in
theorem monthOf_any (y d m : Int) (w : World) (h0 : 0 ≤ y) (h1 : y ≤ 10000) (m0 : 1 ≤ m) (m1 : m ≤ 12) (q0 : cum y m ≤ d) (q1 : d < cum y (m + 1)) : Calls Tryd.prog 26 #[.int .i64 y, .int .i64 d] w fun e w' => e = .returned (.tuple #[.int .i64 m, .int .i64 (d - cum y m)]) ∧ Below w.heap.size w w' := by
  have HB : Hid (cum y m ≤ d ∧ d < cum y (m + 1)) := ⟨q0, q1⟩
  have hd0 : 0 ≤ d := by have := cum_bd y m m0 (by omega); omega
  have hd1 : d ≤ 366 := by have := cum_bd y (m + 1) (by omega) (by omega); omega
  clear q0 q1
  go_enter Tryd.func26, Tryd.ntmps26
  go_wp2
  go_loopw [4, 1] (fun t u w' => ∃ z x : Int, t = .int .i64 z ∧ u = .int .i64 x ∧ x = d - cum y z ∧ 0 ≤ x ∧ x ≤ 366 ∧ 1 ≤ z ∧ z ≤ m ∧ Below w.heap.size w w') (fun t _ _ => (m - RowKit.intOf t).toNat)
  case atStart => exact ⟨1, d, rfl, rfl, by rw [cum_one]; omega, by omega, by omega, by omega, by omega, Below.refl _ _⟩
  case round =>
    obtain ⟨z, x, rfl, rfl, hx, x0, x1, z0, z1, hb⟩ := hrel
    have HX : Hid (x = d - cum y z) := hx
    clear hx
    have k := fun w => monthDays_any y z w h0 h1 z0 (by omega)
    have hs := cum_succ y z z0 (by omega)
    have hmd := md_bd y z
    go_wp2_with fail
    go_fit (k _)
    rintro e w' ⟨rfl, rfl⟩
    by_cases c : z = m
    · subst c
      have c1 : ¬ md y z ≤ x := by have := HB.out; have := HX.out; omega
      clear k hs hmd
      go_wp2
      go_ret2
      exact ⟨by have hx := HX.out; subst hx; rfl, by assumption⟩
    · have c1 : md y z ≤ x := by
        have h5 := HB.out
        have h6 := HX.out
        have h7 : cum y (z + 1) ≤ cum y m := cum_mono y (z + 1) m (by omega) (by omega) (by omega)
        omega
      have HS : Hid (cum y (z + 1) = cum y z + md y z) := hs
      clear hs
      go_wp2_with fail
      go_fit (k _)
      rintro e w' ⟨rfl, rfl⟩
      clear k
      go_wp2
      exact ⟨⟨z + 1, x - md y z, rfl, rfl, by have := HS.out; have := HX.out; omega, by omega, by omega, by omega, by omega, by assumption⟩, by simp [RowKit.intOf]; omega⟩
end Go.Proofs.YtmfeckpcnofkhabDoor
