/- Whole numbers and odd ones, on both sides. -/
import Derived.Test.YtebjklppbkkinaaMi
import Derived.Test.YtebjklppbkkinaaOd
namespace Go.Proofs.Ytebjklppbkkinaa
open Go.RowKit Ieee

/-- A finite word. -/
def Fi (y : Nat) : Prop := y < 18446744073709551616 ∧ nanB y = false ∧ y % 9223372036854775808 < 0x7ff0000000000000
theorem Fi.inf {y : Nat} (h : Fi y) : infB (cl y) = false := by
  rw [infB_mod y h.2.1, infB_pos _ h.2.2]
/-- Is it whole? -/
def whB (y : Nat) : Bool := FloatKind.f64.format.order y (flr y) == some .eq
theorem whB_turn (y : Nat) (h : nanB y = false) : (FloatKind.f64.format.order (flr y) y == some .eq) = whB y := by
  unfold whB
  rw [key_order _ _ h (flr_num y h), key_order _ _ (flr_num y h) h]
  generalize ky y = a
  generalize ky (flr y) = b
  rcases Int.lt_trichotomy a b with c | c | c
  · rw [Int.compare_eq_lt.2 c, Int.compare_eq_gt.2 c]; rfl
  · subst c; rfl
  · rw [Int.compare_eq_gt.2 c, Int.compare_eq_lt.2 c]; rfl
/-- A number of at most N, made an integer. -/
theorem toInt_bd (x N : Nat) (hx : x % 2 ^ 63 < 0x7ff0000000000000) (hb : uv (x % 2 ^ 63) ≤ N * U) (hN : N < 2 ^ 62) : ∃ K, floatToIntVal .f64 x .i64 = some K ∧ -(N : Int) ≤ K ∧ K ≤ (N : Int) ∧ (x < 2 ^ 63 → 0 ≤ K) := by
  obtain ⟨s, m, i, hr⟩ := read_fin x hx
  have hi := (read_place x s m i hr).1
  have hu := read_uv x s m i hr
  rw [← hu] at hb
  obtain ⟨c, hc⟩ : ∃ c, Toward.zero.cut s (m <<< i.toNat) (-i).toNat = c := ⟨_, rfl⟩
  have hs := ((read_sign x).1 s m i hr).1
  have hcN : c ≤ N := by
    rw [zero_form] at hc
    have h0 : (m <<< i.toNat) / 2 ^ (-i).toNat ≤ N := by
      refine Nat.div_le_of_le_mul ?_
      rw [Nat.shiftLeft_eq]
      have hp : 0 < 2 ^ (min i 0 + 1074).toNat := Nat.two_pow_pos _
      refine Nat.le_of_mul_le_mul_right ?_ hp
      have e1 : m * 2 ^ i.toNat * 2 ^ (min i 0 + 1074).toNat = m * 2 ^ (i + 1074).toNat := by
        rw [Nat.mul_assoc, ← Nat.pow_add]
        congr 2
        omega
      have e2 : 2 ^ (-i).toNat * N * 2 ^ (min i 0 + 1074).toNat = N * U := by
        rw [Nat.mul_comm (2 ^ (-i).toNat) N, Nat.mul_assoc, ← Nat.pow_add, U_eq]
        congr 2
        omega
      rw [e1, e2]
      exact hb
    rw [← hc]
    generalize m <<< i.toNat = n at *
    generalize (-i).toNat = d at *
    by_cases h : d ≤ n.log2 + 2
    · rw [Nat.min_eq_left h, Nat.shiftLeft_eq, Nat.one_mul]
      exact h0
    · have e : (1 : Nat) <<< min d (n.log2 + 2) = 2 ^ (n.log2 + 2) := by rw [Nat.min_eq_right (by omega), Nat.shiftLeft_eq, Nat.one_mul]
      have h1 := Nat.lt_log2_self (n := n)
      have h2 : 2 ^ (n.log2 + 1) ≤ 2 ^ (n.log2 + 2) := pow_le _ _ (by omega)
      rw [e, Nat.div_eq_of_lt (show n < 2 ^ (n.log2 + 2) by omega)]
      exact Nat.zero_le _
  have key : (FloatKind.f64.decode x).toInt .zero = some (Ieee.signed s c 0) := by
    show (Ieee.double.read x).toInt .zero = _
    rw [hr]
    simp only [Datum.toInt, Datum.integral]
    rw [hc]
  refine ⟨Ieee.signed s c 0, ?_, ?_, ?_, ?_⟩
  · unfold floatToIntVal
    rw [key]
    have hx : IntKind.i64.min = -9223372036854775808 := by decide
    have hy : IntKind.i64.max = 9223372036854775807 := by decide
    simp only [hx, hy]
    refine if_pos ?_
    rw [signed_eq]
    cases s <;> simp <;> omega
  · rw [signed_eq]
    cases s <;> simp <;> omega
  · rw [signed_eq]
    cases s <;> simp <;> omega
  · intro hp
    have : s = false := by
      rw [hs]
      unfold sgn
      rw [Nat.div_eq_of_lt hp]; rfl
    rw [this, signed_eq]
    simp
/-- Its whole number, cut. -/
def kInt (y : Nat) : Int := (floatToIntVal .f64 y .i64).getD 0
/-- Is it odd? -/
def odB (y : Nat) : Bool := whB y && (FloatKind.f64.format.order (y % 9223372036854775808) 4845873199050653696 == some .lt) && ((kInt y).tmod 2 != 0)
set_option maxHeartbeats 400000 in
theorem isWhole_any (y : Nat) (h : Fi y) (w : World) : Calls Try.prog 40 #[.float .f64 y] w fun r w' => r = .returned (.bool (whB y)) ∧ w' = w := by
  have kF := floor_num y h.2.1
  have kI := isInf_any y h.1
  rw [h.inf] at kI
  cases hw : whB y
  · unfold whB at hw
    go_enter Try.func40, Try.ntmps40
    go_wp2_with fail
    go_fit (kF _)
    rintro r w ⟨rfl, rfl⟩
    go_wp2
    go_ret
    exact ⟨rfl, rfl⟩
  · unfold whB at hw
    go_enter Try.func40, Try.ntmps40
    go_wp2_with fail
    go_fit (kF _)
    rintro r w ⟨rfl, rfl⟩
    go_wp2_with fail
    go_fit (kI _)
    rintro r w ⟨rfl, rfl⟩
    go_wp2
    go_ret
    exact ⟨rfl, rfl⟩
set_option maxHeartbeats 400000 in
theorem whole_ref (y : Nat) (h : Fi y) (w : World) : Calls Try.prog 29 #[.float .f64 y] w fun r w' => r = .returned (.bool (whB y)) ∧ w' = w := by
  have kF := floor_num y h.2.1
  have kI := endless_any y h.1
  rw [h.inf] at kI
  have kB := bad_any y
  rw [h.2.1] at kB
  have ht := whB_turn y h.2.1
  generalize whB y = B at *
  go_enter Try.func29, Try.ntmps29
  go_wp2_with fail
  go_fit (kB _)
  rintro r w ⟨rfl, rfl⟩
  go_wp2_with fail
  go_fit (kI _)
  rintro r w ⟨rfl, rfl⟩
  go_wp2_with fail
  go_fit (kF _)
  rintro r w ⟨rfl, rfl⟩
  go_wp2
  go_ret
  exact ⟨rfl, rfl⟩
theorem gen53 (e f C A B : Nat) (he : e = f + 1) (hC : C = 4503599627370496) (hA : A = 2 ^ e) (hB : B = 2 ^ f) : C * A = 9007199254740992 * B := by
  subst he hC hA hB
  rw [Nat.pow_succ]
  omega
theorem rd53 : Ieee.double.read 4845873199050653696 = .number false (2 ^ 52) 1 := by decide
theorem uv_53 : uv 4845873199050653696 = 9007199254740992 * U := by
  have h := read_uv 4845873199050653696 _ _ _ rd53
  rw [show 4845873199050653696 % 2 ^ 63 = 4845873199050653696 by decide] at h
  rw [← h]
  exact gen53 _ 1074 (2 ^ 52) _ U (by decide) rfl rfl U_eq
theorem small_int (y : Nat) (h : Fi y) (hl : (FloatKind.f64.format.order (y % 9223372036854775808) 4845873199050653696 == some .lt) = true) : ∃ K, floatToIntVal .f64 y .i64 = some K ∧ -9007199254740992 ≤ K ∧ K ≤ 9007199254740992 := by
  rw [pos_order _ _ h.2.2 (by decide)] at hl
  have hlt := Nat.compare_eq_lt.1 (Option.some.inj (eq_of_beq hl))
  have hu := uv_mono _ _ (Nat.le_of_lt hlt)
  rw [uv_53] at hu
  obtain ⟨K, h1, h2, h3, _⟩ := toInt_bd y 9007199254740992 h.2.2 hu (by decide)
  exact ⟨K, h1, h2, h3⟩
set_option maxHeartbeats 1000000 in
theorem isOdd_any (y : Nat) (h : Fi y) (w : World) : Calls Try.prog 44 #[.float .f64 y] w fun r w' => r = .returned (.bool (odB y)) ∧ w' = w := by
  have kW := isWhole_any y h
  have kA := abs_any y h.1
  cases hw : whB y
  · have e : odB y = false := by unfold odB; rw [hw]; rfl
    rw [hw] at kW
    rw [e]
    go_enter Try.func44, Try.ntmps44
    go_wp2_with fail
    go_fit (kW _)
    rintro r w ⟨rfl, rfl⟩
    go_wp2
    go_ret
    exact ⟨rfl, rfl⟩
  · rw [hw] at kW
    cases hl : (FloatKind.f64.format.order (y % 9223372036854775808) 4845873199050653696 == some .lt)
    · have e : odB y = false := by unfold odB; rw [hw, hl]; rfl
      rw [e]
      generalize y % 9223372036854775808 = y' at *
      go_enter Try.func44, Try.ntmps44
      go_wp2_with fail
      go_fit (kW _)
      rintro r w ⟨rfl, rfl⟩
      go_wp2_with fail
      go_fit (kA _)
      rintro r w ⟨rfl, rfl⟩
      go_wp2
      go_ret
      exact ⟨rfl, rfl⟩
    · have e : odB y = ((kInt y).tmod 2 != 0) := by unfold odB; rw [hw, hl]; rfl
      rw [e]
      obtain ⟨K, hK, hK1, hK2⟩ := small_int y h hl
      have hcv : ∀ w, (convert 22 2 (.float .f64 y)).run Try.prog w = .ok (.int .i64 K) w := fun w => run_convert_float_int w 22 2 .f64 .i64 y K (by rw [Try.underlying22]; rfl) Try.underlying2 hK
      have e2 : kInt y = K := by unfold kInt; rw [hK]; rfl
      rw [e2]
      generalize y % 9223372036854775808 = y' at *
      clear hK e e2
      go_enter Try.func44, Try.ntmps44
      go_wp2_with fail
      go_fit (kW _)
      rintro r w ⟨rfl, rfl⟩
      go_wp2_with fail
      go_fit (kA _)
      rintro r w ⟨rfl, rfl⟩
      go_wp2
      go_ret
      exact ⟨rfl, rfl⟩
set_option maxHeartbeats 1000000 in
theorem odd_ref (y : Nat) (h : Fi y) (w : World) : Calls Try.prog 33 #[.float .f64 y] w fun r w' => r = .returned (.bool (odB y)) ∧ w' = w := by
  have kW := whole_ref y h
  have kA := abs_any y h.1
  cases hw : whB y
  · have e : odB y = false := by unfold odB; rw [hw]; rfl
    rw [hw] at kW
    rw [e]
    go_enter Try.func33, Try.ntmps33
    go_wp2_with fail
    go_fit (kW _)
    rintro r w ⟨rfl, rfl⟩
    go_wp2
    go_ret
    exact ⟨rfl, rfl⟩
  · rw [hw] at kW
    cases hl : (FloatKind.f64.format.order (y % 9223372036854775808) 4845873199050653696 == some .lt)
    · have e : odB y = false := by unfold odB; rw [hw, hl]; rfl
      rw [e]
      generalize y % 9223372036854775808 = y' at *
      go_enter Try.func33, Try.ntmps33
      go_wp2_with fail
      go_fit (kW _)
      rintro r w ⟨rfl, rfl⟩
      go_wp2_with fail
      go_fit (kA _)
      rintro r w ⟨rfl, rfl⟩
      go_wp2
      go_ret
      exact ⟨rfl, rfl⟩
    · have e : odB y = ((kInt y).tmod 2 != 0) := by unfold odB; rw [hw, hl]; rfl
      rw [e]
      obtain ⟨K, hK, hK1, hK2⟩ := small_int y h hl
      have hcv : ∀ w, (convert 22 2 (.float .f64 y)).run Try.prog w = .ok (.int .i64 K) w := fun w => run_convert_float_int w 22 2 .f64 .i64 y K (by rw [Try.underlying22]; rfl) Try.underlying2 hK
      have e2 : kInt y = K := by unfold kInt; rw [hK]; rfl
      rw [e2]
      generalize y % 9223372036854775808 = y' at *
      clear hK e e2
      go_enter Try.func33, Try.ntmps33
      go_wp2_with fail
      go_fit (kW _)
      rintro r w ⟨rfl, rfl⟩
      go_wp2_with fail
      go_fit (kA _)
      rintro r w ⟨rfl, rfl⟩
      go_wp2
      go_ret
      exact ⟨rfl, rfl⟩
end Go.Proofs.Ytebjklppbkkinaa
