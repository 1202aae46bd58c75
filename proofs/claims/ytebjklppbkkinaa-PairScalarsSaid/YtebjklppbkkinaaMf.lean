/- The reference's remainder: its parts. -/
import Derived.Test.YtebjklppbkkinaaMe
namespace Go.Proofs.Ytebjklppbkkinaa
open Go.RowKit Ieee

theorem sg_lt (x : Nat) (hx : x < 18446744073709551616) : sg x = 0 ∨ sg x = 2 ^ 63 := by unfold sg; omega
theorem and63 (x : Nat) (hx : x < 18446744073709551616) : bits .and .u64 (x : Int) 9223372036854775808 = (sg x : Int) := by
  have h := u64_and_nat x 9223372036854775808 hx (by decide)
  rw [show ((9223372036854775808 : Nat) : Int) = 9223372036854775808 from rfl] at h
  rw [h]
  congr 1
  apply Nat.eq_of_testBit_eq
  intro i
  rw [show (9223372036854775808 : Nat) = 2 ^ 63 from rfl, Nat.testBit_and, Nat.testBit_two_pow]
  by_cases hp : x < 2 ^ 63
  · have : sg x = 0 := by unfold sg; omega
    rw [this, Nat.zero_testBit]
    by_cases hi : 63 = i
    · subst hi
      rw [Nat.testBit_lt_two_pow hp]; rfl
    · simp [hi]
  · have : sg x = 2 ^ 63 := by unfold sg; omega
    rw [this, Nat.testBit_two_pow]
    by_cases hi : 63 = i
    · subst hi
      have : x.testBit 63 = true := by
        rw [Nat.testBit_eq_decide_div_mod_eq]
        exact decide_eq_true (by omega)
      rw [this]; rfl
    · simp [hi]
theorem or63 (a b : Nat) (hb : b < 18446744073709551616) : bits .or .u64 ((a % 9223372036854775808 : Nat) : Int) (sg b : Int) = ((a % 9223372036854775808 + sg b : Nat) : Int) := by
  have hs := sg_lt b hb
  have h := u64_or_nat (a % 9223372036854775808) (sg b) (by omega) (by omega)
  rw [h]
  congr 1
  rcases hs with hs | hs
  · rw [hs, Nat.or_zero, Nat.add_zero]
  · rw [hs, Nat.or_comm]
    have := Nat.two_pow_add_eq_or_of_lt (i := 63) (b := a % 9223372036854775808) (by omega) 1
    rw [Nat.mul_one] at this
    rw [← this, Nat.add_comm]
set_option maxHeartbeats 400000 in
theorem copysign_any (a b : Nat) (ha : a < 18446744073709551616) (hb : b < 18446744073709551616) (w : World) : Calls Try.prog 45 #[.float .f64 a, .float .f64 b] w fun r w' => r = .returned (.float .f64 (a % 9223372036854775808 + sg b)) ∧ w' = w := by
  have h1 := callBits
  have h2 := andNot63 a ha
  have h3 := and63 b hb
  have h4 := or63 a b hb
  have h5 := callFrom
  generalize a % 9223372036854775808 + sg b = C at *
  generalize sg b = B at *
  generalize a % 9223372036854775808 = A at *
  go_enter Try.func45, Try.ntmps45
  go_wp2
  go_ret
  exact ⟨by simp, rfl⟩
set_option maxHeartbeats 400000 in
theorem signed_any (a b : Nat) (ha : a < 18446744073709551616) (hb : b < 18446744073709551616) (w : World) : Calls Try.prog 26 #[.float .f64 a, .float .f64 b] w fun r w' => r = .returned (.float .f64 (a % 9223372036854775808 + sg b)) ∧ w' = w := by
  have k := copysign_any a b ha hb
  generalize a % 9223372036854775808 + sg b = C at *
  go_enter Try.func26, Try.ntmps26
  go_wp2_with fail
  go_fit (k _)
  rintro r w ⟨rfl, rfl⟩
  go_wp2
  go_ret
  exact ⟨rfl, rfl⟩
theorem and_low2 (x : Nat) (hx : x < 18446744073709551616) : bits .and .u64 (x : Int) 4503599627370495 = ((x % 2 ^ 52 : Nat) : Int) := by
  have h := u64_and_nat x 4503599627370495 hx (by decide)
  rw [show ((4503599627370495 : Nat) : Int) = 4503599627370495 from rfl] at h
  rw [h]
  have e : x &&& 4503599627370495 = x % 2 ^ 52 := Nat.and_two_pow_sub_one_eq_mod x 52
  rw [e]
theorem and_exp2 (t : Nat) (h : t < 18446744073709551616) : bits .and .u64 (t : Int) 2047 = ((t % 2048 : Nat) : Int) := by
  have h' := u64_and_nat t 2047 h (by decide)
  rw [show ((2047 : Nat) : Int) = 2047 from rfl] at h'
  rw [h']
  have e : t &&& 2047 = t % 2 ^ 11 := Nat.and_two_pow_sub_one_eq_mod t 11
  rw [e]
theorem or_one (F : Nat) (hF : F < 2 ^ 52) : bits .or .u64 (F : Int) 4503599627370496 = ((2 ^ 52 + F : Nat) : Int) := by
  have h := or_exp F 1 hF (by decide)
  rw [show ((1 : Nat) : Int) * 4503599627370496 = 4503599627370496 from rfl] at h
  rw [h, Nat.one_mul]
set_option maxHeartbeats 400000 in
theorem whole_any (x : Nat) (hx : x < 18446744073709551616) (w : World) : Calls Try.prog 25 #[.float .f64 x] w fun r w' => r = .returned (.tuple #[.int .u64 (um (x % 9223372036854775808) : Int), .int .i64 ((ue (x % 9223372036854775808) : Int) - 1074)]) ∧ w' = w := by
  have h1 := callBits x
  have h2 := and_low2 x hx
  obtain ⟨q, hq⟩ : ∃ q, x / 2 ^ 52 = q := ⟨_, rfl⟩
  have h3 : (x : Int) / 4503599627370496 = (q : Int) := by omega
  have h4 := and_exp2 q (by omega)
  have h5 := or_one (x % 2 ^ 52) (by omega)
  obtain ⟨e, he⟩ : ∃ e, q % 2048 = e := ⟨_, rfl⟩
  rw [he] at h4
  by_cases h0 : e = 0
  · subst h0
    have e1 : um (x % 9223372036854775808) = x % 2 ^ 52 := by
      unfold um
      rw [if_pos (by omega)]
      omega
    have e2 : ((ue (x % 9223372036854775808) : Nat) : Int) - 1074 = -1074 := by
      unfold ue
      omega
    rw [e1, e2]
    generalize x % 2 ^ 52 = F at *
    have h0 : ((0 : Nat) : Int) = 0 := rfl
    rw [h0] at h4
    go_enter Try.func25, Try.ntmps25
    go_wp2
    go_ret2
    exact ⟨rfl, rfl⟩
  · have e1 : um (x % 9223372036854775808) = 2 ^ 52 + x % 2 ^ 52 := by
      unfold um
      rw [if_neg (by omega)]
      omega
    have e2 : ((ue (x % 9223372036854775808) : Nat) : Int) - 1074 = (e : Int) - 1075 := by
      unfold ue
      omega
    have hb : e < 2048 := by omega
    have hne : ¬ (e : Int) = 0 := by omega
    rw [e1, e2]
    generalize 2 ^ 52 + x % 2 ^ 52 = G at *
    generalize x % 2 ^ 52 = F at *
    go_enter Try.func25, Try.ntmps25
    go_wp2
    go_ret2
    exact ⟨rfl, rfl⟩
theorem cvU (n : Nat) (w : World) : (convert 38 22 (.int .u64 (n : Int))).run Try.prog w = .ok (.float .f64 (Ieee.double.nearest false n 0)) w := by
  have h := run_convert_int_float (P := Try.prog) w 38 22 .u64 .f64 n (by rw [Try.underlying38]; rfl) Try.underlying22
  rw [h]
  have e := iw_eq (n : Int)
  unfold iw at e
  rw [e, decide_eq_false (by omega), Int.natAbs_natCast]
/-- A step down. -/
theorem near_half (n : Nat) (p : Int) (h0 : n ≠ 0) (hn : n < 2 ^ 53) (hp : -1074 ≤ p) (hp2 : p ≤ 971) : floatBits .quo .f64 (Ieee.double.nearest false n p) 4611686018427387904 = some (Ieee.double.nearest false n (p - 1)) := by
  have hl := log2_le52 n hn
  obtain ⟨k, hk, hr, _⟩ := read_near false n p h0 hn hp (by omega)
  rw [quo_two _ _ _ _ hr (read_place _ _ _ _ hr).2, nearest_shift]
  refine congrArg (fun z => some (Ieee.double.nearest false n z)) ?_
  omega
theorem near_double (n : Nat) (p : Int) (hn : n < 2 ^ 53) (hp : -1074 ≤ p) : floatBits .mul .f64 (Ieee.double.nearest false n p) 4611686018427387904 = some (Ieee.double.nearest false n (p + 1)) := by
  rw [← p2_1]
  exact mul_near false n p 1 hn hp (.inl (by decide)) (by decide) (by decide)
end Go.Proofs.Ytebjklppbkkinaa
