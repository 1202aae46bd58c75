/- math.Frexp and math.Ldexp of positive numbers. -/
import Derived.Test.YtebjklppbkkinaaMa
namespace Go.Proofs.Ytebjklppbkkinaa
open Go.RowKit Ieee

theorem p2_52 : p2 52 = 4841369599423283200 := by decide
theorem p2_m53 : p2 (-53) = 4368491638549381120 := by decide
theorem p2_0 : p2 0 = 4607182418800017408 := by decide
theorem and_exp (T : Int) (h0 : 0 ≤ T) (h : T < 2048) : bits .and .u64 T 2047 = T := by
  obtain ⟨t, rfl⟩ : ∃ t : Nat, T = t := ⟨T.toNat, by omega⟩
  have h' := u64_and_nat t 2047 (by omega) (by decide)
  rw [show ((2047 : Nat) : Int) = 2047 from rfl] at h'
  rw [h']
  have e : t &&& 2047 = t % 2 ^ 11 := Nat.and_two_pow_sub_one_eq_mod t 11
  rw [e]
  omega
theorem not_exp (y u F : Nat) (hy : y = u * 2 ^ 52 + F) (hF : F < 2 ^ 52) (hu : u < 2048) : bits .andNot .u64 (y : Int) 9218868437227405312 = (F : Int) := by
  have h := u64_andNot_nat y 9218868437227405312 (by omega) (by decide)
  rw [show ((9218868437227405312 : Nat) : Int) = 9218868437227405312 from rfl] at h
  rw [h]
  have e : (18446744073709551615 - 9218868437227405312 : Nat) = 2 ^ 63 ||| (2 ^ 52 - 1) := by decide
  have hz : y &&& 2 ^ 63 = 0 := by
    apply Nat.eq_of_testBit_eq
    intro i
    rw [Nat.testBit_and, Nat.testBit_two_pow, Nat.zero_testBit]
    by_cases hi : 63 = i
    · subst hi
      rw [Nat.testBit_lt_two_pow (show y < 2 ^ 63 by omega)]; rfl
    · simp [hi]
  rw [e, Nat.and_or_distrib_left, Nat.and_two_pow_sub_one_eq_mod, hz, Nat.zero_or]
  omega
theorem or_exp (F u : Nat) (hF : F < 2 ^ 52) (hu : u < 2048) : bits .or .u64 (F : Int) ((u : Int) * 4503599627370496) = ((u * 2 ^ 52 + F : Nat) : Int) := by
  have h := u64_or_nat F (u * 4503599627370496) (by omega) (by omega)
  rw [show ((u * 4503599627370496 : Nat) : Int) = (u : Int) * 4503599627370496 by omega] at h
  rw [h]
  have e : F ||| u * 4503599627370496 = u * 2 ^ 52 + F := by
    rw [Nat.or_comm]
    have := Nat.two_pow_add_eq_or_of_lt (i := 52) (b := F) hF u
    rw [Nat.mul_comm] at this
    exact this.symm
  rw [e]

/-- A number's parts, and how normalize answers. -/
def Nz (x M : Nat) (P : Int) : Prop := Nm x M P ∧ ∃ (y : Nat) (d : Int), y = Ieee.double.nearest false M (P - d) ∧ -1074 ≤ P - d ∧ P - d ≤ 971 ∧ -52 ≤ d ∧ d ≤ 0 ∧ ∀ w, Calls Try.prog 79 #[.float .f64 x] w fun r w' => r = .returned (.tuple #[.float .f64 y, .int .i64 d]) ∧ w' = w
set_option maxHeartbeats 400000 in
theorem nz_ex (x : Nat) (h0 : x ≠ 0) (hx : x < 0x7ff0000000000000) : ∃ M P, Nz x M P := by
  have kA := abs_any x (by omega)
  rw [Nat.mod_eq_of_lt (show x < 9223372036854775808 by omega)] at kA
  have hxo := pos_order x 4503599627370496 hx (by decide)
  by_cases hs : x < 2 ^ 52
  · obtain ⟨M, P, h, hP⟩ := nm_sub x h0 hs
    have hP2 := h.2.2.2.1
    refine ⟨M, P, h, _, -52, rfl, by omega, by omega, by decide, by decide, fun w => ?_⟩
    rw [Nat.compare_eq_lt.2 hs] at hxo
    obtain ⟨m, i, hr, hm0, hm53, hi, hnear⟩ := h.near
    have hmul : ∀ t w, (binOp .mul t (.float .f64 x) (.float .f64 4841369599423283200)).run Try.prog w = .ok (.float .f64 (Ieee.double.nearest false M (P - (-52)))) w := fun t w => by
      refine run_float_arith w .mul t .f64 _ _ _ ?_
      rw [← p2_52, mul_p2 x false m i 52 hr (by decide) (by decide), hnear 52]
      rfl
    generalize Ieee.double.nearest false M (P - (-52)) = Y at *
    clear hnear
    go_enter Try.func79, Try.ntmps79
    go_wp2_with fail
    go_fit (kA _)
    rintro r w ⟨rfl, rfl⟩
    go_wp2
    go_ret2
    exact ⟨rfl, rfl⟩
  · have h := nm_normal x (by omega) hx
    have hnb := near_norm (2 ^ 52 + x % 2 ^ 52) (((x / 2 ^ 52 : Nat) : Int) - 1075) h.1 h.2.1 (by omega) h.2.2.1
    refine ⟨_, _, h, x, 0, ?_, by omega, by have := h.2.2.1; omega, by decide, by decide, fun w => ?_⟩
    · rw [Int.sub_zero, hnb]
      omega
    · have hxo' : (FloatKind.f64.format.order x 4503599627370496 == some .lt) = false := by
        rw [hxo]
        refine beq_eq_false_iff_ne.2 fun h => ?_
        have := Nat.compare_eq_lt.1 (Option.some.inj h)
        omega
      clear hxo h hnb
      go_enter Try.func79, Try.ntmps79
      go_wp2_with fail
      go_fit (kA _)
      rintro r w ⟨rfl, rfl⟩
      go_wp2
      go_ret2
      exact ⟨rfl, rfl⟩
theorem eq0_no (x : Nat) (h0 : x ≠ 0) (hx : x < 0x7ff0000000000000) : (FloatKind.f64.format.order x 0 == some .eq) = false := by
  rw [pos_gt x h0 hx]; rfl
set_option maxHeartbeats 1000000 in
theorem frexp_any (x M : Nat) (P : Int) (h0 : x ≠ 0) (hx : x < 0x7ff0000000000000) (h : Nz x M P) (w : World) : Calls Try.prog 69 #[.float .f64 x] w fun r w' => r = .returned (.tuple #[.float .f64 (Ieee.double.nearest false M (-53)), .int .i64 (P + 53)]) ∧ w' = w := by
  have kf : ∀ w, Calls Try.prog 75 #[.float .f64 x] w fun r w' => r = .returned (.tuple #[.float .f64 (Ieee.double.nearest false M (-53)), .int .i64 (P + 53)]) ∧ w' = w := by
    intro w
    obtain ⟨hN, y, d, hy, hQ1, hQ2, hd1, hd2, kN⟩ := h
    have h1 := hN.1
    have h2 := hN.2.1
    have he := eq0_no x h0 hx
    have kI := isInf_any x (by omega)
    rw [infB_pos x hx] at kI
    have kB := isNaN_any x
    rw [pos_num x hx] at kB
    obtain ⟨hyl, hdv, -, hor⟩ := parts_arith M (P - d) y h1 h2 hQ1 hQ2 hy
    obtain ⟨T, hT⟩ : ∃ T, P - d + 1075 = T := ⟨_, rfl⟩
    rw [hT] at hdv
    have hand := and_exp T (by omega) (by omega)
    have hnot : bits .andNot .u64 (y : Int) 9218868437227405312 = ((M - 2 ^ 52 : Nat) : Int) := by
      rw [near_norm M (P - d) h1 h2 hQ1 hQ2] at hy
      exact not_exp y _ _ hy (by omega) (by omega)
    have hb := callBits
    have hf := callFrom
    generalize ((M - 2 ^ 52 : Nat) : Int) = F at *
    generalize hZ : Ieee.double.nearest false M (-53) = Z at *
    clear hZ hy hN
    go_enter Try.func75, Try.ntmps75
    go_wp2_with fail
    go_fit (kI _)
    rintro r w ⟨rfl, rfl⟩
    go_wp2_with fail
    go_fit (kB _)
    rintro r w ⟨rfl, rfl⟩
    go_wp2_with fail
    go_fit (kN _)
    rintro r w ⟨rfl, rfl⟩
    go_wp2
    go_ret2
    exact ⟨congrArg (fun z => Ending.returned (.tuple #[.float .f64 Z, .int .i64 z])) (show d + (T - 1023 + 1) = P + 53 by omega), rfl⟩
  generalize Ieee.double.nearest false M (-53) = Z at *
  go_enter Try.func69, Try.ntmps69
  go_wp2_with fail
  go_fit (kf _)
  rintro r w ⟨rfl, rfl⟩
  go_wp2
  go_ret2
  exact ⟨rfl, rfl⟩

theorem and_expI (T : Int) (h0 : 0 ≤ T) (h : T < 2048) : bits .and .i64 T 2047 = T := by
  have hm : (BitVec.ofInt 64 2047).toNat = 2 ^ 11 - 1 := by decide
  have key : (BitVec.ofInt 64 T &&& BitVec.ofInt 64 2047).toNat = (T % ((2 ^ 64 : Nat) : Int)).toNat % 2 ^ 11 := by
    rw [BitVec.toNat_and, BitVec.toNat_ofInt, hm, Nat.and_two_pow_sub_one_eq_mod]
  show IntKind.i64.wrap ((BitVec.ofInt 64 T &&& BitVec.ofInt 64 2047).toNat : Nat) = T
  rw [key, IntKind.wrap_i64]
  omega
theorem mul_turn (x y : Nat) (s t : Bool) (m n : Nat) (i j : Int) (hx : Ieee.double.read x = .number s m i) (hy : Ieee.double.read y = .number t n j) : floatBits .mul .f64 x y = floatBits .mul .f64 y x := by
  show ((Ieee.double.read x).product (Ieee.double.read y)).map Ieee.double.write = ((Ieee.double.read y).product (Ieee.double.read x)).map Ieee.double.write
  rw [hx, hy]
  show some (Ieee.double.nearest (s ^^ t) (m * n) (i + j)) = some (Ieee.double.nearest (t ^^ s) (n * m) (j + i))
  rw [Bool.xor_comm, Nat.mul_comm, Int.add_comm]
/-- What stands at the end of Ldexp. -/
theorem ldexp_mul (M : Nat) (Q a : Int) (h1 : 2 ^ 52 ≤ M) (h2 : M < 2 ^ 53) (hQ : -1074 ≤ Q) (hQ2 : Q ≤ 971) (ha : -1022 ≤ a) (ha2 : a ≤ 0) : floatBits .mul .f64 (p2 a) (Ieee.double.nearest false M Q) = some (Ieee.double.nearest false M (Q + a)) := by
  have hl := log2_52 M h1 h2
  obtain ⟨k, hk, hr, _⟩ := read_near false M Q (by omega) h2 hQ (by omega)
  rw [mul_turn _ _ _ _ _ _ _ _ (read_p2 a ha (by omega)) hr]
  exact mul_near false M Q a h2 hQ (.inr (by omega)) ha (by omega)
set_option maxRecDepth 100000 in
set_option maxHeartbeats 1000000 in
theorem ldexp_any (x M : Nat) (P : Int) (k : Nat) (h0 : x ≠ 0) (hx : x < 0x7ff0000000000000) (h : Nz x M P) (hk : P + 52 + k ≤ 1023) (w : World) : Calls Try.prog 70 #[.float .f64 x, .int .i64 (k : Int)] w fun r w' => r = .returned (.float .f64 (vw (uv x * 2 ^ k))) ∧ w' = w := by
  have kf : ∀ w, Calls Try.prog 77 #[.float .f64 x, .int .i64 (k : Int)] w fun r w' => r = .returned (.float .f64 (vw (uv x * 2 ^ k))) ∧ w' = w := by
    intro w
    rw [← nm_up x M P hx h.1 k]
    obtain ⟨hN, y, d, hy, hQ1, hQ2, hd1, hd2, kN⟩ := h
    have h1 := hN.1
    have h2 := hN.2.1
    have hlow := hN.2.2.2.1
    have he := eq0_no x h0 hx
    have kI := isInf_any x (by omega)
    rw [infB_pos x hx] at kI
    have kB := isNaN_any x
    rw [pos_num x hx] at kB
    obtain ⟨hyl, hdv, -, -⟩ := parts_arith M (P - d) y h1 h2 hQ1 hQ2 hy
    obtain ⟨T, hT⟩ : ∃ T, P - d + 1075 = T := ⟨_, rfl⟩
    rw [hT] at hdv
    have hand := and_expI T (by omega) (by omega)
    have hnot : bits .andNot .u64 (y : Int) 9218868437227405312 = ((M - 2 ^ 52 : Nat) : Int) := by
      rw [near_norm M (P - d) h1 h2 hQ1 hQ2] at hy
      exact not_exp y _ _ hy (by omega) (by omega)
    have hb := callBits
    have hf := callFrom
    have c1 : ¬ (k : Int) + d + (T - 1023) < -1075 := by omega
    have c2 : ¬ (1023 : Int) < (k : Int) + d + (T - 1023) := by omega
    clear hN
    by_cases c3 : (k : Int) + d + (T - 1023) < -1022
    · obtain ⟨u, hu⟩ : ∃ u : Nat, (k : Int) + d + (T - 1023) + 53 + 1023 = u := ⟨((k : Int) + d + (T - 1023) + 53 + 1023).toNat, by omega⟩
      have hor := or_exp (M - 2 ^ 52) u (by omega) (by omega)
      have hw : u * 2 ^ 52 + (M - 2 ^ 52) = Ieee.double.nearest false M ((u : Int) - 1075) := by
        rw [near_norm M _ h1 h2 (by omega) (by omega)]
        omega
      rw [hw] at hor
      have hmul : ∀ t w, (binOp .mul t (.float .f64 4368491638549381120) (.float .f64 (Ieee.double.nearest false M ((u : Int) - 1075)))).run Try.prog w = .ok (.float .f64 (Ieee.double.nearest false M (P + k))) w := fun t w => by
        refine run_float_arith w .mul t .f64 _ _ _ ?_
        rw [← p2_m53, ldexp_mul M _ (-53) h1 h2 (by omega) (by omega) (by decide) (by decide)]
        refine congrArg (fun z => some (Ieee.double.nearest false M z)) ?_
        omega
      generalize ((M - 2 ^ 52 : Nat) : Int) = F at *
      generalize Ieee.double.nearest false M ((u : Int) - 1075) = Z at *
      generalize Ieee.double.nearest false M (P + k) = Z2 at *
      clear hw hy
      go_enter Try.func77, Try.ntmps77
      go_wp2_with fail
      go_fit (kI _)
      rintro r w ⟨rfl, rfl⟩
      go_wp2_with fail
      go_fit (kB _)
      rintro r w ⟨rfl, rfl⟩
      go_wp2_with fail
      go_fit (kN _)
      rintro r w ⟨rfl, rfl⟩
      go_wp2
      go_ret
      exact ⟨rfl, rfl⟩
    · obtain ⟨u, hu⟩ : ∃ u : Nat, (k : Int) + d + (T - 1023) + 1023 = u := ⟨((k : Int) + d + (T - 1023) + 1023).toNat, by omega⟩
      have hor := or_exp (M - 2 ^ 52) u (by omega) (by omega)
      have hw : u * 2 ^ 52 + (M - 2 ^ 52) = Ieee.double.nearest false M ((u : Int) - 1075) := by
        rw [near_norm M _ h1 h2 (by omega) (by omega)]
        omega
      rw [hw] at hor
      have hmul : ∀ t w, (binOp .mul t (.float .f64 4607182418800017408) (.float .f64 (Ieee.double.nearest false M ((u : Int) - 1075)))).run Try.prog w = .ok (.float .f64 (Ieee.double.nearest false M (P + k))) w := fun t w => by
        refine run_float_arith w .mul t .f64 _ _ _ ?_
        rw [← p2_0, ldexp_mul M _ 0 h1 h2 (by omega) (by omega) (by decide) (by decide)]
        refine congrArg (fun z => some (Ieee.double.nearest false M z)) ?_
        omega
      generalize ((M - 2 ^ 52 : Nat) : Int) = F at *
      generalize Ieee.double.nearest false M ((u : Int) - 1075) = Z at *
      generalize Ieee.double.nearest false M (P + k) = Z2 at *
      clear hw hy
      go_enter Try.func77, Try.ntmps77
      go_wp2_with fail
      go_fit (kI _)
      rintro r w ⟨rfl, rfl⟩
      go_wp2_with fail
      go_fit (kB _)
      rintro r w ⟨rfl, rfl⟩
      go_wp2_with fail
      go_fit (kN _)
      rintro r w ⟨rfl, rfl⟩
      go_wp2
      go_ret
      exact ⟨rfl, rfl⟩
  generalize vw (uv x * 2 ^ k) = Z at *
  go_enter Try.func70, Try.ntmps70
  go_wp2_with fail
  go_fit (kf _)
  rintro r w ⟨rfl, rfl⟩
  go_wp2
  go_ret
  exact ⟨rfl, rfl⟩
end Go.Proofs.Ytebjklppbkkinaa
