/- A bundle of texts. -/
import Derived.Test.YtebjklppbkkinaaGreatDoorBp19
/- The reference's remainder: its parts. -/
namespace Go.Proofs.YtebjklppbkkinaaGreatDoor.F
open Go.RowKit Ieee

theorem sg_lt (x : Nat) (hx : x < 18446744073709551616) : sg x = 0 ∨ sg x = 2 ^ 63 := by unfold sg; omega
theorem and63 (x : Nat) (hx : x < 18446744073709551616) : bits .and .u64 (x : Int) 9223372036854775808 = (sg x : Int) := by
  have h := u64_and_nat x 9223372036854775808 hx (by decide)
  rw [show ((9223372036854775808 : Nat) : Int) = 9223372036854775808 from rfl] at h
  rw [h]
  congr 1
  apply Nat.eq_of_testBit_eq
  intro i
  rw [show (9223372036854775808 : Nat) = 2 ^ 63 from rfl, Nat.testBit_and, Nat.testBit_two_pow]
  by_cases hp : x < 2 ^ 63
  · have : sg x = 0 := by unfold sg; omega
    rw [this, Nat.zero_testBit]
    by_cases hi : 63 = i
    · subst hi
      rw [Nat.testBit_lt_two_pow hp]; rfl
    · simp [hi]
  · have : sg x = 2 ^ 63 := by unfold sg; omega
    rw [this, Nat.testBit_two_pow]
    by_cases hi : 63 = i
    · subst hi
      have : x.testBit 63 = true := by
        rw [Nat.testBit_eq_decide_div_mod_eq]
        exact decide_eq_true (by omega)
      rw [this]; rfl
    · simp [hi]
theorem or63 (a b : Nat) (hb : b < 18446744073709551616) : bits .or .u64 ((a % 9223372036854775808 : Nat) : Int) (sg b : Int) = ((a % 9223372036854775808 + sg b : Nat) : Int) := by
  have hs := sg_lt b hb
  have h := u64_or_nat (a % 9223372036854775808) (sg b) (by omega) (by omega)
  rw [h]
  congr 1
  rcases hs with hs | hs
  · rw [hs, Nat.or_zero, Nat.add_zero]
  · rw [hs, Nat.or_comm]
    have := Nat.two_pow_add_eq_or_of_lt (i := 63) (b := a % 9223372036854775808) (by omega) 1
    rw [Nat.mul_one] at this
    rw [← this, Nat.add_comm]
set_option maxHeartbeats 400000 in
theorem copysign_any (a b : Nat) (ha : a < 18446744073709551616) (hb : b < 18446744073709551616) (w : World) : Calls Tryz.prog 12 #[.float .f64 a, .float .f64 b] w fun r w' => r = .returned (.float .f64 (a % 9223372036854775808 + sg b)) ∧ w' = w := by
  have h1 := callBits
  have h2 := andNot63 a ha
  have h3 := and63 b hb
  have h4 := or63 a b hb
  have h5 := callFrom
  generalize a % 9223372036854775808 + sg b = C at *
  generalize sg b = B at *
  generalize a % 9223372036854775808 = A at *
  go_enter Tryz.func12, Tryz.ntmps12
  go_wp2
  go_ret
  exact ⟨by simp, rfl⟩
set_option maxHeartbeats 400000 in
theorem signed_any (a b : Nat) (ha : a < 18446744073709551616) (hb : b < 18446744073709551616) (w : World) : Calls Tryz.prog 136 #[.float .f64 a, .float .f64 b] w fun r w' => r = .returned (.float .f64 (a % 9223372036854775808 + sg b)) ∧ w' = w := by
  have k := copysign_any a b ha hb
  generalize a % 9223372036854775808 + sg b = C at *
  go_enter Tryz.func136, Tryz.ntmps136
  go_wp2_with fail
  go_fit (k _)
  rintro r w ⟨rfl, rfl⟩
  go_wp2
  go_ret
  exact ⟨rfl, rfl⟩
theorem and_low2 (x : Nat) (hx : x < 18446744073709551616) : bits .and .u64 (x : Int) 4503599627370495 = ((x % 2 ^ 52 : Nat) : Int) := by
  have h := u64_and_nat x 4503599627370495 hx (by decide)
  rw [show ((4503599627370495 : Nat) : Int) = 4503599627370495 from rfl] at h
  rw [h]
  have e : x &&& 4503599627370495 = x % 2 ^ 52 := Nat.and_two_pow_sub_one_eq_mod x 52
  rw [e]
theorem and_exp2 (t : Nat) (h : t < 18446744073709551616) : bits .and .u64 (t : Int) 2047 = ((t % 2048 : Nat) : Int) := by
  have h' := u64_and_nat t 2047 h (by decide)
  rw [show ((2047 : Nat) : Int) = 2047 from rfl] at h'
  rw [h']
  have e : t &&& 2047 = t % 2 ^ 11 := Nat.and_two_pow_sub_one_eq_mod t 11
  rw [e]
theorem or_one (F : Nat) (hF : F < 2 ^ 52) : bits .or .u64 (F : Int) 4503599627370496 = ((2 ^ 52 + F : Nat) : Int) := by
  have h := or_exp F 1 hF (by decide)
  rw [show ((1 : Nat) : Int) * 4503599627370496 = 4503599627370496 from rfl] at h
  rw [h, Nat.one_mul]
set_option maxHeartbeats 400000 in
theorem whole_any (x : Nat) (hx : x < 18446744073709551616) (w : World) : Calls Tryz.prog 135 #[.float .f64 x] w fun r w' => r = .returned (.tuple #[.int .u64 (um (x % 9223372036854775808) : Int), .int .i64 ((ue (x % 9223372036854775808) : Int) - 1074)]) ∧ w' = w := by
  have h1 := callBits x
  have h2 := and_low2 x hx
  obtain ⟨q, hq⟩ : ∃ q, x / 2 ^ 52 = q := ⟨_, rfl⟩
  have h3 : (x : Int) / 4503599627370496 = (q : Int) := by omega
  have h4 := and_exp2 q (by omega)
  have h5 := or_one (x % 2 ^ 52) (by omega)
  obtain ⟨e, he⟩ : ∃ e, q % 2048 = e := ⟨_, rfl⟩
  rw [he] at h4
  by_cases h0 : e = 0
  · subst h0
    have e1 : um (x % 9223372036854775808) = x % 2 ^ 52 := by
      unfold um
      rw [if_pos (by omega)]
      omega
    have e2 : ((ue (x % 9223372036854775808) : Nat) : Int) - 1074 = -1074 := by
      unfold ue
      omega
    rw [e1, e2]
    generalize x % 2 ^ 52 = F at *
    have h0 : ((0 : Nat) : Int) = 0 := rfl
    rw [h0] at h4
    go_enter Tryz.func135, Tryz.ntmps135
    go_wp2
    go_ret2
    exact ⟨rfl, rfl⟩
  · have e1 : um (x % 9223372036854775808) = 2 ^ 52 + x % 2 ^ 52 := by
      unfold um
      rw [if_neg (by omega)]
      omega
    have e2 : ((ue (x % 9223372036854775808) : Nat) : Int) - 1074 = (e : Int) - 1075 := by
      unfold ue
      omega
    have hb : e < 2048 := by omega
    have hne : ¬ (e : Int) = 0 := by omega
    rw [e1, e2]
    generalize 2 ^ 52 + x % 2 ^ 52 = G at *
    generalize x % 2 ^ 52 = F at *
    go_enter Tryz.func135, Tryz.ntmps135
    go_wp2
    go_ret2
    exact ⟨rfl, rfl⟩
theorem cvU (n : Nat) (w : World) : (convert 65 23 (.int .u64 (n : Int))).run Tryz.prog w = .ok (.float .f64 (Ieee.double.nearest false n 0)) w := by
  have h := run_convert_int_float (P := Tryz.prog) w 65 23 .u64 .f64 n (by rw [Tryz.underlying65]; rfl) Tryz.underlying23
  rw [h]
  have e := iw_eq (n : Int)
  unfold iw at e
  rw [e, decide_eq_false (by omega), Int.natAbs_natCast]
/-- A step down. -/
theorem near_half (n : Nat) (p : Int) (h0 : n ≠ 0) (hn : n < 2 ^ 53) (hp : -1074 ≤ p) (hp2 : p ≤ 971) : floatBits .quo .f64 (Ieee.double.nearest false n p) 4611686018427387904 = some (Ieee.double.nearest false n (p - 1)) := by
  have hl := log2_le52 n hn
  obtain ⟨k, hk, hr, _⟩ := read_near false n p h0 hn hp (by omega)
  rw [quo_two _ _ _ _ hr (read_place _ _ _ _ hr).2, nearest_shift]
  refine congrArg (fun z => some (Ieee.double.nearest false n z)) ?_
  omega
theorem near_double (n : Nat) (p : Int) (hn : n < 2 ^ 53) (hp : -1074 ≤ p) : floatBits .mul .f64 (Ieee.double.nearest false n p) 4611686018427387904 = some (Ieee.double.nearest false n (p + 1)) := by
  rw [← p2_1]
  exact mul_near false n p 1 hn hp (.inl (by decide)) (by decide) (by decide)
end Go.Proofs.YtebjklppbkkinaaGreatDoor.F
/- The reference's remainder. -/
namespace Go.Proofs.YtebjklppbkkinaaGreatDoor.F
open Go.RowKit Ieee

set_option maxRecDepth 100000 in
set_option maxHeartbeats 2000000 in
theorem exact_any (n : Nat) (e : Int) (hn : n < 2 ^ 53) (he : -1074 ≤ e) (he2 : e ≤ 971) (w : World) : Calls Tryz.prog 137 #[.int .u64 (n : Int), .int .i64 e] w fun r w' => r = .returned (.float .f64 (vw (n * 2 ^ (e + 1074).toNat))) ∧ w' = w := by
  by_cases h0 : n = 0
  · subst h0
    have e1 : vw (0 * 2 ^ (e + 1074).toNat) = 0 := by rw [Nat.zero_mul]; unfold vw; rw [nearest_zero, word_pos]
    rw [e1, show ((0 : Nat) : Int) = 0 from rfl]
    go_enter Tryz.func137, Tryz.ntmps137
    go_wp2
    go_ret
    exact ⟨rfl, rfl⟩
  · generalize hV : n * 2 ^ (e + 1074).toNat = V
    have HV : Hid (n * 2 ^ (e + 1074).toNat = V) := hV
    clear hV
    generalize hVV : vw V = VV
    have HVV : Hid (vw V = VV) := hVV
    clear hVV
    have h0' : ¬ (n : Int) = 0 := by omega
    go_enter Tryz.func137, Tryz.ntmps137
    go_wp2
    go_loopw [0, 1] (fun nv ev w' => ∃ (n : Nat) (e : Int), nv = .int .u64 (n : Int) ∧ ev = .int .i64 e ∧ w' = w ∧ n ≠ 0 ∧ n < 2 ^ 53 ∧ -1074 ≤ e ∧ e ≤ 971 ∧ Hid (n * 2 ^ (e + 1074).toNat = V)) (fun nv _ _ => (RowKit.intOf nv).toNat)
    case atStart => exact ⟨n, e, rfl, rfl, rfl, h0, hn, he, he2, HV⟩
    case round =>
      obtain ⟨n, e, rfl, rfl, rfl, h0, hn, he, he2, HV⟩ := hrel
      by_cases hc : n % 2 = 0 ∧ e < 900
      · obtain ⟨q, hq⟩ : ∃ q, n = q * 2 := ⟨n / 2, by omega⟩
        have HQ : Hid (q * 2 ^ (e + 1 + 1074).toNat = V) := by
          have := HV.out
          rw [hq] at this
          show _ = _
          rw [← this, Nat.mul_assoc, show (e + 1 + 1074).toNat = (e + 1074).toNat + 1 by omega, Nat.pow_succ]
          congr 1
          exact Nat.mul_comm _ _
        have h1 : (n : Int) % 2 = 0 := by omega
        have h2 : (n : Int) / 2 = (q : Int) := by omega
        have h3 := hc.2
        go_wp2
        exact ⟨⟨q, e + 1, rfl, rfl, trivial, by omega, by omega, by omega, by omega, HQ⟩, by simp only [RowKit.intOf]; omega⟩
      · have hup : Hid (∀ p : Int, -1074 ≤ p → floatBits .mul .f64 (Ieee.double.nearest false n p) 4611686018427387904 = some (Ieee.double.nearest false n (p + 1))) := fun p hp => near_double n p hn hp
        have hdn : Hid (∀ p : Int, -1074 ≤ p → p ≤ 971 → floatBits .quo .f64 (Ieee.double.nearest false n p) 4611686018427387904 = some (Ieee.double.nearest false n (p - 1))) := fun p hp hp2 => near_half n p h0 hn hp hp2
        have HE : Hid (Ieee.double.nearest false n e = VV) := by
          show _ = _
          rw [← HVV.out, ← HV.out, vw_shift]
          congr 1
          omega
        have hcv := cvU n
        generalize Ieee.double.nearest false n = N at *
        by_cases hc1 : n % 2 = 0
        · have h3 : ¬ e < 900 := fun h => hc ⟨hc1, h⟩
          have h1 : (n : Int) % 2 = 0 := by omega
          go_wp2
          go_loopw [1, 5] (fun ev vv w' => ∃ (e' : Int), ev = .int .i64 e' ∧ vv = .float .f64 (N (e - e')) ∧ w' = wr ∧ e' ≤ e ∧ (0 ≤ e' ∨ e' = e)) (fun ev _ _ => (RowKit.intOf ev).toNat)
          case atStart => exact ⟨e, rfl, by rw [Int.sub_self], rfl, by omega, .inr rfl⟩
          case round =>
            obtain ⟨e', rfl, rfl, rfl, hb1, hb2⟩ := hrel
            by_cases hg : 0 < e'
            · have hm : ∀ t w, (binOp .mul t (.float .f64 (N (e - e'))) (.float .f64 4611686018427387904)).run Tryz.prog w = .ok (.float .f64 (N (e - e' + 1))) w := fun t w => run_float_arith w .mul t .f64 _ _ _ (hup.out _ (by omega))
              go_wp2
              refine ⟨⟨e' - 1, rfl, ?_, trivial, by omega, by omega⟩, by simp [RowKit.intOf]; omega⟩
              refine congrArg (fun z => Value.float .f64 (N z)) ?_
              omega
            · go_wp2
              go_loopw [1, 5] (fun ev vv w' => ∃ (e2 : Int), ev = .int .i64 e2 ∧ vv = .float .f64 (N (e - e2)) ∧ w' = wr ∧ e2 ≤ 0 ∧ e' ≤ e2 ∧ (e' ≠ e → e2 = 0)) (fun ev _ _ => (-(RowKit.intOf ev)).toNat)
              case atStart => exact ⟨e', rfl, rfl, rfl, by omega, by omega, by omega⟩
              case round =>
                obtain ⟨e2, rfl, rfl, rfl, hb3, hb4, hb5⟩ := hrel
                by_cases hz : e2 = 0
                · subst hz
                  rw [Int.sub_zero, HE.out]
                  go_wp2
                  go_ret
                  exact ⟨rfl, rfl⟩
                · have hm : ∀ t w, (binOp .quo t (.float .f64 (N (e - e2))) (.float .f64 4611686018427387904)).run Tryz.prog w = .ok (.float .f64 (N (e - e2 - 1))) w := fun t w => run_float_arith w .quo t .f64 _ _ _ (hdn.out _ (by omega) (by omega))
                  have hl : e2 < 0 := by omega
                  have hl2 : -2000 < e2 := by omega
                  go_wp2
                  refine ⟨⟨e2 + 1, rfl, ?_, trivial, by omega, by omega, by omega⟩, by simp [RowKit.intOf]; omega⟩
                  refine congrArg (fun z => Value.float .f64 (N z)) ?_
                  omega
        · have h1 : (n : Int) % 2 = 1 := by omega
          go_wp2
          go_loopw [1, 5] (fun ev vv w' => ∃ (e' : Int), ev = .int .i64 e' ∧ vv = .float .f64 (N (e - e')) ∧ w' = wr ∧ e' ≤ e ∧ (0 ≤ e' ∨ e' = e)) (fun ev _ _ => (RowKit.intOf ev).toNat)
          case atStart => exact ⟨e, rfl, by rw [Int.sub_self], rfl, by omega, .inr rfl⟩
          case round =>
            obtain ⟨e', rfl, rfl, rfl, hb1, hb2⟩ := hrel
            by_cases hg : 0 < e'
            · have hm : ∀ t w, (binOp .mul t (.float .f64 (N (e - e'))) (.float .f64 4611686018427387904)).run Tryz.prog w = .ok (.float .f64 (N (e - e' + 1))) w := fun t w => run_float_arith w .mul t .f64 _ _ _ (hup.out _ (by omega))
              go_wp2
              refine ⟨⟨e' - 1, rfl, ?_, trivial, by omega, by omega⟩, by simp [RowKit.intOf]; omega⟩
              refine congrArg (fun z => Value.float .f64 (N z)) ?_
              omega
            · go_wp2
              go_loopw [1, 5] (fun ev vv w' => ∃ (e2 : Int), ev = .int .i64 e2 ∧ vv = .float .f64 (N (e - e2)) ∧ w' = wr ∧ e2 ≤ 0 ∧ e' ≤ e2 ∧ (e' ≠ e → e2 = 0)) (fun ev _ _ => (-(RowKit.intOf ev)).toNat)
              case atStart => exact ⟨e', rfl, rfl, rfl, by omega, by omega, by omega⟩
              case round =>
                obtain ⟨e2, rfl, rfl, rfl, hb3, hb4, hb5⟩ := hrel
                by_cases hz : e2 = 0
                · subst hz
                  rw [Int.sub_zero, HE.out]
                  go_wp2
                  go_ret
                  exact ⟨rfl, rfl⟩
                · have hm : ∀ t w, (binOp .quo t (.float .f64 (N (e - e2))) (.float .f64 4611686018427387904)).run Tryz.prog w = .ok (.float .f64 (N (e - e2 - 1))) w := fun t w => run_float_arith w .quo t .f64 _ _ _ (hdn.out _ (by omega) (by omega))
                  have hl : e2 < 0 := by omega
                  have hl2 : -2000 < e2 := by omega
                  go_wp2
                  refine ⟨⟨e2 + 1, rfl, ?_, trivial, by omega, by omega, by omega⟩, by simp [RowKit.intOf]; omega⟩
                  refine congrArg (fun z => Value.float .f64 (N z)) ?_
                  omega
end Go.Proofs.YtebjklppbkkinaaGreatDoor.F
/- The reference's remainder: the rest. -/
namespace Go.Proofs.YtebjklppbkkinaaGreatDoor.F
open Go.RowKit Ieee

theorem ueI (x : Nat) (h : x < 0x7ff0000000000000) : (0 : Int) ≤ (ue x : Int) ∧ (ue x : Int) ≤ 2045 := by
  have := ue_le x h
  omega
theorem um_ne (x : Nat) (h : x ≠ 0) : um x ≠ 0 := fun hc => by
  have := uv_zero x h
  rw [uv_parts, hc, Nat.zero_mul] at this
  exact this rfl
theorem sg_back (x : Nat) (h : x % 9223372036854775808 < 0x7ff0000000000000) (Y : Nat) (hY : uv (x % 9223372036854775808) < Y) : sg x + vw (uv (x % 9223372036854775808) % Y) = x := by
  rw [Nat.mod_eq_of_lt hY, vw_uv _ h]
  unfold sg
  omega
theorem vw_sign (V : Nat) (x : Nat) : vw V % 9223372036854775808 + sg x = sg x + vw V := by
  have h : vw V < 2 ^ 63 := near_pos _ _
  omega
/-- The premises of the finite case. -/
def Fin2 (x y : Nat) : Prop := x < 18446744073709551616 ∧ y < 18446744073709551616 ∧ nanB x = false ∧ nanB y = false ∧ x % 9223372036854775808 < 0x7ff0000000000000 ∧ y % 9223372036854775808 < 0x7ff0000000000000 ∧ x % 9223372036854775808 ≠ 0 ∧ y % 9223372036854775808 ≠ 0
set_option maxRecDepth 100000 in
set_option maxHeartbeats 2000000 in
theorem rmod_low (x y : Nat) (h : Fin2 x y) (hlt : ue (x % 9223372036854775808) < ue (y % 9223372036854775808)) (w : World) : Calls Tryz.prog 86 #[.float .f64 x, .float .f64 y] w fun r w' => r = .returned (.float .f64 (sg x + vw (uv (x % 9223372036854775808) % uv (y % 9223372036854775808)))) ∧ w' = w := by
  obtain ⟨hx, hy, hxn, hyn, hxf, hyf, hx0, hy0⟩ := h
  have kX := bad_any x
  rw [hxn] at kX
  have kY := bad_any y
  rw [hyn] at kY
  have kEx := endless_any x hx
  rw [infB_mod x hxn, infB_pos _ hxf] at kEx
  have kEy := endless_any y hy
  rw [infB_mod y hyn, infB_pos _ hyf] at kEy
  have ey := eq0_not y hy hy0
  have ex := eq0_not x hx hx0
  have kWx := whole_any x hx
  have kWy := whole_any y hy
  have hA := um_lt (x % 9223372036854775808)
  have hB := um_lt (y % 9223372036854775808)
  have hB0 := um_ne _ hy0
  have hI := ueI _ hxf
  have hJ := ueI _ hyf
  have pX := uv_parts (x % 9223372036854775808)
  have pY := uv_parts (y % 9223372036854775808)
  have HB : Hid (uv (x % 9223372036854775808) < uv (y % 9223372036854775808) → sg x + vw (uv (x % 9223372036854775808) % uv (y % 9223372036854775808)) = x) := fun hY => sg_back x hxf _ hY
  have HS : Hid (∀ V w, Calls Tryz.prog 136 #[.float .f64 (vw V), .float .f64 x] w fun r w' => r = .returned (.float .f64 (sg x + vw V)) ∧ w' = w) := fun V w => by
    have := signed_any (vw V) x (by have : vw V < 2 ^ 63 := near_pos _ _; omega) hx w
    rw [vw_sign] at this
    exact this
  generalize hX : uv (x % 9223372036854775808) = X at *
  generalize hY : uv (y % 9223372036854775808) = Y at *
  generalize um (x % 9223372036854775808) = A at *
  generalize um (y % 9223372036854775808) = B at *
  generalize ue (x % 9223372036854775808) = I at *
  generalize ue (y % 9223372036854775808) = J at *
  generalize hV : sg x + vw (X % Y) = V at *
  have HV : Hid (sg x + vw (X % Y) = V) := hV
  have PX : Hid (X = A * 2 ^ I) := pX
  have PY : Hid (B * 2 ^ J = Y) := pY.symm
  clear hX hY hV pX pY
  have hc0 : (I : Int) - 1074 < (J : Int) - 1074 := by omega
  go_enter Tryz.func86, Tryz.ntmps86
  go_wp2_with fail
  go_fit (kX _)
  rintro r w ⟨rfl, rfl⟩
  go_wp2_with fail
  go_fit (kY _)
  rintro r w ⟨rfl, rfl⟩
  go_wp2_with fail
  go_fit (kEx _)
  rintro r w ⟨rfl, rfl⟩
  go_wp2_with fail
  go_fit (kEy _)
  rintro r w ⟨rfl, rfl⟩
  go_wp2_with fail
  go_fit (kWx _)
  rintro r w ⟨rfl, rfl⟩
  go_wp2_with fail
  go_fit (kWy _)
  rintro r w ⟨rfl, rfl⟩
  go_wp2
  go_loopw [7, 8] (fun bv jv w' => ∃ (b : Nat) (j : Nat), bv = .int .u64 (b : Int) ∧ jv = .int .i64 ((j : Int) - 1074) ∧ w' = w ∧ b ≠ 0 ∧ b < 2 ^ 63 ∧ I ≤ j ∧ j ≤ 2045 ∧ Hid (b * 2 ^ j = Y)) (fun _ jv _ => (RowKit.intOf jv + 1074).toNat)
  case atStart => exact ⟨B, J, rfl, rfl, rfl, hB0, by omega, by omega, by omega, PY⟩
  case round =>
    obtain ⟨b, j, rfl, rfl, rfl, hb0, hb63, hIj, hj, HY⟩ := hrel
    by_cases hc1 : I < j
    · have hc1' : (I : Int) - 1074 < (j : Int) - 1074 := by omega
      by_cases hc2 : b < 4611686018427387904
      · have HY2 : Hid (b * 2 * 2 ^ (j - 1) = Y) := by
          show _ = _
          rw [← HY.out, Nat.mul_assoc]
          congr 1
          rw [Nat.mul_comm, ← Nat.pow_succ]
          congr 1
          omega
        have hc2' : (b : Int) < 4611686018427387904 := by omega
        go_wp2
        refine ⟨⟨b * 2, j - 1, by congr 1, ?_, trivial, by omega, by omega, by omega, by omega, HY2⟩, by simp only [RowKit.intOf]; omega⟩
        congr 1
        omega
      · have hc2' : ¬ (b : Int) < 4611686018427387904 := by omega
        have hle : X < Y := by
          rw [PX.out, ← HY.out]
          calc A * 2 ^ I < 2 ^ 53 * 2 ^ I := Nat.mul_lt_mul_of_pos_right hA (Nat.two_pow_pos _)
            _ ≤ b * 2 ^ I := Nat.mul_le_mul_right _ (by omega)
            _ ≤ b * 2 ^ j := Nat.mul_le_mul_left _ (Nat.pow_le_pow_right (by decide) (by omega))
        have hVx := HB.out hle
        subst hVx
        go_wp2
        go_ret
        exact ⟨rfl, rfl⟩
    · have hij : j = I := by omega
      subst hij
      have hc1' : ¬ (j : Int) - 1074 < (j : Int) - 1074 := by omega
      obtain ⟨r, hr⟩ : ∃ r, A % b = r := ⟨_, rfl⟩
      have hrA : r < 2 ^ 53 := by rw [← hr]; exact Nat.lt_of_le_of_lt (Nat.mod_le _ _) hA
      have hm1 : (A : Int) % (b : Int) = (r : Int) := by omega
      have hm2 : (A : Int).tmod (b : Int) = (r : Int) := by rw [Int.tmod_eq_emod_of_nonneg (by omega)]; exact hm1
      have hbn : ¬ (b : Int) = 0 := by omega
      have kE := exact_any r ((j : Int) - 1074) hrA (by omega) (by omega)
      have e1 : r * 2 ^ ((j : Int) - 1074 + 1074).toNat = X % Y := by
        rw [show ((j : Int) - 1074 + 1074).toNat = j by omega, ← hr, PX.out, ← HY.out, Nat.mul_mod_mul_right]
      rw [e1] at kE
      have kS := HS.out (X % Y)
      rw [HV.out] at kS
      clear hr hrA
      generalize vw (X % Y) = VV at *
      go_wp2
      go_loopw [6, 9] (fun iv rv w' => iv = .int .i64 ((j : Int) - 1074) ∧ rv = .int .u64 (r : Int) ∧ w' = wr) (fun _ _ _ => 0)
      case atStart => exact ⟨rfl, rfl, rfl⟩
      case round =>
        obtain ⟨rfl, rfl, rfl⟩ := hrel
        go_wp2_with fail
        go_fit (kE _)
        rintro r w ⟨rfl, rfl⟩
        go_wp2_with fail
        go_fit (kS _)
        rintro r w ⟨rfl, rfl⟩
        go_wp2
        go_ret
        exact ⟨rfl, rfl⟩
set_option maxRecDepth 100000 in
set_option maxHeartbeats 2000000 in
theorem rmod_high (x y : Nat) (h : Fin2 x y) (hlt : ¬ ue (x % 9223372036854775808) < ue (y % 9223372036854775808)) (w : World) : Calls Tryz.prog 86 #[.float .f64 x, .float .f64 y] w fun r w' => r = .returned (.float .f64 (sg x + vw (uv (x % 9223372036854775808) % uv (y % 9223372036854775808)))) ∧ w' = w := by
  obtain ⟨hx, hy, hxn, hyn, hxf, hyf, hx0, hy0⟩ := h
  have kX := bad_any x
  rw [hxn] at kX
  have kY := bad_any y
  rw [hyn] at kY
  have kEx := endless_any x hx
  rw [infB_mod x hxn, infB_pos _ hxf] at kEx
  have kEy := endless_any y hy
  rw [infB_mod y hyn, infB_pos _ hyf] at kEy
  have ey := eq0_not y hy hy0
  have ex := eq0_not x hx hx0
  have kWx := whole_any x hx
  have kWy := whole_any y hy
  have hA := um_lt (x % 9223372036854775808)
  have hB := um_lt (y % 9223372036854775808)
  have hB0 := um_ne _ hy0
  have hI := ueI _ hxf
  have hJ := ueI _ hyf
  have pX := uv_parts (x % 9223372036854775808)
  have pY := uv_parts (y % 9223372036854775808)
  have HS : Hid (∀ V w, Calls Tryz.prog 136 #[.float .f64 (vw V), .float .f64 x] w fun r w' => r = .returned (.float .f64 (sg x + vw V)) ∧ w' = w) := fun V w => by
    have := signed_any (vw V) x (by have : vw V < 2 ^ 63 := near_pos _ _; omega) hx w
    rw [vw_sign] at this
    exact this
  generalize hX : uv (x % 9223372036854775808) = X at *
  generalize hY : uv (y % 9223372036854775808) = Y at *
  generalize um (x % 9223372036854775808) = A at *
  generalize um (y % 9223372036854775808) = B at *
  generalize ue (x % 9223372036854775808) = I at *
  generalize ue (y % 9223372036854775808) = J at *
  generalize hV : sg x + vw (X % Y) = V at *
  have HV : Hid (sg x + vw (X % Y) = V) := hV
  have PX : Hid (X = A * 2 ^ I) := pX
  have PY : Hid (B * 2 ^ J = Y) := pY.symm
  clear hX hY hV pX pY
  have hc0 : ¬ (I : Int) - 1074 < (J : Int) - 1074 := by omega
  go_enter Tryz.func86, Tryz.ntmps86
  go_wp2_with fail
  go_fit (kX _)
  rintro r w ⟨rfl, rfl⟩
  go_wp2_with fail
  go_fit (kY _)
  rintro r w ⟨rfl, rfl⟩
  go_wp2_with fail
  go_fit (kEx _)
  rintro r w ⟨rfl, rfl⟩
  go_wp2_with fail
  go_fit (kEy _)
  rintro r w ⟨rfl, rfl⟩
  go_wp2_with fail
  go_fit (kWx _)
  rintro r w ⟨rfl, rfl⟩
  go_wp2_with fail
  go_fit (kWy _)
  rintro r w ⟨rfl, rfl⟩
  obtain ⟨r0, hr0⟩ : ∃ r, A % B = r := ⟨_, rfl⟩
  have hm1 : (A : Int) % (B : Int) = (r0 : Int) := by omega
  have hm2 : (A : Int).tmod (B : Int) = (r0 : Int) := by rw [Int.tmod_eq_emod_of_nonneg (by omega)]; exact hm1
  have hbn : ¬ (B : Int) = 0 := by omega
  have HR0 : Hid (A * 2 ^ 0 % B = r0) := by show _ = _; rw [Nat.pow_zero, Nat.mul_one]; exact hr0
  have hr0B : r0 < B := by rw [← hr0]; exact Nat.mod_lt _ (by omega)
  go_wp2
  clear hm1 hm2 hr0
  go_loopw [6, 9] (fun iv rv w' => ∃ (s r : Nat), iv = .int .i64 ((I : Int) - 1074 - s) ∧ rv = .int .u64 (r : Int) ∧ w' = w ∧ s + J ≤ I ∧ r < B ∧ Hid (A * 2 ^ s % B = r)) (fun iv _ _ => (RowKit.intOf iv + 1074).toNat)
  case atStart => exact ⟨0, r0, by congr 1; omega, rfl, rfl, by omega, hr0B, HR0⟩
  case round =>
    obtain ⟨s, r, rfl, rfl, rfl, hs, hrB, HR⟩ := hrel
    by_cases hc1 : s + J < I
    · have hc1' : (J : Int) - 1074 < (I : Int) - 1074 - (s : Int) := by omega
      obtain ⟨r2, hr2⟩ : ∃ r2, r * 2 % B = r2 := ⟨_, rfl⟩
      have hm1 : (r : Int) * 2 % (B : Int) = (r2 : Int) := by rw [← hr2]; push_cast; rfl
      have hm2 : ((r : Int) * 2).tmod (B : Int) = (r2 : Int) := by rw [Int.tmod_eq_emod_of_nonneg (by omega)]; exact hm1
      have HR2 : Hid (A * 2 ^ (s + 1) % B = r2) := by
        show _ = _
        rw [← hr2, ← HR.out, Nat.pow_succ, ← Nat.mul_assoc, Nat.mod_mul_mod]
      have hr2B : r2 < B := by rw [← hr2]; exact Nat.mod_lt _ (by omega)
      clear hr2
      go_wp2
      refine ⟨⟨s + 1, r2, ?_, rfl, trivial, by omega, hr2B, HR2⟩, by simp only [RowKit.intOf]; omega⟩
      congr 1
      omega
    · have hij : I = s + J := by omega
      have hc1' : ¬ (J : Int) - 1074 < (I : Int) - 1074 - (s : Int) := by omega
      have kE := exact_any r ((J : Int) - 1074) (by omega) (by omega) (by omega)
      have e1 : r * 2 ^ ((J : Int) - 1074 + 1074).toNat = X % Y := by
        rw [show ((J : Int) - 1074 + 1074).toNat = J by omega, ← HR.out, PX.out, ← PY.out, hij, Nat.pow_add, ← Nat.mul_assoc, Nat.mul_mod_mul_right]
      rw [e1] at kE
      have kS := HS.out (X % Y)
      rw [HV.out] at kS
      generalize vw (X % Y) = VV at *
      clear hij
      go_wp2_with fail
      go_fit (kE _)
      rintro r w ⟨rfl, rfl⟩
      go_wp2_with fail
      go_fit (kS _)
      rintro r w ⟨rfl, rfl⟩
      go_wp2
      go_ret
      exact ⟨rfl, rfl⟩
set_option maxRecDepth 100000 in
set_option maxHeartbeats 2000000 in
theorem rmod_any (x y : Nat) (hx : x < 18446744073709551616) (hy : y < 18446744073709551616) (w : World) : Calls Tryz.prog 86 #[.float .f64 x, .float .f64 y] w (RF w (mdC x y)) := by
  have kN := rnan_any
  have kX := bad_any x
  have kY := bad_any y
  have kEx := endless_any x hx
  have kEy := endless_any y hy
  cases hxn : nanB x
  · cases hyn : nanB y
    · rw [hxn] at kX
      rw [hyn] at kY
      rcases kinds x hx hxn with hxf | hxi
      · rw [infB_mod x hxn, infB_pos _ hxf] at kEx
        by_cases hy0 : y % 9223372036854775808 = 0
        · rw [mdC_none x y (.inr (.inr (.inl hy0)))]
          have ey : FloatKind.f64.format.order y 0 = some .eq := by rw [ord0 y hy hyn, if_pos hy0]
          go_enter Tryz.func86, Tryz.ntmps86
          go_wp2_with fail
          go_fit (kX _)
          rintro r w ⟨rfl, rfl⟩
          go_wp2_with fail
          go_fit (kY _)
          rintro r w ⟨rfl, rfl⟩
          go_wp2_with fail
          go_fit (kEx _)
          rintro r w ⟨rfl, rfl⟩
          go_wp2_with fail
          go_fit (kN _)
          rintro r w ⟨rfl, rfl⟩
          go_wp2
          go_ret
          exact ⟨_, 0, rfl, rfl, by decide, cl_theNaN⟩
        · have ey := eq0_not y hy hy0
          rcases kinds y hy hyn with hyf | hyi
          · have hE : mdC x y = some (sg x + vw (uv (x % 9223372036854775808) % uv (y % 9223372036854775808))) := by
              unfold mdC
              rw [if_neg (by rw [hxn, hyn]; rintro (h | h | h | h) <;> first | cases h | omega), if_neg (by omega)]
            by_cases hx0 : x % 9223372036854775808 = 0
            · rw [infB_mod y hyn, infB_pos _ hyf] at kEy
              have ex : FloatKind.f64.format.order x 0 = some .eq := by rw [ord0 x hx hxn, if_pos hx0]
              have hb := sg_back x hxf (uv (y % 9223372036854775808)) (by rw [hx0]; have := uv_zero _ hy0; have h0 : uv 0 = 0 := rfl; omega)
              rw [hE, hb]
              have hc : Hid (cl x = some x) := cl_num hxn
              clear hE hb
              go_enter Tryz.func86, Tryz.ntmps86
              go_wp2_with fail
              go_fit (kX _)
              rintro r w ⟨rfl, rfl⟩
              go_wp2_with fail
              go_fit (kY _)
              rintro r w ⟨rfl, rfl⟩
              go_wp2_with fail
              go_fit (kEx _)
              rintro r w ⟨rfl, rfl⟩
              go_wp2_with fail
              go_fit (kEy _)
              rintro r w ⟨rfl, rfl⟩
              go_wp2
              go_ret
              exact ⟨_, 0, rfl, rfl, hx, hc.out⟩
            · have hF : Fin2 x y := ⟨hx, hy, hxn, hyn, hxf, hyf, hx0, hy0⟩
              rw [hE]
              have hl : sg x + vw (uv (x % 9223372036854775808) % uv (y % 9223372036854775808)) < 18446744073709551616 := by
                have h1 : vw (uv (x % 9223372036854775808) % uv (y % 9223372036854775808)) < 2 ^ 63 := near_pos _ _
                have := sg_lt x hx
                omega
              have hbn : nanB (sg x + vw (uv (x % 9223372036854775808) % uv (y % 9223372036854775808))) = false := by
                have h0 : nanB (vw (uv (x % 9223372036854775808) % uv (y % 9223372036854775808))) = false := nanB_near _
                have hs := sg_lt x hx
                rw [nanB_eq] at h0 ⊢
                have h1 := of_decide_eq_false h0
                exact decide_eq_false (by omega)
              by_cases hlt : ue (x % 9223372036854775808) < ue (y % 9223372036854775808)
              · refine (rmod_low x y hF hlt w).mono ?_
                rintro r w' ⟨rfl, rfl⟩
                exact ⟨_, 0, rfl, rfl, hl, cl_num hbn⟩
              · refine (rmod_high x y hF hlt w).mono ?_
                rintro r w' ⟨rfl, rfl⟩
                exact ⟨_, 0, rfl, rfl, hl, cl_num hbn⟩
          · have hE : mdC x y = some x := by
              unfold mdC
              rw [if_neg (by rw [hxn, hyn]; rintro (h | h | h | h) <;> first | cases h | omega), if_pos hyi]
            rw [hE]
            have hc : Hid (cl x = some x) := cl_num hxn
            rw [infB_iff y hyn hy, decide_eq_true hyi] at kEy
            clear hE
            go_enter Tryz.func86, Tryz.ntmps86
            go_wp2_with fail
            go_fit (kX _)
            rintro r w ⟨rfl, rfl⟩
            go_wp2_with fail
            go_fit (kY _)
            rintro r w ⟨rfl, rfl⟩
            go_wp2_with fail
            go_fit (kEx _)
            rintro r w ⟨rfl, rfl⟩
            go_wp2_with fail
            go_fit (kEy _)
            rintro r w ⟨rfl, rfl⟩
            go_wp2
            go_ret
            exact ⟨_, 0, rfl, rfl, hx, hc.out⟩
      · rw [mdC_none x y (.inr (.inr (.inr hxi)))]
        rw [infB_iff x hxn hx, decide_eq_true hxi] at kEx
        go_enter Tryz.func86, Tryz.ntmps86
        go_wp2_with fail
        go_fit (kX _)
        rintro r w ⟨rfl, rfl⟩
        go_wp2_with fail
        go_fit (kY _)
        rintro r w ⟨rfl, rfl⟩
        go_wp2_with fail
        go_fit (kEx _)
        rintro r w ⟨rfl, rfl⟩
        go_wp2_with fail
        go_fit (kN _)
        rintro r w ⟨rfl, rfl⟩
        go_wp2
        go_ret
        exact ⟨_, 0, rfl, rfl, by decide, cl_theNaN⟩
    · rw [mdC_none x y (.inr (.inl hyn))]
      rw [hxn] at kX
      rw [hyn] at kY
      go_enter Tryz.func86, Tryz.ntmps86
      go_wp2_with fail
      go_fit (kX _)
      rintro r w ⟨rfl, rfl⟩
      go_wp2_with fail
      go_fit (kY _)
      rintro r w ⟨rfl, rfl⟩
      go_wp2_with fail
      go_fit (kN _)
      rintro r w ⟨rfl, rfl⟩
      go_wp2
      go_ret
      exact ⟨_, 0, rfl, rfl, by decide, cl_theNaN⟩
  · rw [mdC_none x y (.inl hxn)]
    rw [hxn] at kX
    go_enter Tryz.func86, Tryz.ntmps86
    go_wp2_with fail
    go_fit (kX _)
    rintro r w ⟨rfl, rfl⟩
    go_wp2_with fail
    go_fit (kN _)
    rintro r w ⟨rfl, rfl⟩
    go_wp2
    go_ret
    exact ⟨_, 0, rfl, rfl, by decide, cl_theNaN⟩
end Go.Proofs.YtebjklppbkkinaaGreatDoor.F
