/- The reference's remainder: the rest. -/
import Derived.Test.YtebjklppbkkinaaMg
namespace Go.Proofs.Ytebjklppbkkinaa
open Go.RowKit Ieee

theorem ueI (x : Nat) (h : x < 0x7ff0000000000000) : (0 : Int) ≤ (ue x : Int) ∧ (ue x : Int) ≤ 2045 := by
  have := ue_le x h
  omega
theorem um_ne (x : Nat) (h : x ≠ 0) : um x ≠ 0 := fun hc => by
  have := uv_zero x h
  rw [uv_parts, hc, Nat.zero_mul] at this
  exact this rfl
theorem sg_back (x : Nat) (h : x % 9223372036854775808 < 0x7ff0000000000000) (Y : Nat) (hY : uv (x % 9223372036854775808) < Y) : sg x + vw (uv (x % 9223372036854775808) % Y) = x := by
  rw [Nat.mod_eq_of_lt hY, vw_uv _ h]
  unfold sg
  omega
theorem vw_sign (V : Nat) (x : Nat) : vw V % 9223372036854775808 + sg x = sg x + vw V := by
  have h : vw V < 2 ^ 63 := near_pos _ _
  omega
/-- The premises of the finite case. -/
def Fin2 (x y : Nat) : Prop := x < 18446744073709551616 ∧ y < 18446744073709551616 ∧ nanB x = false ∧ nanB y = false ∧ x % 9223372036854775808 < 0x7ff0000000000000 ∧ y % 9223372036854775808 < 0x7ff0000000000000 ∧ x % 9223372036854775808 ≠ 0 ∧ y % 9223372036854775808 ≠ 0
set_option maxRecDepth 100000 in
set_option maxHeartbeats 2000000 in
theorem rmod_low (x y : Nat) (h : Fin2 x y) (hlt : ue (x % 9223372036854775808) < ue (y % 9223372036854775808)) (w : World) : Calls Try.prog 18 #[.float .f64 x, .float .f64 y] w fun r w' => r = .returned (.float .f64 (sg x + vw (uv (x % 9223372036854775808) % uv (y % 9223372036854775808)))) ∧ w' = w := by
  obtain ⟨hx, hy, hxn, hyn, hxf, hyf, hx0, hy0⟩ := h
  have kX := bad_any x
  rw [hxn] at kX
  have kY := bad_any y
  rw [hyn] at kY
  have kEx := endless_any x hx
  rw [infB_mod x hxn, infB_pos _ hxf] at kEx
  have kEy := endless_any y hy
  rw [infB_mod y hyn, infB_pos _ hyf] at kEy
  have ey := eq0_not y hy hy0
  have ex := eq0_not x hx hx0
  have kWx := whole_any x hx
  have kWy := whole_any y hy
  have hA := um_lt (x % 9223372036854775808)
  have hB := um_lt (y % 9223372036854775808)
  have hB0 := um_ne _ hy0
  have hI := ueI _ hxf
  have hJ := ueI _ hyf
  have pX := uv_parts (x % 9223372036854775808)
  have pY := uv_parts (y % 9223372036854775808)
  have HB : Hid (uv (x % 9223372036854775808) < uv (y % 9223372036854775808) → sg x + vw (uv (x % 9223372036854775808) % uv (y % 9223372036854775808)) = x) := fun hY => sg_back x hxf _ hY
  have HS : Hid (∀ V w, Calls Try.prog 26 #[.float .f64 (vw V), .float .f64 x] w fun r w' => r = .returned (.float .f64 (sg x + vw V)) ∧ w' = w) := fun V w => by
    have := signed_any (vw V) x (by have : vw V < 2 ^ 63 := near_pos _ _; omega) hx w
    rw [vw_sign] at this
    exact this
  generalize hX : uv (x % 9223372036854775808) = X at *
  generalize hY : uv (y % 9223372036854775808) = Y at *
  generalize um (x % 9223372036854775808) = A at *
  generalize um (y % 9223372036854775808) = B at *
  generalize ue (x % 9223372036854775808) = I at *
  generalize ue (y % 9223372036854775808) = J at *
  generalize hV : sg x + vw (X % Y) = V at *
  have HV : Hid (sg x + vw (X % Y) = V) := hV
  have PX : Hid (X = A * 2 ^ I) := pX
  have PY : Hid (B * 2 ^ J = Y) := pY.symm
  clear hX hY hV pX pY
  have hc0 : (I : Int) - 1074 < (J : Int) - 1074 := by omega
  go_enter Try.func18, Try.ntmps18
  go_wp2_with fail
  go_fit (kX _)
  rintro r w ⟨rfl, rfl⟩
  go_wp2_with fail
  go_fit (kY _)
  rintro r w ⟨rfl, rfl⟩
  go_wp2_with fail
  go_fit (kEx _)
  rintro r w ⟨rfl, rfl⟩
  go_wp2_with fail
  go_fit (kEy _)
  rintro r w ⟨rfl, rfl⟩
  go_wp2_with fail
  go_fit (kWx _)
  rintro r w ⟨rfl, rfl⟩
  go_wp2_with fail
  go_fit (kWy _)
  rintro r w ⟨rfl, rfl⟩
  go_wp2
  go_loopw [7, 8] (fun bv jv w' => ∃ (b : Nat) (j : Nat), bv = .int .u64 (b : Int) ∧ jv = .int .i64 ((j : Int) - 1074) ∧ w' = w ∧ b ≠ 0 ∧ b < 2 ^ 63 ∧ I ≤ j ∧ j ≤ 2045 ∧ Hid (b * 2 ^ j = Y)) (fun _ jv _ => (RowKit.intOf jv + 1074).toNat)
  case atStart => exact ⟨B, J, rfl, rfl, rfl, hB0, by omega, by omega, by omega, PY⟩
  case round =>
    obtain ⟨b, j, rfl, rfl, rfl, hb0, hb63, hIj, hj, HY⟩ := hrel
    by_cases hc1 : I < j
    · have hc1' : (I : Int) - 1074 < (j : Int) - 1074 := by omega
      by_cases hc2 : b < 4611686018427387904
      · have HY2 : Hid (b * 2 * 2 ^ (j - 1) = Y) := by
          show _ = _
          rw [← HY.out, Nat.mul_assoc]
          congr 1
          rw [Nat.mul_comm, ← Nat.pow_succ]
          congr 1
          omega
        have hc2' : (b : Int) < 4611686018427387904 := by omega
        go_wp2
        refine ⟨⟨b * 2, j - 1, by congr 1, ?_, trivial, by omega, by omega, by omega, by omega, HY2⟩, by simp only [RowKit.intOf]; omega⟩
        congr 1
        omega
      · have hc2' : ¬ (b : Int) < 4611686018427387904 := by omega
        have hle : X < Y := by
          rw [PX.out, ← HY.out]
          calc A * 2 ^ I < 2 ^ 53 * 2 ^ I := Nat.mul_lt_mul_of_pos_right hA (Nat.two_pow_pos _)
            _ ≤ b * 2 ^ I := Nat.mul_le_mul_right _ (by omega)
            _ ≤ b * 2 ^ j := Nat.mul_le_mul_left _ (Nat.pow_le_pow_right (by decide) (by omega))
        have hVx := HB.out hle
        subst hVx
        go_wp2
        go_ret
        exact ⟨rfl, rfl⟩
    · have hij : j = I := by omega
      subst hij
      have hc1' : ¬ (j : Int) - 1074 < (j : Int) - 1074 := by omega
      obtain ⟨r, hr⟩ : ∃ r, A % b = r := ⟨_, rfl⟩
      have hrA : r < 2 ^ 53 := by rw [← hr]; exact Nat.lt_of_le_of_lt (Nat.mod_le _ _) hA
      have hm1 : (A : Int) % (b : Int) = (r : Int) := by omega
      have hm2 : (A : Int).tmod (b : Int) = (r : Int) := by rw [Int.tmod_eq_emod_of_nonneg (by omega)]; exact hm1
      have hbn : ¬ (b : Int) = 0 := by omega
      have kE := exact_any r ((j : Int) - 1074) hrA (by omega) (by omega)
      have e1 : r * 2 ^ ((j : Int) - 1074 + 1074).toNat = X % Y := by
        rw [show ((j : Int) - 1074 + 1074).toNat = j by omega, ← hr, PX.out, ← HY.out, Nat.mul_mod_mul_right]
      rw [e1] at kE
      have kS := HS.out (X % Y)
      rw [HV.out] at kS
      clear hr hrA
      generalize vw (X % Y) = VV at *
      go_wp2
      go_loopw [6, 9] (fun iv rv w' => iv = .int .i64 ((j : Int) - 1074) ∧ rv = .int .u64 (r : Int) ∧ w' = wr) (fun _ _ _ => 0)
      case atStart => exact ⟨rfl, rfl, rfl⟩
      case round =>
        obtain ⟨rfl, rfl, rfl⟩ := hrel
        go_wp2_with fail
        go_fit (kE _)
        rintro r w ⟨rfl, rfl⟩
        go_wp2_with fail
        go_fit (kS _)
        rintro r w ⟨rfl, rfl⟩
        go_wp2
        go_ret
        exact ⟨rfl, rfl⟩
set_option maxRecDepth 100000 in
set_option maxHeartbeats 2000000 in
theorem rmod_high (x y : Nat) (h : Fin2 x y) (hlt : ¬ ue (x % 9223372036854775808) < ue (y % 9223372036854775808)) (w : World) : Calls Try.prog 18 #[.float .f64 x, .float .f64 y] w fun r w' => r = .returned (.float .f64 (sg x + vw (uv (x % 9223372036854775808) % uv (y % 9223372036854775808)))) ∧ w' = w := by
  obtain ⟨hx, hy, hxn, hyn, hxf, hyf, hx0, hy0⟩ := h
  have kX := bad_any x
  rw [hxn] at kX
  have kY := bad_any y
  rw [hyn] at kY
  have kEx := endless_any x hx
  rw [infB_mod x hxn, infB_pos _ hxf] at kEx
  have kEy := endless_any y hy
  rw [infB_mod y hyn, infB_pos _ hyf] at kEy
  have ey := eq0_not y hy hy0
  have ex := eq0_not x hx hx0
  have kWx := whole_any x hx
  have kWy := whole_any y hy
  have hA := um_lt (x % 9223372036854775808)
  have hB := um_lt (y % 9223372036854775808)
  have hB0 := um_ne _ hy0
  have hI := ueI _ hxf
  have hJ := ueI _ hyf
  have pX := uv_parts (x % 9223372036854775808)
  have pY := uv_parts (y % 9223372036854775808)
  have HS : Hid (∀ V w, Calls Try.prog 26 #[.float .f64 (vw V), .float .f64 x] w fun r w' => r = .returned (.float .f64 (sg x + vw V)) ∧ w' = w) := fun V w => by
    have := signed_any (vw V) x (by have : vw V < 2 ^ 63 := near_pos _ _; omega) hx w
    rw [vw_sign] at this
    exact this
  generalize hX : uv (x % 9223372036854775808) = X at *
  generalize hY : uv (y % 9223372036854775808) = Y at *
  generalize um (x % 9223372036854775808) = A at *
  generalize um (y % 9223372036854775808) = B at *
  generalize ue (x % 9223372036854775808) = I at *
  generalize ue (y % 9223372036854775808) = J at *
  generalize hV : sg x + vw (X % Y) = V at *
  have HV : Hid (sg x + vw (X % Y) = V) := hV
  have PX : Hid (X = A * 2 ^ I) := pX
  have PY : Hid (B * 2 ^ J = Y) := pY.symm
  clear hX hY hV pX pY
  have hc0 : ¬ (I : Int) - 1074 < (J : Int) - 1074 := by omega
  go_enter Try.func18, Try.ntmps18
  go_wp2_with fail
  go_fit (kX _)
  rintro r w ⟨rfl, rfl⟩
  go_wp2_with fail
  go_fit (kY _)
  rintro r w ⟨rfl, rfl⟩
  go_wp2_with fail
  go_fit (kEx _)
  rintro r w ⟨rfl, rfl⟩
  go_wp2_with fail
  go_fit (kEy _)
  rintro r w ⟨rfl, rfl⟩
  go_wp2_with fail
  go_fit (kWx _)
  rintro r w ⟨rfl, rfl⟩
  go_wp2_with fail
  go_fit (kWy _)
  rintro r w ⟨rfl, rfl⟩
  obtain ⟨r0, hr0⟩ : ∃ r, A % B = r := ⟨_, rfl⟩
  have hm1 : (A : Int) % (B : Int) = (r0 : Int) := by omega
  have hm2 : (A : Int).tmod (B : Int) = (r0 : Int) := by rw [Int.tmod_eq_emod_of_nonneg (by omega)]; exact hm1
  have hbn : ¬ (B : Int) = 0 := by omega
  have HR0 : Hid (A * 2 ^ 0 % B = r0) := by show _ = _; rw [Nat.pow_zero, Nat.mul_one]; exact hr0
  have hr0B : r0 < B := by rw [← hr0]; exact Nat.mod_lt _ (by omega)
  go_wp2
  clear hm1 hm2 hr0
  go_loopw [6, 9] (fun iv rv w' => ∃ (s r : Nat), iv = .int .i64 ((I : Int) - 1074 - s) ∧ rv = .int .u64 (r : Int) ∧ w' = w ∧ s + J ≤ I ∧ r < B ∧ Hid (A * 2 ^ s % B = r)) (fun iv _ _ => (RowKit.intOf iv + 1074).toNat)
  case atStart => exact ⟨0, r0, by congr 1; omega, rfl, rfl, by omega, hr0B, HR0⟩
  case round =>
    obtain ⟨s, r, rfl, rfl, rfl, hs, hrB, HR⟩ := hrel
    by_cases hc1 : s + J < I
    · have hc1' : (J : Int) - 1074 < (I : Int) - 1074 - (s : Int) := by omega
      obtain ⟨r2, hr2⟩ : ∃ r2, r * 2 % B = r2 := ⟨_, rfl⟩
      have hm1 : (r : Int) * 2 % (B : Int) = (r2 : Int) := by rw [← hr2]; push_cast; rfl
      have hm2 : ((r : Int) * 2).tmod (B : Int) = (r2 : Int) := by rw [Int.tmod_eq_emod_of_nonneg (by omega)]; exact hm1
      have HR2 : Hid (A * 2 ^ (s + 1) % B = r2) := by
        show _ = _
        rw [← hr2, ← HR.out, Nat.pow_succ, ← Nat.mul_assoc, Nat.mod_mul_mod]
      have hr2B : r2 < B := by rw [← hr2]; exact Nat.mod_lt _ (by omega)
      clear hr2
      go_wp2
      refine ⟨⟨s + 1, r2, ?_, rfl, trivial, by omega, hr2B, HR2⟩, by simp only [RowKit.intOf]; omega⟩
      congr 1
      omega
    · have hij : I = s + J := by omega
      have hc1' : ¬ (J : Int) - 1074 < (I : Int) - 1074 - (s : Int) := by omega
      have kE := exact_any r ((J : Int) - 1074) (by omega) (by omega) (by omega)
      have e1 : r * 2 ^ ((J : Int) - 1074 + 1074).toNat = X % Y := by
        rw [show ((J : Int) - 1074 + 1074).toNat = J by omega, ← HR.out, PX.out, ← PY.out, hij, Nat.pow_add, ← Nat.mul_assoc, Nat.mul_mod_mul_right]
      rw [e1] at kE
      have kS := HS.out (X % Y)
      rw [HV.out] at kS
      generalize vw (X % Y) = VV at *
      clear hij
      go_wp2_with fail
      go_fit (kE _)
      rintro r w ⟨rfl, rfl⟩
      go_wp2_with fail
      go_fit (kS _)
      rintro r w ⟨rfl, rfl⟩
      go_wp2
      go_ret
      exact ⟨rfl, rfl⟩
set_option maxRecDepth 100000 in
set_option maxHeartbeats 2000000 in
theorem rmod_any (x y : Nat) (hx : x < 18446744073709551616) (hy : y < 18446744073709551616) (w : World) : Calls Try.prog 18 #[.float .f64 x, .float .f64 y] w (RF w (mdC x y)) := by
  have kN := rnan_any
  have kX := bad_any x
  have kY := bad_any y
  have kEx := endless_any x hx
  have kEy := endless_any y hy
  cases hxn : nanB x
  · cases hyn : nanB y
    · rw [hxn] at kX
      rw [hyn] at kY
      rcases kinds x hx hxn with hxf | hxi
      · rw [infB_mod x hxn, infB_pos _ hxf] at kEx
        by_cases hy0 : y % 9223372036854775808 = 0
        · rw [mdC_none x y (.inr (.inr (.inl hy0)))]
          have ey : FloatKind.f64.format.order y 0 = some .eq := by rw [ord0 y hy hyn, if_pos hy0]
          go_enter Try.func18, Try.ntmps18
          go_wp2_with fail
          go_fit (kX _)
          rintro r w ⟨rfl, rfl⟩
          go_wp2_with fail
          go_fit (kY _)
          rintro r w ⟨rfl, rfl⟩
          go_wp2_with fail
          go_fit (kEx _)
          rintro r w ⟨rfl, rfl⟩
          go_wp2_with fail
          go_fit (kN _)
          rintro r w ⟨rfl, rfl⟩
          go_wp2
          go_ret
          exact ⟨_, 0, rfl, rfl, by decide, cl_theNaN⟩
        · have ey := eq0_not y hy hy0
          rcases kinds y hy hyn with hyf | hyi
          · have hE : mdC x y = some (sg x + vw (uv (x % 9223372036854775808) % uv (y % 9223372036854775808))) := by
              unfold mdC
              rw [if_neg (by rw [hxn, hyn]; rintro (h | h | h | h) <;> first | cases h | omega), if_neg (by omega)]
            by_cases hx0 : x % 9223372036854775808 = 0
            · rw [infB_mod y hyn, infB_pos _ hyf] at kEy
              have ex : FloatKind.f64.format.order x 0 = some .eq := by rw [ord0 x hx hxn, if_pos hx0]
              have hb := sg_back x hxf (uv (y % 9223372036854775808)) (by rw [hx0]; have := uv_zero _ hy0; have h0 : uv 0 = 0 := rfl; omega)
              rw [hE, hb]
              have hc : Hid (cl x = some x) := cl_num hxn
              clear hE hb
              go_enter Try.func18, Try.ntmps18
              go_wp2_with fail
              go_fit (kX _)
              rintro r w ⟨rfl, rfl⟩
              go_wp2_with fail
              go_fit (kY _)
              rintro r w ⟨rfl, rfl⟩
              go_wp2_with fail
              go_fit (kEx _)
              rintro r w ⟨rfl, rfl⟩
              go_wp2_with fail
              go_fit (kEy _)
              rintro r w ⟨rfl, rfl⟩
              go_wp2
              go_ret
              exact ⟨_, 0, rfl, rfl, hx, hc.out⟩
            · have hF : Fin2 x y := ⟨hx, hy, hxn, hyn, hxf, hyf, hx0, hy0⟩
              rw [hE]
              have hl : sg x + vw (uv (x % 9223372036854775808) % uv (y % 9223372036854775808)) < 18446744073709551616 := by
                have h1 : vw (uv (x % 9223372036854775808) % uv (y % 9223372036854775808)) < 2 ^ 63 := near_pos _ _
                have := sg_lt x hx
                omega
              have hbn : nanB (sg x + vw (uv (x % 9223372036854775808) % uv (y % 9223372036854775808))) = false := by
                have h0 : nanB (vw (uv (x % 9223372036854775808) % uv (y % 9223372036854775808))) = false := nanB_near _
                have hs := sg_lt x hx
                rw [nanB_eq] at h0 ⊢
                have h1 := of_decide_eq_false h0
                exact decide_eq_false (by omega)
              by_cases hlt : ue (x % 9223372036854775808) < ue (y % 9223372036854775808)
              · refine (rmod_low x y hF hlt w).mono ?_
                rintro r w' ⟨rfl, rfl⟩
                exact ⟨_, 0, rfl, rfl, hl, cl_num hbn⟩
              · refine (rmod_high x y hF hlt w).mono ?_
                rintro r w' ⟨rfl, rfl⟩
                exact ⟨_, 0, rfl, rfl, hl, cl_num hbn⟩
          · have hE : mdC x y = some x := by
              unfold mdC
              rw [if_neg (by rw [hxn, hyn]; rintro (h | h | h | h) <;> first | cases h | omega), if_pos hyi]
            rw [hE]
            have hc : Hid (cl x = some x) := cl_num hxn
            rw [infB_iff y hyn hy, decide_eq_true hyi] at kEy
            clear hE
            go_enter Try.func18, Try.ntmps18
            go_wp2_with fail
            go_fit (kX _)
            rintro r w ⟨rfl, rfl⟩
            go_wp2_with fail
            go_fit (kY _)
            rintro r w ⟨rfl, rfl⟩
            go_wp2_with fail
            go_fit (kEx _)
            rintro r w ⟨rfl, rfl⟩
            go_wp2_with fail
            go_fit (kEy _)
            rintro r w ⟨rfl, rfl⟩
            go_wp2
            go_ret
            exact ⟨_, 0, rfl, rfl, hx, hc.out⟩
      · rw [mdC_none x y (.inr (.inr (.inr hxi)))]
        rw [infB_iff x hxn hx, decide_eq_true hxi] at kEx
        go_enter Try.func18, Try.ntmps18
        go_wp2_with fail
        go_fit (kX _)
        rintro r w ⟨rfl, rfl⟩
        go_wp2_with fail
        go_fit (kY _)
        rintro r w ⟨rfl, rfl⟩
        go_wp2_with fail
        go_fit (kEx _)
        rintro r w ⟨rfl, rfl⟩
        go_wp2_with fail
        go_fit (kN _)
        rintro r w ⟨rfl, rfl⟩
        go_wp2
        go_ret
        exact ⟨_, 0, rfl, rfl, by decide, cl_theNaN⟩
    · rw [mdC_none x y (.inr (.inl hyn))]
      rw [hxn] at kX
      rw [hyn] at kY
      go_enter Try.func18, Try.ntmps18
      go_wp2_with fail
      go_fit (kX _)
      rintro r w ⟨rfl, rfl⟩
      go_wp2_with fail
      go_fit (kY _)
      rintro r w ⟨rfl, rfl⟩
      go_wp2_with fail
      go_fit (kN _)
      rintro r w ⟨rfl, rfl⟩
      go_wp2
      go_ret
      exact ⟨_, 0, rfl, rfl, by decide, cl_theNaN⟩
  · rw [mdC_none x y (.inl hxn)]
    rw [hxn] at kX
    go_enter Try.func18, Try.ntmps18
    go_wp2_with fail
    go_fit (kX _)
    rintro r w ⟨rfl, rfl⟩
    go_wp2_with fail
    go_fit (kN _)
    rintro r w ⟨rfl, rfl⟩
    go_wp2
    go_ret
    exact ⟨_, 0, rfl, rfl, by decide, cl_theNaN⟩
end Go.Proofs.Ytebjklppbkkinaa
