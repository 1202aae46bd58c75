/- math.Mod, any floats. -/
import Derived.Test.YtebjklppbkkinaaMd
namespace Go.Proofs.Ytebjklppbkkinaa
open Go.RowKit Ieee

theorem rdInf : Ieee.double.read 9218868437227405312 = .infinity false := by decide
theorem rdNz : Ieee.double.read 9223372036854775808 = .number true 0 (-1074) := by decide
theorem ord_inf (x : Nat) (h : x % 9223372036854775808 < 9218868437227405312) : FloatKind.f64.format.order x 9218868437227405312 = some .lt := by
  have e : FloatKind.f64.format.order x 9218868437227405312 = (Ieee.double.read x).order (Ieee.double.read 9218868437227405312) := rfl
  obtain ⟨s, m, i, hr⟩ := read_fin x h
  rw [e, rdInf, hr]
  rfl
theorem ord_nz (x y : Nat) (hx : x < 18446744073709551616) (hx0 : x % 9223372036854775808 = 0) (h0 : y ≠ 0) (hy : y < 0x7ff0000000000000) : FloatKind.f64.format.order x y = some .lt := by
  obtain ⟨m, i, hr, hu⟩ := read_pos y hy
  have hz := uv_zero y h0
  have : x = 0 ∨ x = 9223372036854775808 := by omega
  rcases this with rfl | rfl
  · refine (ord_bd _ _ _ _ _ _ _ _ rd0 hr).2.2 ?_
    have z0 : un false 0 (-1074) = 0 := by unfold un; rw [signed_eq, Nat.zero_mul]; rfl
    rw [z0, hu]; omega
  · refine (ord_bd _ _ _ _ _ _ _ _ rdNz hr).2.2 ?_
    have z0 : un true 0 (-1074) = 0 := by unfold un; rw [signed_eq, Nat.zero_mul]; rfl
    rw [z0, hu]; omega
theorem nanB_near (V : Nat) : nanB (vw V) = false := by
  unfold vw
  by_cases h : V = 0
  · subst h
    rw [nearest_zero, word_pos]; decide
  · rw [nearest_rung false V _ h]
    refine nanB_word false _ ?_
    unfold rung
    exact Nat.min_le_right _ _
theorem mdC_none (x y : Nat) (h : nanB x = true ∨ nanB y = true ∨ y % 9223372036854775808 = 0 ∨ x % 9223372036854775808 = 9218868437227405312) : mdC x y = none := by
  unfold mdC
  rw [if_pos h]
theorem eq0_nan (y : Nat) (h : nanB y = true) : (FloatKind.f64.format.order y 0 == some .eq) = false := by
  rw [ord_nan0 y h]; rfl
theorem eq0_not (y : Nat) (hy : y < 18446744073709551616) (h : ¬ y % 9223372036854775808 = 0) : (FloatKind.f64.format.order y 0 == some .eq) = false := by
  cases hn : nanB y
  · rw [ord0 y hy hn, if_neg h]
    split <;> rfl
  · exact eq0_nan y hn
theorem inf_mod (x : Nat) (hx : x < 18446744073709551616) (h : infB (cl x) = true) : nanB x = false ∧ x % 9223372036854775808 = 9218868437227405312 := by
  cases hn : nanB x
  · rw [infB_iff x hn hx] at h
    exact ⟨rfl, of_decide_eq_true h⟩
  · rw [cl_nan hn] at h
    cases h
set_option maxRecDepth 100000 in
set_option maxHeartbeats 2000000 in
theorem mod_any (x y : Nat) (hx : x < 18446744073709551616) (hy : y < 18446744073709551616) (w : World) : Calls Try.prog 58 #[.float .f64 x, .float .f64 y] w (RF w (mdC x y)) := by
  have kN := nan_any
  have kI := isInf_any x hx
  have kX := isNaN_any x
  have kY := isNaN_any y
  by_cases hy0 : y % 9223372036854775808 = 0
  · have hyn : nanB y = false := by
      rw [nanB_eq]; exact decide_eq_false (by rw [show (2 : Nat) ^ 63 = 9223372036854775808 from rfl]; omega)
    have he : FloatKind.f64.format.order y 0 = some .eq := by rw [ord0 y hy hyn, if_pos hy0]
    rw [mdC_none x y (.inr (.inr (.inl hy0)))]
    go_enter Try.func58, Try.ntmps58
    go_wp2_with fail
    go_fit (kN _)
    rintro r w ⟨rfl, rfl⟩
    go_wp2
    go_ret
    exact ⟨_, 0, rfl, rfl, by decide, cl_theNaN⟩
  · have he := eq0_not y hy hy0
    cases hi : infB (cl x)
    · cases hxn : nanB x
      · cases hyn : nanB y
        · rw [hi] at kI
          rw [hxn] at kX
          rw [hyn] at kY
          have hxf : x % 9223372036854775808 < 9218868437227405312 := by
            rcases kinds x hx hxn with h | h
            · exact h
            · rw [infB_iff x hxn hx, decide_eq_true h] at hi; cases hi
          have kA := abs_any y hy
          rcases kinds y hy hyn with hyf | hyi
          · have hE : mdC x y = some (sg x + vw (uv (x % 9223372036854775808) % uv (y % 9223372036854775808))) := by
              unfold mdC
              rw [if_neg (by rw [hxn, hyn]; rintro (h | h | h | h) <;> first | cases h | omega), if_neg (by omega)]
            rw [hE]
            by_cases hx0 : x % 9223372036854775808 = 0
            · obtain ⟨M, P, hN⟩ := nz_ex _ hy0 hyf
              have kF := frexp_any _ M P hy0 hyf hN
              have ho := ord_nz x _ hx hx0 hy0 hyf
              have hxo : (FloatKind.f64.format.order x 0 == some .lt) = false := by rw [ord0 x hx hxn, if_pos hx0]; rfl
              have hv : Hid (some x = some (sg x + vw (uv (x % 9223372036854775808) % uv (y % 9223372036854775808)))) := by
                show _ = _
                rw [hx0]
                have e0 : uv 0 = 0 := rfl
                rw [e0, Nat.zero_mod]
                have e1 : vw 0 = 0 := by unfold vw; rw [nearest_zero, word_pos]
                rw [e1]
                unfold sg
                congr 1
                omega
              have hc : Hid (cl x = some x) := cl_num hxn
              clear hE
              generalize some (sg x + vw (uv (x % 9223372036854775808) % uv (y % 9223372036854775808))) = V at *
              generalize y % 9223372036854775808 = y' at *
              generalize Ieee.double.nearest false M (-53) = Z at *
              go_enter Try.func58, Try.ntmps58
              go_wp2_with fail
              go_fit (kI _)
              rintro r w ⟨rfl, rfl⟩
              go_wp2_with fail
              go_fit (kX _)
              rintro r w ⟨rfl, rfl⟩
              go_wp2_with fail
              go_fit (kY _)
              rintro r w ⟨rfl, rfl⟩
              go_wp2_with fail
              go_fit (kA _)
              rintro r w ⟨rfl, rfl⟩
              go_wp2_with fail
              go_fit (kF _)
              rintro r w ⟨rfl, rfl⟩
              go_wp2
              go_loopw [7] (fun rv w' => rv = .float .f64 x ∧ w' = w) (fun _ _ => 0)
              case atStart => exact ⟨rfl, rfl⟩
              case round =>
                obtain ⟨rfl, rfl⟩ := hrel
                go_wp2
                go_ret
                exact ⟨_, 0, rfl, rfl, hx, hc.out.trans hv.out⟩
            · by_cases hs : x < 9223372036854775808
              · rw [Nat.mod_eq_of_lt hs] at hx0 hxf ⊢
                refine (mod_pos x _ y hx0 hxf hy0 hyf hy hyn rfl w).mono ?_
                rintro r w' ⟨rfl, rfl⟩
                have hs0 : sg x = 0 := by unfold sg; omega
                have hb := near_pos (uv x % uv (y % 9223372036854775808)) (-1074)
                have hbn : nanB (vw (uv x % uv (y % 9223372036854775808))) = false := nanB_near _
                rw [hs0, Nat.zero_add]
                exact ⟨_, 0, rfl, rfl, by unfold vw; omega, cl_num hbn⟩
              · obtain ⟨x', rfl⟩ : ∃ x', x = x' + 2 ^ 63 := ⟨x - 2 ^ 63, by omega⟩
                have hm : (x' + 2 ^ 63) % 9223372036854775808 = x' := by omega
                rw [hm] at hx0 hxf ⊢
                refine (mod_neg x' _ y hx0 hxf hy0 hyf hy hyn rfl w).mono ?_
                rintro r w' ⟨rfl, rfl⟩
                have hs0 : sg (x' + 2 ^ 63) = 2 ^ 63 := by unfold sg; omega
                have hb : vw (uv x' % uv (y % 9223372036854775808)) < 2 ^ 63 := near_pos _ _
                have hbn : nanB (vw (uv x' % uv (y % 9223372036854775808)) + 2 ^ 63) = false := by
                  have h0 : nanB (vw (uv x' % uv (y % 9223372036854775808))) = false := nanB_near _
                  rw [nanB_eq] at h0 ⊢
                  have h1 := of_decide_eq_false h0
                  exact decide_eq_false (by omega)
                rw [hs0, Nat.add_comm (2 ^ 63)]
                exact ⟨_, 0, rfl, rfl, by omega, cl_num hbn⟩
          · have hE : mdC x y = some x := by
              unfold mdC
              rw [if_neg (by rw [hxn, hyn]; rintro (h | h | h | h) <;> first | cases h | omega), if_pos hyi]
            rw [hE]
            have hc : Hid (cl x = some x) := cl_num hxn
            rw [hyi] at kA
            have kF := frexp_inf
            by_cases hs : FloatKind.f64.format.order x 0 = some .lt
            · have hng := @run_neg Try.prog x
              have hng2 := @run_neg2 Try.prog (Op.negFloat .f64 x) x (neg_neg x)
              have ho : FloatKind.f64.format.order (Op.negFloat .f64 x) 9218868437227405312 = some .lt := by
                apply ord_inf
                rw [neg_eq, show (9223372036854775808 : Nat) = 2 ^ 63 from rfl, Nat.xor_mod_two_pow, Nat.mod_self, Nat.xor_zero]
                exact hxf
              generalize Op.negFloat .f64 x = x' at *
              clear hE
              go_enter Try.func58, Try.ntmps58
              go_wp2_with fail
              go_fit (kI _)
              rintro r w ⟨rfl, rfl⟩
              go_wp2_with fail
              go_fit (kX _)
              rintro r w ⟨rfl, rfl⟩
              go_wp2_with fail
              go_fit (kY _)
              rintro r w ⟨rfl, rfl⟩
              go_wp2_with fail
              go_fit (kA _)
              rintro r w ⟨rfl, rfl⟩
              go_wp2_with fail
              go_fit (kF _)
              rintro r w ⟨rfl, rfl⟩
              go_wp2
              go_loopw [7] (fun rv w' => rv = .float .f64 x' ∧ w' = w) (fun _ _ => 0)
              case atStart => exact ⟨rfl, rfl⟩
              case round =>
                obtain ⟨rfl, rfl⟩ := hrel
                go_wp2
                go_ret
                exact ⟨_, 0, rfl, rfl, hx, hc.out⟩
            · have ho := ord_inf x hxf
              have hs' : (FloatKind.f64.format.order x 0 == some .lt) = false := beq_eq_false_iff_ne.2 hs
              clear hE hs
              go_enter Try.func58, Try.ntmps58
              go_wp2_with fail
              go_fit (kI _)
              rintro r w ⟨rfl, rfl⟩
              go_wp2_with fail
              go_fit (kX _)
              rintro r w ⟨rfl, rfl⟩
              go_wp2_with fail
              go_fit (kY _)
              rintro r w ⟨rfl, rfl⟩
              go_wp2_with fail
              go_fit (kA _)
              rintro r w ⟨rfl, rfl⟩
              go_wp2_with fail
              go_fit (kF _)
              rintro r w ⟨rfl, rfl⟩
              go_wp2
              go_loopw [7] (fun rv w' => rv = .float .f64 x ∧ w' = w) (fun _ _ => 0)
              case atStart => exact ⟨rfl, rfl⟩
              case round =>
                obtain ⟨rfl, rfl⟩ := hrel
                go_wp2
                go_ret
                exact ⟨_, 0, rfl, rfl, hx, hc.out⟩
        · rw [mdC_none x y (.inr (.inl hyn))]
          rw [hi] at kI
          rw [hxn] at kX
          rw [hyn] at kY
          go_enter Try.func58, Try.ntmps58
          go_wp2_with fail
          go_fit (kI _)
          rintro r w ⟨rfl, rfl⟩
          go_wp2_with fail
          go_fit (kX _)
          rintro r w ⟨rfl, rfl⟩
          go_wp2_with fail
          go_fit (kY _)
          rintro r w ⟨rfl, rfl⟩
          go_wp2_with fail
          go_fit (kN _)
          rintro r w ⟨rfl, rfl⟩
          go_wp2
          go_ret
          exact ⟨_, 0, rfl, rfl, by decide, cl_theNaN⟩
      · rw [mdC_none x y (.inl hxn)]
        rw [hi] at kI
        rw [hxn] at kX
        go_enter Try.func58, Try.ntmps58
        go_wp2_with fail
        go_fit (kI _)
        rintro r w ⟨rfl, rfl⟩
        go_wp2_with fail
        go_fit (kX _)
        rintro r w ⟨rfl, rfl⟩
        go_wp2_with fail
        go_fit (kN _)
        rintro r w ⟨rfl, rfl⟩
        go_wp2
        go_ret
        exact ⟨_, 0, rfl, rfl, by decide, cl_theNaN⟩
    · obtain ⟨-, hxi⟩ := inf_mod x hx hi
      rw [mdC_none x y (.inr (.inr (.inr hxi)))]
      rw [hi] at kI
      go_enter Try.func58, Try.ntmps58
      go_wp2_with fail
      go_fit (kI _)
      rintro r w ⟨rfl, rfl⟩
      go_wp2_with fail
      go_fit (kN _)
      rintro r w ⟨rfl, rfl⟩
      go_wp2
      go_ret
      exact ⟨_, 0, rfl, rfl, by decide, cl_theNaN⟩
set_option maxHeartbeats 400000 in
theorem mathMod_any (x y : Nat) (hx : x < 18446744073709551616) (hy : y < 18446744073709551616) (w : World) : Calls Try.prog 34 #[.float .f64 x, .float .f64 y] w (RF w (mdC x y)) := by
  have kM := mod_any x y hx hy
  generalize mdC x y = C at *
  go_enter Try.func34, Try.ntmps34
  go_wp2_with fail
  go_fit (kM _)
  rintro r w2 ⟨z, k, rfl, rfl, hzl, hzc⟩
  have HZ : Hid (cl z = C) := hzc
  clear hzc
  go_wp2
  go_ret
  exact ⟨_, _, rfl, rfl, hzl, HZ.out⟩
set_option maxHeartbeats 400000 in
theorem calcMod_any (x y : Nat) (hx : x < 18446744073709551616) (hy : y < 18446744073709551616) (w : World) : Calls Try.prog 20 #[.float .f64 x, .float .f64 y] w (RF w (mdC x y)) := by
  have kM := mathMod_any x y hx hy
  generalize mdC x y = C at *
  go_enter Try.func20, Try.ntmps20
  go_wp2_with fail
  go_fit (kM _)
  rintro r w2 ⟨z, k, rfl, rfl, hzl, hzc⟩
  have HZ : Hid (cl z = C) := hzc
  clear hzc
  go_wp2
  go_ret
  exact ⟨_, _, rfl, rfl, hzl, HZ.out⟩
end Go.Proofs.Ytebjklppbkkinaa
