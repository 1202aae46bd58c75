/- The small functions of Exp; scaled and scale. -/
import Derived.Test.YtebjklppbkkinaaPr
import Derived.Test.YtebjklppbkkinaaRt
import Derived.Laws.ShiftsVar
namespace Go.Proofs.Ytebjklppbkkinaa
open Go.RowKit Ieee

set_option maxHeartbeats 400000 in
theorem isNaN_any (x : Nat) (w : World) : Calls Try.prog 35 #[.float .f64 x] w fun r w' => r = .returned (.bool (nanB x)) ∧ w' = w := by
  have e := fo_self x
  cases h : nanB x
  · rw [h, if_neg (by decide)] at e
    go_enter Try.func35, Try.ntmps35
    go_wp2
    go_ret
    exact ⟨rfl, rfl⟩
  · rw [h, if_pos rfl] at e
    go_enter Try.func35, Try.ntmps35
    go_wp2
    go_ret
    exact ⟨rfl, rfl⟩
set_option maxHeartbeats 400000 in
theorem bad_any (x : Nat) (w : World) : Calls Try.prog 22 #[.float .f64 x] w fun r w' => r = .returned (.bool (nanB x)) ∧ w' = w := by
  have e := fo_self x
  cases h : nanB x
  · rw [h, if_neg (by decide)] at e
    go_enter Try.func22, Try.ntmps22
    go_wp2
    go_ret
    exact ⟨rfl, rfl⟩
  · rw [h, if_pos rfl] at e
    go_enter Try.func22, Try.ntmps22
    go_wp2
    go_ret
    exact ⟨rfl, rfl⟩
set_option maxHeartbeats 400000 in
theorem inf1_any (w : World) : Calls Try.prog 59 #[.int .i64 1] w fun r w' => r = .returned (.float .f64 9218868437227405312) ∧ w' = w := by
  have h3 := callFrom
  go_enter Try.func59, Try.ntmps59
  go_wp2
  go_ret
  exact ⟨rfl, rfl⟩
set_option maxHeartbeats 400000 in
theorem infm_any (w : World) : Calls Try.prog 59 #[.int .i64 (-1)] w fun r w' => r = .returned (.float .f64 18442240474082181120) ∧ w' = w := by
  have h3 := callFrom
  go_enter Try.func59, Try.ntmps59
  go_wp2
  go_ret
  exact ⟨rfl, rfl⟩
set_option maxHeartbeats 400000 in
theorem rinf1_any (w : World) : Calls Try.prog 46 #[.int .i64 1] w fun r w' => r = .returned (.float .f64 9218868437227405312) ∧ w' = w := by
  have k1 := inf1_any
  go_enter Try.func46, Try.ntmps46
  go_wp2_with fail
  go_fit (k1 _)
  rintro r w ⟨rfl, rfl⟩
  go_wp2
  go_ret
  exact ⟨rfl, rfl⟩
set_option maxHeartbeats 400000 in
theorem rinfm_any (w : World) : Calls Try.prog 46 #[.int .i64 (-1)] w fun r w' => r = .returned (.float .f64 18442240474082181120) ∧ w' = w := by
  have k1 := infm_any
  go_enter Try.func46, Try.ntmps46
  go_wp2_with fail
  go_fit (k1 _)
  rintro r w ⟨rfl, rfl⟩
  go_wp2
  go_ret
  exact ⟨rfl, rfl⟩
set_option maxHeartbeats 400000 in
theorem rc80_any (w : World) : Calls Try.prog 50 #[] w fun r w' => r = .returned (.float .f64 4609176140021203710) ∧ w' = w := by
  have k1 := rbits_any 4609176140021203710
  go_enter Try.func50, Try.ntmps50
  go_wp2_with fail
  go_fit (k1 _)
  rintro r w ⟨rfl, rfl⟩
  go_wp2
  go_ret
  exact ⟨rfl, rfl⟩
set_option maxHeartbeats 400000 in
theorem rc81_any (w : World) : Calls Try.prog 51 #[] w fun r w' => r = .returned (.float .f64 4604418534312771584) ∧ w' = w := by
  have k1 := rbits_any 4604418534312771584
  go_enter Try.func51, Try.ntmps51
  go_wp2_with fail
  go_fit (k1 _)
  rintro r w ⟨rfl, rfl⟩
  go_wp2
  go_ret
  exact ⟨rfl, rfl⟩
set_option maxHeartbeats 400000 in
theorem rc82_any (w : World) : Calls Try.prog 52 #[] w fun r w' => r = .returned (.float .f64 4455313330490472685) ∧ w' = w := by
  have k1 := rbits_any 4455313330490472685
  go_enter Try.func52, Try.ntmps52
  go_wp2_with fail
  go_fit (k1 _)
  rintro r w ⟨rfl, rfl⟩
  go_wp2
  go_ret
  exact ⟨rfl, rfl⟩

theorem callFloor0 (args : Array Value) (w : World) : (callFunc 66 args).run Try.prog w = ((Extern.MathFloor.toIntegral "math.archFloor" .down args).run Try.prog w).andThen fun v w' => .ok (.value v) w' :=
  run_callFunc_extern Try.func66 (by kernel_rfl) (by kernel_rfl) (by kernel_rfl) (by kernel_rfl) args w
theorem ti_num (y : Nat) (n : String) (h : nanB y = false) : Extern.MathFloor.toIntegral n .down #[.float .f64 y] = pure (.float .f64 (flr y)) := by
  conv => lhs; whnf
  have e : FloatKind.f64.decode y = Ieee.double.read y := rfl
  rw [e]
  unfold flr
  unfold nanB at h
  cases hr : Ieee.double.read y with
  | nan s f => rw [hr] at h; simp [Datum.isNaN] at h
  | infinity s => rfl
  | number s m i => rfl
theorem callFloor (y : Nat) (h : nanB y = false) (w : World) : (callFunc 66 #[.float .f64 y]).run Try.prog w = .ok (.value (.float .f64 (flr y))) w := by
  rw [callFloor0, ti_num y _ h]; rfl
set_option maxHeartbeats 400000 in
theorem floor_num (y : Nat) (h : nanB y = false) (w : World) : Calls Try.prog 47 #[.float .f64 y] w fun e w' => e = .returned (.float .f64 (flr y)) ∧ w' = w := by
  have hc := callFloor y h
  go_enter Try.func47, Try.ntmps47
  go_wp2
  go_ret
  exact ⟨rfl, rfl⟩

theorem p2_toNat (e : Int) (h1 : -1022 ≤ e) : ((e + 1023) * 4503599627370496).toNat = p2 e := by
  unfold p2
  rw [show (2 : Nat) ^ 52 = 4503599627370496 from rfl]
  omega
set_option maxHeartbeats 400000 in
theorem power_any (e : Int) (h1 : -1022 ≤ e) (h2 : e ≤ 1023) (w : World) : Calls Try.prog 71 #[.int .i64 e] w fun r w' => r = .returned (.float .f64 (p2 e)) ∧ w' = w := by
  have k1 := fromBits_any ((e + 1023) * 4503599627370496)
  rw [p2_toNat e h1] at k1
  generalize p2 e = P at *
  go_enter Try.func71, Try.ntmps71
  go_wp2_with fail
  go_fit (k1 _)
  rintro r w ⟨rfl, rfl⟩
  go_wp2
  go_ret
  exact ⟨rfl, rfl⟩

theorem p2_num (e : Int) (h1 : -1022 ≤ e) (h2 : e ≤ 1023) : cl (p2 e) = some (p2 e) := by
  apply cl_num
  unfold nanB
  rw [read_p2 e h1 h2]; rfl

/-- zc is z times 2 ^ A, rounded once. -/
def Sc (z : Nat) (A : Int) (zc : Nat) : Prop := (A = 0 ∧ zc = z) ∨ cl zc = scC (cl z) A
theorem Sc.start (z : Nat) : Sc z 0 z := .inl ⟨rfl, rfl⟩
theorem Sc.step {z : Nat} {A : Int} {zc : Nat} (h : Sc z A zc) (hz : gdS z) (a : Int) (hA : -960 ≤ A) (ha : 0 ≤ a ∨ A ≤ 0) (h1 : -1022 ≤ a) (h2 : a ≤ 1023) : fb .mul (cl zc) (cl (p2 a)) = scC (cl z) (A + a) := by
  rw [p2_num a h1 h2]
  cases hn : nanB z with
  | true =>
    rw [cl_nan hn]
    rcases h with ⟨_, rfl⟩ | h
    · rw [cl_nan hn]; rfl
    · rw [h, cl_nan hn]; rfl
  | false =>
    have hcz := cl_num hn
    cases hr : Ieee.double.read z with
    | nan s f => unfold nanB at hn; rw [hr] at hn; simp [Datum.isNaN] at hn
    | infinity s =>
      have e : ∀ B, scC (cl z) B = some (Ieee.double.word s Ieee.double.infRung) := fun B => by rw [hcz]; unfold scC; simp only [Option.bind_some, hr]
      rw [e]
      rcases h with ⟨_, rfl⟩ | h
      · rw [hcz]
        exact mul_inf _ s a hr h1 h2
      · rw [e] at h
        rw [h]
        exact mul_inf _ s a (read_inf s) h1 h2
    | number s m i =>
      have e : ∀ B, scC (cl z) B = some (Ieee.double.nearest s m (i + B)) := fun B => by rw [hcz]; unfold scC; simp only [Option.bind_some, hr]
      obtain ⟨_, m53⟩ := read_place z s m i hr
      rw [e]
      rcases h with ⟨rfl, rfl⟩ | h
      · rw [hcz, Int.zero_add]
        exact mul_p2 _ s m i a hr h1 h2
      · rw [e] at h
        rw [h]
        show floatBits .mul .f64 (Ieee.double.nearest s m (i + A)) (p2 a) = _
        by_cases h0 : m = 0
        · subst h0
          rw [nearest_zero, nearest_zero, mul_p2 _ s 0 (-1074) a (read_zero s) h1 h2, nearest_zero]
        · have hi : -105 ≤ i := by
            rcases hz s m i hr with h | h
            · exact absurd h h0
            · exact h
          have hlog : m.log2 ≤ 52 := by
            have := (Nat.log2_lt h0).2 m53
            omega
          have hi2 : i ≤ 971 := by
            have hlt : z % 2 ^ 63 < 0x7ff0000000000000 := by
              have hu := read_uv z s m i hr
              rcases Nat.lt_or_ge (z % 2 ^ 63) 0x7ff0000000000000 with h | h
              · exact h
              · exfalso
                have hb : Ieee.double.binade = 2 ^ 52 := rfl
                have hii : Ieee.double.infRung = 0x7ff0000000000000 := by decide
                have hsw : Ieee.double.signWeight = 2 ^ 63 := rfl
                unfold Format.read at hr
                simp only [hb, hii, hsw] at hr
                rw [if_neg (by omega), if_neg (by omega)] at hr
                split at hr <;> cases hr
            obtain ⟨s', m', i', hr', hle⟩ := read_top z hlt
            rw [hr] at hr'
            cases hr'
            exact hle
          have := mul_near s m (i + A) a m53 (by omega) (by omega) h1 h2
          rw [this]
          congr 2
          omega

set_option maxHeartbeats 1000000 in
theorem scaled_any (z : Nat) (hz : gdS z) (K : Int) (hK1 : -1900 ≤ K) (hK2 : K ≤ 1900) (w : World) : Calls Try.prog 61 #[.float .f64 z, .int .i64 K] w (RF w (scC (cl z) K)) := by
  have hm := @run_fmul Try.prog
  obtain ⟨f, hf⟩ : ∃ f, K.tdiv 2 = f := ⟨_, rfl⟩
  have hfb : (0 ≤ K ∧ 0 ≤ f ∧ f ≤ K ∧ f ≤ 950 ∧ K - f ≤ 951) ∨ (K < 0 ∧ f ≤ 0 ∧ K ≤ f ∧ -950 ≤ f ∧ -951 ≤ K - f) := by
    by_cases h : K < 0
    · right
      rw [show K = -(-K) by omega, Int.neg_tdiv, Int.tdiv_eq_ediv_of_nonneg (by omega)] at hf
      omega
    · left
      rw [Int.tdiv_eq_ediv_of_nonneg (by omega)] at hf
      omega
  have k1 := power_any f (by omega) (by omega)
  have k2 := power_any (K - f) (by omega) (by omega)
  have S1 := (Sc.start z).step hz f (by decide) (by omega) (by omega) (by omega)
  rw [Int.zero_add] at S1
  have hE : Hid (∀ y, cl y = fb .mul (cl z) (cl (p2 f)) → fb .mul (cl y) (cl (p2 (K - f))) = scC (cl z) K) := fun y hy => by
    have := (show Sc z f y from .inr (hy.trans S1)).step hz (K - f) (by omega) (by omega) (by omega) (by omega)
    rw [this]
    congr 1
    omega
  clear S1
  have hfl : -950 ≤ f ∧ f ≤ 950 ∧ -951 ≤ K - f ∧ K - f ≤ 951 := by omega
  obtain ⟨f1, f2, f3, f4⟩ := hfl
  clear hfb
  generalize p2 f = P1 at *
  generalize p2 (K - f) = P2 at *
  generalize scC (cl z) K = R at *
  go_enter Try.func61, Try.ntmps61
  go_wp2_with fail
  go_fit (k1 _)
  rintro r _ ⟨rfl, rfl⟩
  go_wp2_with fail
  go_fit (k2 _)
  rintro r _ ⟨rfl, rfl⟩
  go_wp2
  go_ret
  refine ⟨_, _, rfl, rfl, fz_lt _ _ _ _, ?_⟩
  rw [cl_fz]
  exact hE.out _ (cl_fz _ _ _ _)

theorem p2_100 : p2 100 = 5057542381537067008 := by decide
theorem p2_900 : p2 (-900) = 553942754166571008 := by decide
theorem p2_toNat' (e : Int) (h1 : -1022 ≤ e) : ((1023 + e) * 4503599627370496).toNat = p2 e := by rw [Int.add_comm]; exact p2_toNat e h1

set_option maxHeartbeats 1000000 in
theorem scale_any (z : Nat) (hzl : z < 18446744073709551616) (hz : gdS z) (K : Int) (hK1 : -1900 ≤ K) (hK2 : K ≤ 1900) (w : World) : Calls Try.prog 53 #[.float .f64 z, .int .i64 K] w (RF w (scC (cl z) K)) := by
  have hm := @run_fmul Try.prog
  have kb := rbits_any
  have HS : Hid (∀ (A : Int) (zc : Nat) (a : Int), Sc z A zc → -960 ≤ A → (0 ≤ a ∨ A ≤ 0) → -1022 ≤ a → a ≤ 1023 → fb .mul (cl zc) (cl (p2 a)) = scC (cl z) (A + a)) := fun A zc a h h1 h2 h3 h4 => h.step hz a h1 h2 h3 h4
  have S0 : Hid (Sc z 0 z) := Sc.start z
  generalize hR : scC (cl z) K = R
  have HR : Hid (scC (cl z) K = R) := hR
  clear hR
  go_enter Try.func53, Try.ntmps53
  go_wp2
  go_loopw [0, 1] (fun sv kv w' => ∃ (zc : Nat) (k : Int) (n : Nat), sv = .float .f64 zc ∧ kv = .int .i64 k ∧ w' = w.drewN n ∧ zc < 18446744073709551616 ∧ Hid (Sc z (K - k) zc) ∧ k ≤ 1900 ∧ (k = K ∨ (900 < k ∧ k < K))) (fun _ kv _ => (RowKit.intOf kv).toNat)
  case atStart => exact ⟨z, K, 0, rfl, rfl, rfl, hzl, by rw [Int.sub_self]; exact S0, hK2, .inl rfl⟩
  case round =>
    obtain ⟨zc, k, n, rfl, rfl, rfl, hzc, hsc, hk1, hk2⟩ := hrel
    by_cases hbig : 1000 < k
    · have e1 := HS.out (K - k) zc 100 hsc.out (by omega) (by omega) (by decide) (by decide)
      rw [p2_100, show K - k + 100 = K - (k - 100) by omega] at e1
      have E1 : Hid _ := e1
      clear e1
      go_wp2_with fail
      go_fit (kb _ _)
      rintro r _ ⟨rfl, rfl⟩
      go_wp2
      refine ⟨⟨_, k - 100, _, rfl, by go_num, rfl, fz_lt _ _ _ _, ?_, by omega, by omega⟩, by simp [RowKit.intOf]; omega⟩
      exact .inr ((cl_fz _ _ _ _).trans E1.out)
    · by_cases hlow : -1000 ≤ k
      · have e1 := HS.out (K - k) zc k hsc.out (by omega) (by omega) (by omega) (by omega)
        rw [show K - k + k = K by omega, HR.out] at e1
        have E1 : Hid _ := e1
        have k1 := fun w => rbits_any ((1023 + k) * 4503599627370496) w
        rw [p2_toNat' k (by omega)] at k1
        generalize p2 k = P at *
        clear e1
        go_wp2_with fail
        go_fit (k1 _)
        rintro r _ ⟨rfl, rfl⟩
        go_wp2
        go_ret
        exact ⟨_, _, rfl, rfl, fz_lt _ _ _ _, (cl_fz _ _ _ _).trans E1.out⟩
      · have hkK : k = K := by omega
        subst hkK
        have hs0 : Sc z 0 zc := by
          have := hsc.out
          rw [Int.sub_self] at this
          exact this
        have e1 := HS.out 0 zc (-900) hs0 (by decide) (by omega) (by decide) (by decide)
        rw [p2_900, Int.zero_add] at e1
        have E1 : Hid (∀ y, cl y = fb .mul (cl zc) (cl 553942754166571008) → fb .mul (cl y) (cl (p2 (k + 900))) = R) := fun y hy => by
          have := HS.out (-900) y (k + 900) (.inr (hy.trans e1)) (by decide) (by omega) (by omega) (by omega)
          rw [this, show -900 + (k + 900) = k by omega, HR.out]
        have k1 := fun w => rbits_any ((1023 + k + 900) * 4503599627370496) w
        rw [show 1023 + k + 900 = 1023 + (k + 900) by omega, p2_toNat' (k + 900) (by omega), show 1023 + (k + 900) = 1023 + k + 900 by omega] at k1
        generalize p2 (k + 900) = P at *
        clear e1 hs0
        go_wp2_with fail
        go_fit (kb _ _)
        rintro r _ ⟨rfl, rfl⟩
        go_wp2_with fail
        go_fit (k1 _)
        rintro r _ ⟨rfl, rfl⟩
        go_wp2
        go_ret
        refine ⟨_, _, rfl, rfl, fz_lt _ _ _ _, ?_⟩
        rw [cl_fz]
        exact E1.out _ (cl_fz _ _ _ _)
end Go.Proofs.Ytebjklppbkkinaa
