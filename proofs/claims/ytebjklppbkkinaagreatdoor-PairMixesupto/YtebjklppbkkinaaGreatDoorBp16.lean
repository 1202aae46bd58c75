/- A bundle of texts. -/
import Derived.Test.YtebjklppbkkinaaGreatDoorBp14
import Derived.Test.YtebjklppbkkinaaGreatDoorBp15
import Derived.Laws.ShiftsVar
/- The small functions of Exp; scaled and scale. -/
namespace Go.Proofs.YtebjklppbkkinaaGreatDoor.F
open Go.RowKit Ieee

set_option maxHeartbeats 400000 in
theorem isNaN_any (x : Nat) (w : World) : Calls Tryz.prog 117 #[.float .f64 x] w fun r w' => r = .returned (.bool (nanB x)) ∧ w' = w := by
  have e := fo_self x
  cases h : nanB x
  · rw [h, if_neg (by decide)] at e
    go_enter Tryz.func117, Tryz.ntmps117
    go_wp2
    go_ret
    exact ⟨rfl, rfl⟩
  · rw [h, if_pos rfl] at e
    go_enter Tryz.func117, Tryz.ntmps117
    go_wp2
    go_ret
    exact ⟨rfl, rfl⟩
set_option maxHeartbeats 400000 in
theorem bad_any (x : Nat) (w : World) : Calls Tryz.prog 132 #[.float .f64 x] w fun r w' => r = .returned (.bool (nanB x)) ∧ w' = w := by
  have e := fo_self x
  cases h : nanB x
  · rw [h, if_neg (by decide)] at e
    go_enter Tryz.func132, Tryz.ntmps132
    go_wp2
    go_ret
    exact ⟨rfl, rfl⟩
  · rw [h, if_pos rfl] at e
    go_enter Tryz.func132, Tryz.ntmps132
    go_wp2
    go_ret
    exact ⟨rfl, rfl⟩
set_option maxHeartbeats 400000 in
theorem inf1_any (w : World) : Calls Tryz.prog 162 #[.int .i64 1] w fun r w' => r = .returned (.float .f64 9218868437227405312) ∧ w' = w := by
  have h3 := callFrom
  go_enter Tryz.func162, Tryz.ntmps162
  go_wp2
  go_ret
  exact ⟨rfl, rfl⟩
set_option maxHeartbeats 400000 in
theorem infm_any (w : World) : Calls Tryz.prog 162 #[.int .i64 (-1)] w fun r w' => r = .returned (.float .f64 18442240474082181120) ∧ w' = w := by
  have h3 := callFrom
  go_enter Tryz.func162, Tryz.ntmps162
  go_wp2
  go_ret
  exact ⟨rfl, rfl⟩
set_option maxHeartbeats 400000 in
theorem rinf1_any (w : World) : Calls Tryz.prog 172 #[.int .i64 1] w fun r w' => r = .returned (.float .f64 9218868437227405312) ∧ w' = w := by
  have k1 := inf1_any
  go_enter Tryz.func172, Tryz.ntmps172
  go_wp2_with fail
  go_fit (k1 _)
  rintro r w ⟨rfl, rfl⟩
  go_wp2
  go_ret
  exact ⟨rfl, rfl⟩
set_option maxHeartbeats 400000 in
theorem rinfm_any (w : World) : Calls Tryz.prog 172 #[.int .i64 (-1)] w fun r w' => r = .returned (.float .f64 18442240474082181120) ∧ w' = w := by
  have k1 := infm_any
  go_enter Tryz.func172, Tryz.ntmps172
  go_wp2_with fail
  go_fit (k1 _)
  rintro r w ⟨rfl, rfl⟩
  go_wp2
  go_ret
  exact ⟨rfl, rfl⟩
set_option maxHeartbeats 400000 in
theorem rc80_any (w : World) : Calls Tryz.prog 174 #[] w fun r w' => r = .returned (.float .f64 4609176140021203710) ∧ w' = w := by
  have k1 := rbits_any 4609176140021203710
  go_enter Tryz.func174, Tryz.ntmps174
  go_wp2_with fail
  go_fit (k1 _)
  rintro r w ⟨rfl, rfl⟩
  go_wp2
  go_ret
  exact ⟨rfl, rfl⟩
set_option maxHeartbeats 400000 in
theorem rc81_any (w : World) : Calls Tryz.prog 175 #[] w fun r w' => r = .returned (.float .f64 4604418534312771584) ∧ w' = w := by
  have k1 := rbits_any 4604418534312771584
  go_enter Tryz.func175, Tryz.ntmps175
  go_wp2_with fail
  go_fit (k1 _)
  rintro r w ⟨rfl, rfl⟩
  go_wp2
  go_ret
  exact ⟨rfl, rfl⟩
set_option maxHeartbeats 400000 in
theorem rc82_any (w : World) : Calls Tryz.prog 176 #[] w fun r w' => r = .returned (.float .f64 4455313330490472685) ∧ w' = w := by
  have k1 := rbits_any 4455313330490472685
  go_enter Tryz.func176, Tryz.ntmps176
  go_wp2_with fail
  go_fit (k1 _)
  rintro r w ⟨rfl, rfl⟩
  go_wp2
  go_ret
  exact ⟨rfl, rfl⟩

theorem callFloor0 (args : Array Value) (w : World) : (callFunc 201 args).run Tryz.prog w = ((Extern.MathFloor.toIntegral "math.archFloor" .down args).run Tryz.prog w).andThen fun v w' => .ok (.value v) w' :=
  run_callFunc_extern Tryz.func201 (by kernel_rfl) (by kernel_rfl) (by kernel_rfl) (by kernel_rfl) args w
theorem ti_num (y : Nat) (n : String) (h : nanB y = false) : Extern.MathFloor.toIntegral n .down #[.float .f64 y] = pure (.float .f64 (flr y)) := by
  conv => lhs; whnf
  have e : FloatKind.f64.decode y = Ieee.double.read y := rfl
  rw [e]
  unfold flr
  unfold nanB at h
  cases hr : Ieee.double.read y with
  | nan s f => rw [hr] at h; simp [Datum.isNaN] at h
  | infinity s => rfl
  | number s m i => rfl
theorem callFloor (y : Nat) (h : nanB y = false) (w : World) : (callFunc 201 #[.float .f64 y]).run Tryz.prog w = .ok (.value (.float .f64 (flr y))) w := by
  rw [callFloor0, ti_num y _ h]; rfl
set_option maxHeartbeats 400000 in
theorem floor_num (y : Nat) (h : nanB y = false) (w : World) : Calls Tryz.prog 163 #[.float .f64 y] w fun e w' => e = .returned (.float .f64 (flr y)) ∧ w' = w := by
  have hc := callFloor y h
  go_enter Tryz.func163, Tryz.ntmps163
  go_wp2
  go_ret
  exact ⟨rfl, rfl⟩

theorem p2_toNat (e : Int) (h1 : -1022 ≤ e) : ((e + 1023) * 4503599627370496).toNat = p2 e := by
  unfold p2
  rw [show (2 : Nat) ^ 52 = 4503599627370496 from rfl]
  omega
set_option maxHeartbeats 400000 in
theorem power_any (e : Int) (h1 : -1022 ≤ e) (h2 : e ≤ 1023) (w : World) : Calls Tryz.prog 203 #[.int .i64 e] w fun r w' => r = .returned (.float .f64 (p2 e)) ∧ w' = w := by
  have k1 := fromBits_any ((e + 1023) * 4503599627370496)
  rw [p2_toNat e h1] at k1
  generalize p2 e = P at *
  go_enter Tryz.func203, Tryz.ntmps203
  go_wp2_with fail
  go_fit (k1 _)
  rintro r w ⟨rfl, rfl⟩
  go_wp2
  go_ret
  exact ⟨rfl, rfl⟩

theorem p2_num (e : Int) (h1 : -1022 ≤ e) (h2 : e ≤ 1023) : cl (p2 e) = some (p2 e) := by
  apply cl_num
  unfold nanB
  rw [read_p2 e h1 h2]; rfl

/-- zc is z times 2 ^ A, rounded once. -/
def Sc (z : Nat) (A : Int) (zc : Nat) : Prop := (A = 0 ∧ zc = z) ∨ cl zc = scC (cl z) A
theorem Sc.start (z : Nat) : Sc z 0 z := .inl ⟨rfl, rfl⟩
theorem Sc.step {z : Nat} {A : Int} {zc : Nat} (h : Sc z A zc) (hz : gdS z) (a : Int) (hA : -960 ≤ A) (ha : 0 ≤ a ∨ A ≤ 0) (h1 : -1022 ≤ a) (h2 : a ≤ 1023) : fb .mul (cl zc) (cl (p2 a)) = scC (cl z) (A + a) := by
  rw [p2_num a h1 h2]
  cases hn : nanB z with
  | true =>
    rw [cl_nan hn]
    rcases h with ⟨_, rfl⟩ | h
    · rw [cl_nan hn]; rfl
    · rw [h, cl_nan hn]; rfl
  | false =>
    have hcz := cl_num hn
    cases hr : Ieee.double.read z with
    | nan s f => unfold nanB at hn; rw [hr] at hn; simp [Datum.isNaN] at hn
    | infinity s =>
      have e : ∀ B, scC (cl z) B = some (Ieee.double.word s Ieee.double.infRung) := fun B => by rw [hcz]; unfold scC; simp only [Option.bind_some, hr]
      rw [e]
      rcases h with ⟨_, rfl⟩ | h
      · rw [hcz]
        exact mul_inf _ s a hr h1 h2
      · rw [e] at h
        rw [h]
        exact mul_inf _ s a (read_inf s) h1 h2
    | number s m i =>
      have e : ∀ B, scC (cl z) B = some (Ieee.double.nearest s m (i + B)) := fun B => by rw [hcz]; unfold scC; simp only [Option.bind_some, hr]
      obtain ⟨_, m53⟩ := read_place z s m i hr
      rw [e]
      rcases h with ⟨rfl, rfl⟩ | h
      · rw [hcz, Int.zero_add]
        exact mul_p2 _ s m i a hr h1 h2
      · rw [e] at h
        rw [h]
        show floatBits .mul .f64 (Ieee.double.nearest s m (i + A)) (p2 a) = _
        by_cases h0 : m = 0
        · subst h0
          rw [nearest_zero, nearest_zero, mul_p2 _ s 0 (-1074) a (read_zero s) h1 h2, nearest_zero]
        · have hi : -105 ≤ i := by
            rcases hz s m i hr with h | h
            · exact absurd h h0
            · exact h
          have hlog : m.log2 ≤ 52 := by
            have := (Nat.log2_lt h0).2 m53
            omega
          have hi2 : i ≤ 971 := by
            have hlt : z % 2 ^ 63 < 0x7ff0000000000000 := by
              have hu := read_uv z s m i hr
              rcases Nat.lt_or_ge (z % 2 ^ 63) 0x7ff0000000000000 with h | h
              · exact h
              · exfalso
                have hb : Ieee.double.binade = 2 ^ 52 := rfl
                have hii : Ieee.double.infRung = 0x7ff0000000000000 := by decide
                have hsw : Ieee.double.signWeight = 2 ^ 63 := rfl
                unfold Format.read at hr
                simp only [hb, hii, hsw] at hr
                rw [if_neg (by omega), if_neg (by omega)] at hr
                split at hr <;> cases hr
            obtain ⟨s', m', i', hr', hle⟩ := read_top z hlt
            rw [hr] at hr'
            cases hr'
            exact hle
          have := mul_near s m (i + A) a m53 (by omega) (by omega) h1 h2
          rw [this]
          congr 2
          omega

set_option maxHeartbeats 1000000 in
theorem scaled_any (z : Nat) (hz : gdS z) (K : Int) (hK1 : -1900 ≤ K) (hK2 : K ≤ 1900) (w : World) : Calls Tryz.prog 165 #[.float .f64 z, .int .i64 K] w (RF w (scC (cl z) K)) := by
  have hm := @run_fmul Tryz.prog
  obtain ⟨f, hf⟩ : ∃ f, K.tdiv 2 = f := ⟨_, rfl⟩
  have hfb : (0 ≤ K ∧ 0 ≤ f ∧ f ≤ K ∧ f ≤ 950 ∧ K - f ≤ 951) ∨ (K < 0 ∧ f ≤ 0 ∧ K ≤ f ∧ -950 ≤ f ∧ -951 ≤ K - f) := by
    by_cases h : K < 0
    · right
      rw [show K = -(-K) by omega, Int.neg_tdiv, Int.tdiv_eq_ediv_of_nonneg (by omega)] at hf
      omega
    · left
      rw [Int.tdiv_eq_ediv_of_nonneg (by omega)] at hf
      omega
  have k1 := power_any f (by omega) (by omega)
  have k2 := power_any (K - f) (by omega) (by omega)
  have S1 := (Sc.start z).step hz f (by decide) (by omega) (by omega) (by omega)
  rw [Int.zero_add] at S1
  have hE : Hid (∀ y, cl y = fb .mul (cl z) (cl (p2 f)) → fb .mul (cl y) (cl (p2 (K - f))) = scC (cl z) K) := fun y hy => by
    have := (show Sc z f y from .inr (hy.trans S1)).step hz (K - f) (by omega) (by omega) (by omega) (by omega)
    rw [this]
    congr 1
    omega
  clear S1
  have hfl : -950 ≤ f ∧ f ≤ 950 ∧ -951 ≤ K - f ∧ K - f ≤ 951 := by omega
  obtain ⟨f1, f2, f3, f4⟩ := hfl
  clear hfb
  generalize p2 f = P1 at *
  generalize p2 (K - f) = P2 at *
  generalize scC (cl z) K = R at *
  go_enter Tryz.func165, Tryz.ntmps165
  go_wp2_with fail
  go_fit (k1 _)
  rintro r _ ⟨rfl, rfl⟩
  go_wp2_with fail
  go_fit (k2 _)
  rintro r _ ⟨rfl, rfl⟩
  go_wp2
  go_ret
  refine ⟨_, _, rfl, rfl, fz_lt _ _ _ _, ?_⟩
  rw [cl_fz]
  exact hE.out _ (cl_fz _ _ _ _)

theorem p2_100 : p2 100 = 5057542381537067008 := by decide
theorem p2_900 : p2 (-900) = 553942754166571008 := by decide
theorem p2_toNat' (e : Int) (h1 : -1022 ≤ e) : ((1023 + e) * 4503599627370496).toNat = p2 e := by rw [Int.add_comm]; exact p2_toNat e h1

set_option maxHeartbeats 1000000 in
theorem scale_any (z : Nat) (hzl : z < 18446744073709551616) (hz : gdS z) (K : Int) (hK1 : -1900 ≤ K) (hK2 : K ≤ 1900) (w : World) : Calls Tryz.prog 177 #[.float .f64 z, .int .i64 K] w (RF w (scC (cl z) K)) := by
  have hm := @run_fmul Tryz.prog
  have kb := rbits_any
  have HS : Hid (∀ (A : Int) (zc : Nat) (a : Int), Sc z A zc → -960 ≤ A → (0 ≤ a ∨ A ≤ 0) → -1022 ≤ a → a ≤ 1023 → fb .mul (cl zc) (cl (p2 a)) = scC (cl z) (A + a)) := fun A zc a h h1 h2 h3 h4 => h.step hz a h1 h2 h3 h4
  have S0 : Hid (Sc z 0 z) := Sc.start z
  generalize hR : scC (cl z) K = R
  have HR : Hid (scC (cl z) K = R) := hR
  clear hR
  go_enter Tryz.func177, Tryz.ntmps177
  go_wp2
  go_loopw [0, 1] (fun sv kv w' => ∃ (zc : Nat) (k : Int) (n : Nat), sv = .float .f64 zc ∧ kv = .int .i64 k ∧ w' = w.drewN n ∧ zc < 18446744073709551616 ∧ Hid (Sc z (K - k) zc) ∧ k ≤ 1900 ∧ (k = K ∨ (900 < k ∧ k < K))) (fun _ kv _ => (RowKit.intOf kv).toNat)
  case atStart => exact ⟨z, K, 0, rfl, rfl, rfl, hzl, by rw [Int.sub_self]; exact S0, hK2, .inl rfl⟩
  case round =>
    obtain ⟨zc, k, n, rfl, rfl, rfl, hzc, hsc, hk1, hk2⟩ := hrel
    by_cases hbig : 1000 < k
    · have e1 := HS.out (K - k) zc 100 hsc.out (by omega) (by omega) (by decide) (by decide)
      rw [p2_100, show K - k + 100 = K - (k - 100) by omega] at e1
      have E1 : Hid _ := e1
      clear e1
      go_wp2_with fail
      go_fit (kb _ _)
      rintro r _ ⟨rfl, rfl⟩
      go_wp2
      refine ⟨⟨_, k - 100, _, rfl, by go_num, rfl, fz_lt _ _ _ _, ?_, by omega, by omega⟩, by simp [RowKit.intOf]; omega⟩
      exact .inr ((cl_fz _ _ _ _).trans E1.out)
    · by_cases hlow : -1000 ≤ k
      · have e1 := HS.out (K - k) zc k hsc.out (by omega) (by omega) (by omega) (by omega)
        rw [show K - k + k = K by omega, HR.out] at e1
        have E1 : Hid _ := e1
        have k1 := fun w => rbits_any ((1023 + k) * 4503599627370496) w
        rw [p2_toNat' k (by omega)] at k1
        generalize p2 k = P at *
        clear e1
        go_wp2_with fail
        go_fit (k1 _)
        rintro r _ ⟨rfl, rfl⟩
        go_wp2
        go_ret
        exact ⟨_, _, rfl, rfl, fz_lt _ _ _ _, (cl_fz _ _ _ _).trans E1.out⟩
      · have hkK : k = K := by omega
        subst hkK
        have hs0 : Sc z 0 zc := by
          have := hsc.out
          rw [Int.sub_self] at this
          exact this
        have e1 := HS.out 0 zc (-900) hs0 (by decide) (by omega) (by decide) (by decide)
        rw [p2_900, Int.zero_add] at e1
        have E1 : Hid (∀ y, cl y = fb .mul (cl zc) (cl 553942754166571008) → fb .mul (cl y) (cl (p2 (k + 900))) = R) := fun y hy => by
          have := HS.out (-900) y (k + 900) (.inr (hy.trans e1)) (by decide) (by omega) (by omega) (by omega)
          rw [this, show -900 + (k + 900) = k by omega, HR.out]
        have k1 := fun w => rbits_any ((1023 + k + 900) * 4503599627370496) w
        rw [show 1023 + k + 900 = 1023 + (k + 900) by omega, p2_toNat' (k + 900) (by omega), show 1023 + (k + 900) = 1023 + k + 900 by omega] at k1
        generalize p2 (k + 900) = P at *
        clear e1 hs0
        go_wp2_with fail
        go_fit (kb _ _)
        rintro r _ ⟨rfl, rfl⟩
        go_wp2_with fail
        go_fit (k1 _)
        rintro r _ ⟨rfl, rfl⟩
        go_wp2
        go_ret
        refine ⟨_, _, rfl, rfl, fz_lt _ _ _ _, ?_⟩
        rw [cl_fz]
        exact E1.out _ (cl_fz _ _ _ _)
end Go.Proofs.YtebjklppbkkinaaGreatDoor.F
/- Exp on both sides. -/
namespace Go.Proofs.YtebjklppbkkinaaGreatDoor.F
open Go.RowKit Ieee

theorem cvN (n : Int) (w : World) : (convert 3 23 (.int .i64 n)).run Tryz.prog w = .ok (.float .f64 (iw n)) w := run_convert_int_float w 3 23 .i64 .f64 n (by rw [Tryz.underlying3]; rfl) Tryz.underlying23
/-- The series: behind n of its fourteen steps. -/
def exS (r : Option Nat) : Nat → Option Nat
  | 0 => some 4607182418800017408
  | n + 1 => fb .add (some 4607182418800017408) (fb .quo (fb .mul r (exS r n)) (some (iw (14 - (n : Int)))))
theorem good_exS (r : Option Nat) (n s : Nat) (h : cl s = exS r (n + 1)) : gdS s := by
  cases hn : nanB s with
  | true =>
    intro t m i hr
    unfold nanB at hn
    rw [hr] at hn
    cases hn
  | false =>
    rw [cl_num hn, exS] at h
    generalize fb .quo (fb .mul r (exS r n)) (some (iw (14 - (n : Int)))) = Q at h
    cases Q with
    | none => cases h
    | some q => exact good_add q s h.symm
/-- Exp's k. -/
def exK (x : Nat) : Nat := flr ((fb .add (fb .mul (cl x) (some 4609176140021203710)) (some 4602678819172646912)).getD 0)
def expF (x : Nat) : Option Nat :=
  if nanB x = true then none
  else if FloatKind.f64.format.order x 4649454530587146735 = some .gt then some 9218868437227405312
  else if FloatKind.f64.format.order x 13873137513782915154 = some .lt then some 0
  else scC (exS (fb .sub (fb .sub (cl x) (fb .mul (cl (exK x)) (some 4604418534312771584))) (fb .mul (cl (exK x)) (some 4455313330490472685))) 14) ((floatToIntVal .f64 (exK x) .i64).getD 0)

theorem rdInv : Ieee.double.read 4609176140021203710 = .number false 6497320848556798 (-52) := by decide +kernel
theorem inv_bd : 6497320848556798 * 2 ^ ((-52 : Int) + 1074).toNat * 2 ≤ 3 * U := by
  obtain ⟨C, hC⟩ : ∃ C : Nat, C = 2 ^ 1022 := ⟨_, rfl⟩
  have hU : U = C * 2 ^ 52 := pow_parts 1074 1022 52 U C (by decide) U_eq hC
  rw [show ((-52 : Int) + 1074).toNat = 1022 by decide, ← hC, hU]
  omega
theorem exp_parts (x : Nat) (hn : nanB x = false) (h1 : FloatKind.f64.format.order x 4649454530587146735 ≠ some .gt) (h2 : FloatKind.f64.format.order x 13873137513782915154 ≠ some .lt) :
    ∃ y1 y2 K, floatBits .mul .f64 x 4609176140021203710 = some y1 ∧ floatBits .add .f64 y1 4602678819172646912 = some y2 ∧ floatToIntVal .f64 (flr y2) .i64 = some K ∧ -1900 ≤ K ∧ K ≤ 1900 ∧ nanB y1 = false ∧ nanB y2 = false ∧
      expF x = scC (exS (fb .sub (fb .sub (cl x) (fb .mul (cl (flr y2)) (some 4604418534312771584))) (fb .mul (cl (flr y2)) (some 4455313330490472685))) 14) K := by
  have hb := exp_bd x hn h1 h2
  obtain ⟨y1, e1, b1⟩ := mul_bd x 4609176140021203710 746 1119 _ _ hb rdInv inv_bd (by decide) (by decide) (by decide)
  obtain ⟨y2, e2, b2⟩ := add_bd y1 1119 b1 (by decide)
  obtain ⟨K, hK, hK1, hK2⟩ := floor_bd y2 1120 b2 (by decide)
  have n1 := fb_num e1
  have n2 := fb_num e2
  refine ⟨y1, y2, K, e1, e2, hK, by omega, by omega, n1, n2, ?_⟩
  have ek : exK x = flr y2 := by
    unfold exK
    rw [← cl_lit 4609176140021203710 (by decide), ← fb_cl, e1, ← cl_num n1, ← cl_lit 4602678819172646912 (by decide), ← fb_cl, e2]
    rfl
  unfold expF
  rw [if_neg (by rw [hn]; decide), if_neg h1, if_neg h2, ek, hK]
  rfl

set_option maxHeartbeats 2000000 in
set_option maxRecDepth 100000 in
theorem exp_any (x : Nat) (w : World) : Calls Tryz.prog 125 #[.float .f64 x] w (RF w (expF x)) := by
  have kI := isNaN_any x
  have kN := nan_any
  cases hn : nanB x
  · rw [hn] at kI
    by_cases h1 : FloatKind.f64.format.order x 4649454530587146735 = some .gt
    · have E : Hid (expF x = some 9218868437227405312) := by show _ = _; unfold expF; rw [if_neg (by rw [hn]; decide), if_pos h1]
      go_enter Tryz.func125, Tryz.ntmps125
      go_wp2_with fail
      go_fit (kI _)
      rintro r w ⟨rfl, rfl⟩
      go_wp2_with fail
      go_fit (fromBits_any 4649454530587146735 _)
      rintro r w ⟨rfl, rfl⟩
      go_wp2_with fail
      go_fit (inf1_any _)
      rintro r w ⟨rfl, rfl⟩
      go_wp2
      go_ret
      exact ⟨_, 0, rfl, rfl, by decide, by rw [E.out]; exact cl_lit _ (by decide)⟩
    · have h1' : (FloatKind.f64.format.order x 4649454530587146735 == some .gt) = false := beq_eq_false_iff_ne.2 h1
      by_cases h2 : FloatKind.f64.format.order x 13873137513782915154 = some .lt
      · have E : Hid (expF x = some 0) := by show _ = _; unfold expF; rw [if_neg (by rw [hn]; decide), if_neg h1, if_pos h2]
        clear h1
        go_enter Tryz.func125, Tryz.ntmps125
        go_wp2_with fail
        go_fit (kI _)
        rintro r w ⟨rfl, rfl⟩
        go_wp2_with fail
        go_fit (fromBits_any 4649454530587146735 _)
        rintro r w ⟨rfl, rfl⟩
        go_wp2_with fail
        go_fit (fromBits_any 13873137513782915154 _)
        rintro r w ⟨rfl, rfl⟩
        go_wp2
        go_ret
        exact ⟨_, 0, rfl, rfl, by decide, by rw [E.out]; exact cl_lit _ (by decide)⟩
      · have h2' : (FloatKind.f64.format.order x 13873137513782915154 == some .lt) = false := beq_eq_false_iff_ne.2 h2
        obtain ⟨y1, y2, K, e1, e2, hK, hKb1, hKb2, hy1, hy2, hE⟩ := exp_parts x hn h1 h2
        have r1 : ∀ t w, (binOp .mul t (.float .f64 x) (.float .f64 4609176140021203710)).run Tryz.prog w = .ok (.float .f64 y1) w := fun t w => run_float_arith w .mul t .f64 _ _ _ e1
        have r2 : ∀ t w, (binOp .add t (.float .f64 y1) (.float .f64 4602678819172646912)).run Tryz.prog w = .ok (.float .f64 y2) w := fun t w => run_float_arith w .add t .f64 _ _ _ e2
        have r3 : ∀ w, (convert 23 3 (.float .f64 (flr y2))).run Tryz.prog w = .ok (.int .i64 K) w := fun w => run_convert_float_int w 23 3 .f64 .i64 _ K (by rw [Tryz.underlying23]; rfl) Tryz.underlying3 hK
        have kF := floor_num y2 hy2
        have HE : Hid _ := hE
        clear hE e1 e2 hK h1 h2
        generalize flr y2 = kw at *
        go_enter Tryz.func125, Tryz.ntmps125
        go_wp2_with fail
        go_fit (kI _)
        rintro r w ⟨rfl, rfl⟩
        go_wp2_with fail
        go_fit (fromBits_any 4649454530587146735 _)
        rintro r w ⟨rfl, rfl⟩
        go_wp2_with fail
        go_fit (fromBits_any 13873137513782915154 _)
        rintro r w ⟨rfl, rfl⟩
        go_wp2_with fail
        go_fit (fromBits_any 4609176140021203710 _)
        rintro r w ⟨rfl, rfl⟩
        go_wp2_with fail
        go_fit (kF _)
        rintro r w ⟨rfl, rfl⟩
        clear r1 r2
        have ha := @run_fadd Tryz.prog
        have hs := @run_fsub Tryz.prog
        have hm := @run_fmul Tryz.prog
        have hq := @run_fquo Tryz.prog
        have hcn := cvN
        go_wp2_with fail
        go_fit (fromBits_any 4604418534312771584 _)
        rintro r w ⟨rfl, rfl⟩
        go_wp2_with fail
        go_fit (fromBits_any 4455313330490472685 _)
        rintro r w ⟨rfl, rfl⟩
        have HR : Hid (∀ w w1 w2 w3, cl (fz .sub (fz .sub x (fz .mul kw 4604418534312771584 w) w1) (fz .mul kw 4455313330490472685 w2) w3) = fb .sub (fb .sub (cl x) (fb .mul (cl kw) (some 4604418534312771584))) (fb .mul (cl kw) (some 4455313330490472685))) := fun w w1 w2 w3 => by
          simp only [cl_fz]
          rw [cl_lit 4604418534312771584 (by decide), cl_lit 4455313330490472685 (by decide)]
        go_wp2
        obtain ⟨R, hR⟩ : ∃ R, R = fb .sub (fb .sub (cl x) (fb .mul (cl kw) (some 4604418534312771584))) (fb .mul (cl kw) (some 4455313330490472685)) := ⟨_, rfl⟩
        rw [← hR] at HE
        have HRe : Hid _ := hR
        clear hR HR
        have X0 : Hid (exS R 0 = some 4607182418800017408) := (rfl : exS R 0 = _)
        have XS : Hid (∀ n, exS R (n + 1) = fb .add (some 4607182418800017408) (fb .quo (fb .mul R (exS R n)) (some (iw (14 - (n : Int)))))) := fun n => rfl
        have XG : Hid (∀ n s, cl s = exS R (n + 1) → gdS s) := good_exS R
        generalize exS R = X at *
        go_loopw [5, 6] (fun sv iv w' => ∃ (j s k : Nat), iv = .int .i64 (14 - (j : Int)) ∧ j ≤ 14 ∧ sv = .float .f64 s ∧ s < 18446744073709551616 ∧ Hid (cl s = X j) ∧ w' = w.drewN k) (fun _ iv _ => (RowKit.intOf iv).toNat)
        case atStart => exact ⟨0, _, _, rfl, by omega, rfl, by decide, by show _ = _; rw [X0.out]; exact cl_lit _ (by decide), rfl⟩
        case round =>
          obtain ⟨j, s, k, rfl, hj, rfl, hsl, hst, rfl⟩ := hrel
          by_cases hlt : j < 14
          · have hii : (1 : Int) ≤ 14 - (j : Int) := by omega
            go_wp2
            refine ⟨⟨j + 1, _, _, by go_num, by omega, rfl, fz_lt _ _ _ _, ?_, rfl⟩, by simp [RowKit.intOf]; omega⟩
            show _ = _
            rw [XS.out]
            simp only [cl_fz]
            rw [cl_lit 4607182418800017408 (by decide), cl_lit 4604418534312771584 (by decide), cl_lit 4455313330490472685 (by decide), hst.out, iw_num, HRe.out]
          · have hii : ¬ (1 : Int) ≤ 14 - (j : Int) := by omega
            obtain rfl : j = 14 := by omega
            have hg := XG.out 13 s hst.out
            have kS := scaled_any s hg K hKb1 hKb2
            have hE2 : Hid (scC (cl s) K = expF x) := by show _ = _; rw [hst.out, HE.out]
            go_wp2_with fail
            go_fit (kS _)
            rintro r w2 ⟨z, kk, rfl, rfl, hzl, hzc⟩
            have HZ : Hid (cl z = expF x) := hzc.trans hE2.out
            clear hzc
            go_wp2
            go_ret
            exact ⟨_, _, rfl, rfl, hzl, HZ.out⟩
  · rw [hn] at kI
    have E : Hid (expF x = none) := by show _ = _; unfold expF; rw [if_pos hn]
    go_enter Tryz.func125, Tryz.ntmps125
    go_wp2_with fail
    go_fit (kI _)
    rintro r w ⟨rfl, rfl⟩
    go_wp2_with fail
    go_fit (kN _)
    rintro r w ⟨rfl, rfl⟩
    go_wp2
    go_ret
    exact ⟨_, 0, rfl, rfl, by decide, by rw [E.out]; exact cl_theNaN⟩
set_option maxHeartbeats 2000000 in
set_option maxRecDepth 100000 in
theorem rexp_any (x : Nat) (w : World) : Calls Tryz.prog 140 #[.float .f64 x] w (RF w (expF x)) := by
  have kI := bad_any x
  have kN := rnan_any
  cases hn : nanB x
  · rw [hn] at kI
    by_cases h1 : FloatKind.f64.format.order x 4649454530587146735 = some .gt
    · have E : Hid (expF x = some 9218868437227405312) := by show _ = _; unfold expF; rw [if_neg (by rw [hn]; decide), if_pos h1]
      go_enter Tryz.func140, Tryz.ntmps140
      go_wp2_with fail
      go_fit (kI _)
      rintro r w ⟨rfl, rfl⟩
      go_wp2_with fail
      go_fit (rbits_any 4649454530587146735 _)
      rintro r w ⟨rfl, rfl⟩
      go_wp2_with fail
      go_fit (rinf1_any _)
      rintro r w ⟨rfl, rfl⟩
      go_wp2
      go_ret
      exact ⟨_, 0, rfl, rfl, by decide, by rw [E.out]; exact cl_lit _ (by decide)⟩
    · have h1' : (FloatKind.f64.format.order x 4649454530587146735 == some .gt) = false := beq_eq_false_iff_ne.2 h1
      by_cases h2 : FloatKind.f64.format.order x 13873137513782915154 = some .lt
      · have E : Hid (expF x = some 0) := by show _ = _; unfold expF; rw [if_neg (by rw [hn]; decide), if_neg h1, if_pos h2]
        clear h1
        go_enter Tryz.func140, Tryz.ntmps140
        go_wp2_with fail
        go_fit (kI _)
        rintro r w ⟨rfl, rfl⟩
        go_wp2_with fail
        go_fit (rbits_any 4649454530587146735 _)
        rintro r w ⟨rfl, rfl⟩
        go_wp2_with fail
        go_fit (rbits_any 13873137513782915154 _)
        rintro r w ⟨rfl, rfl⟩
        go_wp2
        go_ret
        exact ⟨_, 0, rfl, rfl, by decide, by rw [E.out]; exact cl_lit _ (by decide)⟩
      · have h2' : (FloatKind.f64.format.order x 13873137513782915154 == some .lt) = false := beq_eq_false_iff_ne.2 h2
        obtain ⟨y1, y2, K, e1, e2, hK, hKb1, hKb2, hy1, hy2, hE⟩ := exp_parts x hn h1 h2
        have r1 : ∀ t w, (binOp .mul t (.float .f64 x) (.float .f64 4609176140021203710)).run Tryz.prog w = .ok (.float .f64 y1) w := fun t w => run_float_arith w .mul t .f64 _ _ _ e1
        have r2 : ∀ t w, (binOp .add t (.float .f64 y1) (.float .f64 4602678819172646912)).run Tryz.prog w = .ok (.float .f64 y2) w := fun t w => run_float_arith w .add t .f64 _ _ _ e2
        have r3 : ∀ w, (convert 23 3 (.float .f64 (flr y2))).run Tryz.prog w = .ok (.int .i64 K) w := fun w => run_convert_float_int w 23 3 .f64 .i64 _ K (by rw [Tryz.underlying23]; rfl) Tryz.underlying3 hK
        have kF := floor_num y2 hy2
        have HE : Hid _ := hE
        clear hE e1 e2 hK h1 h2
        generalize flr y2 = kw at *
        go_enter Tryz.func140, Tryz.ntmps140
        go_wp2_with fail
        go_fit (kI _)
        rintro r w ⟨rfl, rfl⟩
        go_wp2_with fail
        go_fit (rbits_any 4649454530587146735 _)
        rintro r w ⟨rfl, rfl⟩
        go_wp2_with fail
        go_fit (rbits_any 13873137513782915154 _)
        rintro r w ⟨rfl, rfl⟩
        go_wp2_with fail
        go_fit (rc80_any _)
        rintro r w ⟨rfl, rfl⟩
        go_wp2_with fail
        go_fit (kF _)
        rintro r w ⟨rfl, rfl⟩
        clear r1 r2
        have ha := @run_fadd Tryz.prog
        have hs := @run_fsub Tryz.prog
        have hm := @run_fmul Tryz.prog
        have hq := @run_fquo Tryz.prog
        have hcn := cvN
        go_wp2_with fail
        go_fit (rc81_any _)
        rintro r w ⟨rfl, rfl⟩
        go_wp2_with fail
        go_fit (rc82_any _)
        rintro r w ⟨rfl, rfl⟩
        have HR : Hid (∀ w w1 w2 w3, cl (fz .sub (fz .sub x (fz .mul kw 4604418534312771584 w) w1) (fz .mul kw 4455313330490472685 w2) w3) = fb .sub (fb .sub (cl x) (fb .mul (cl kw) (some 4604418534312771584))) (fb .mul (cl kw) (some 4455313330490472685))) := fun w w1 w2 w3 => by
          simp only [cl_fz]
          rw [cl_lit 4604418534312771584 (by decide), cl_lit 4455313330490472685 (by decide)]
        go_wp2
        obtain ⟨R, hR⟩ : ∃ R, R = fb .sub (fb .sub (cl x) (fb .mul (cl kw) (some 4604418534312771584))) (fb .mul (cl kw) (some 4455313330490472685)) := ⟨_, rfl⟩
        rw [← hR] at HE
        have HRe : Hid _ := hR
        clear hR HR
        have X0 : Hid (exS R 0 = some 4607182418800017408) := (rfl : exS R 0 = _)
        have XS : Hid (∀ n, exS R (n + 1) = fb .add (some 4607182418800017408) (fb .quo (fb .mul R (exS R n)) (some (iw (14 - (n : Int)))))) := fun n => rfl
        have XG : Hid (∀ n s, cl s = exS R (n + 1) → gdS s) := good_exS R
        generalize exS R = X at *
        go_loopw [5, 6] (fun sv iv w' => ∃ (j s k : Nat), iv = .int .i64 (14 - (j : Int)) ∧ j ≤ 14 ∧ sv = .float .f64 s ∧ s < 18446744073709551616 ∧ Hid (cl s = X j) ∧ w' = w.drewN k) (fun _ iv _ => (RowKit.intOf iv).toNat)
        case atStart => exact ⟨0, _, _, rfl, by omega, rfl, by decide, by show _ = _; rw [X0.out]; exact cl_lit _ (by decide), rfl⟩
        case round =>
          obtain ⟨j, s, k, rfl, hj, rfl, hsl, hst, rfl⟩ := hrel
          by_cases hlt : j < 14
          · have hii : (1 : Int) ≤ 14 - (j : Int) := by omega
            go_wp2
            refine ⟨⟨j + 1, _, _, by go_num, by omega, rfl, fz_lt _ _ _ _, ?_, rfl⟩, by simp [RowKit.intOf]; omega⟩
            show _ = _
            rw [XS.out]
            simp only [cl_fz]
            rw [cl_lit 4607182418800017408 (by decide), cl_lit 4604418534312771584 (by decide), cl_lit 4455313330490472685 (by decide), hst.out, iw_num, HRe.out]
          · have hii : ¬ (1 : Int) ≤ 14 - (j : Int) := by omega
            obtain rfl : j = 14 := by omega
            have hg := XG.out 13 s hst.out
            have kS := scale_any s hsl hg K hKb1 hKb2
            have hE2 : Hid (scC (cl s) K = expF x) := by show _ = _; rw [hst.out, HE.out]
            go_wp2_with fail
            go_fit (kS _)
            rintro r w2 ⟨z, kk, rfl, rfl, hzl, hzc⟩
            have HZ : Hid (cl z = expF x) := hzc.trans hE2.out
            clear hzc
            go_wp2
            go_ret
            exact ⟨_, _, rfl, rfl, hzl, HZ.out⟩
  · rw [hn] at kI
    have E : Hid (expF x = none) := by show _ = _; unfold expF; rw [if_pos hn]
    go_enter Tryz.func140, Tryz.ntmps140
    go_wp2_with fail
    go_fit (kI _)
    rintro r w ⟨rfl, rfl⟩
    go_wp2_with fail
    go_fit (kN _)
    rintro r w ⟨rfl, rfl⟩
    go_wp2
    go_ret
    exact ⟨_, 0, rfl, rfl, by decide, by rw [E.out]; exact cl_theNaN⟩
end Go.Proofs.YtebjklppbkkinaaGreatDoor.F
