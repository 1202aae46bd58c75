/- The logarithms, on both sides. -/
import Derived.Test.YtebjklppbkkinaaPw
namespace Go.Proofs.Ytebjklppbkkinaa
open Go.RowKit Ieee

/-- What has no parts, and its logarithm. -/
def End (x : Nat) (c : Option Nat) : Prop := (nanB x = true ∧ c = none) ∨ (nanB x = false ∧ FloatKind.f64.format.order x 0 = some .lt ∧ c = none) ∨ (nanB x = false ∧ FloatKind.f64.format.order x 0 = some .eq ∧ c = some 18442240474082181120) ∨ (x = 9218868437227405312 ∧ c = some 9218868437227405312)
theorem rd0 : Ieee.double.read 0 = .number false 0 (-1074) := by decide
theorem ends_or (x : Nat) (hx : x < 18446744073709551616) : (∃ c, End x c) ∨ (x ≠ 0 ∧ x < 0x7ff0000000000000) := by
  cases hn : nanB x with
  | true => exact .inl ⟨none, .inl ⟨hn, rfl⟩⟩
  | false =>
    by_cases h1 : x < 2 ^ 63
    · by_cases h0 : x = 0
      · subst h0
        exact .inl ⟨_, .inr (.inr (.inl ⟨hn, by decide, rfl⟩))⟩
      · by_cases h2 : x < 0x7ff0000000000000
        · exact .inr ⟨h0, h2⟩
        · by_cases h3 : x = 9218868437227405312
          · exact .inl ⟨_, .inr (.inr (.inr ⟨h3, rfl⟩))⟩
          · exfalso
            have hi : Ieee.double.infRung = 0x7ff0000000000000 := by decide
            have hb : Ieee.double.binade = 2 ^ 52 := rfl
            have hsw : Ieee.double.signWeight = 2 ^ 63 := rfl
            unfold nanB Format.read at hn
            simp only [hi, hsw, hb] at hn
            rw [Nat.mod_eq_of_lt h1, if_neg (by omega), if_neg (by omega), if_neg (by omega)] at hn
            cases hn
    · left
      by_cases h0 : x = 9223372036854775808
      · subst h0
        exact ⟨_, .inr (.inr (.inl ⟨hn, by decide, rfl⟩))⟩
      · refine ⟨none, .inr (.inl ⟨hn, ?_, rfl⟩)⟩
        have e : FloatKind.f64.format.order x 0 = (Ieee.double.read x).order (Ieee.double.read 0) := rfl
        have hneg : (x / 2 ^ 63 % 2 == 1) = true := by
          have : x / 2 ^ 63 = 1 := by omega
          rw [this]; rfl
        cases hr : Ieee.double.read x with
        | nan s f => unfold nanB at hn; rw [hr] at hn; cases hn
        | infinity s =>
          have hs : s = true := by
            have hsw : Ieee.double.signWeight = 2 ^ 63 := rfl
            have hr' := hr
            unfold Format.read at hr'
            simp only [hsw, hneg] at hr'
            split at hr'
            · cases hr'
            · split at hr'
              · cases hr'
              · split at hr' <;> cases hr'
                rfl
          rw [e, hr, rd0, hs]; rfl
        | number s m i =>
          have hs : s = true := by
            have hsw : Ieee.double.signWeight = 2 ^ 63 := rfl
            have hr' := hr
            unfold Format.read at hr'
            simp only [hsw, hneg] at hr'
            split at hr'
            · cases hr'; rfl
            · split at hr'
              · cases hr'; rfl
              · split at hr' <;> cases hr'
          subst hs
          refine (ord_bd x 0 true m i false 0 (-1074) hr rd0).2.2 ?_
          have hu := read_uv x _ m i hr
          have hpos : uv 0 < uv (x % 2 ^ 63) := uv_strict _ _ (by omega)
          have h00 : uv 0 = 0 := rfl
          have z0 : un false 0 (-1074) = 0 := by unfold un; rw [signed_eq, Nat.zero_mul]; rfl
          rw [z0]
          unfold un
          rw [signed_eq, if_pos rfl, hu]
          omega
theorem pos_gt (x : Nat) (h0 : x ≠ 0) (hx : x < 0x7ff0000000000000) : FloatKind.f64.format.order x 0 = some .gt := by
  rw [pos_order x 0 hx (by decide), Nat.compare_eq_gt.2 (by omega)]
theorem ord_nan0 (x : Nat) (h : nanB x = true) : FloatKind.f64.format.order x 0 = none := by
  rw [fo_cl, cl_nan h]; rfl
theorem infB_pos (x : Nat) (hx : x < 0x7ff0000000000000) : infB (cl x) = false := by
  unfold infB
  have hn := pos_num x hx
  rw [cl_num hn]
  have e : fo (ab (some x)) (some 9218868437227405311) = FloatKind.f64.format.order x 9218868437227405311 := by
    rw [fo_cl, cl_num hn, cl_lit 9218868437227405311 (by decide)]
    have e2 := cl_ab x
    rw [cl_num hn, Nat.mod_eq_of_lt (show x < 9223372036854775808 by omega), cl_num hn] at e2
    rw [← e2]
  rw [e, pos_order x _ hx (by decide)]
  refine beq_eq_false_iff_ne.2 fun h => ?_
  have := Nat.compare_eq_gt.1 (Option.some.inj h)
  omega

set_option maxHeartbeats 400000 in
theorem hasParts_yes (x : Nat) (h0 : x ≠ 0) (hx : x < 0x7ff0000000000000) (w : World) : Calls Try.prog 62 #[.float .f64 x] w fun r w' => r = .returned (.bool true) ∧ w' = w := by
  have k1 := isInf_any x (by omega)
  rw [infB_pos x hx] at k1
  have ho := pos_gt x h0 hx
  go_enter Try.func62, Try.ntmps62
  go_wp2_with fail
  go_fit (k1 _)
  rintro r w ⟨rfl, rfl⟩
  go_wp2
  go_ret
  exact ⟨rfl, rfl⟩
set_option maxHeartbeats 400000 in
theorem hasParts_no (x : Nat) (c : Option Nat) (h : End x c) (w : World) : Calls Try.prog 62 #[.float .f64 x] w fun r w' => r = .returned (.bool false) ∧ w' = w := by
  rcases h with ⟨hn, -⟩ | ⟨-, ho, -⟩ | ⟨-, ho, -⟩ | ⟨rfl, -⟩
  · have ho := ord_nan0 x hn
    go_enter Try.func62, Try.ntmps62
    go_wp2
    go_ret
    exact ⟨rfl, rfl⟩
  · go_enter Try.func62, Try.ntmps62
    go_wp2
    go_ret
    exact ⟨rfl, rfl⟩
  · go_enter Try.func62, Try.ntmps62
    go_wp2
    go_ret
    exact ⟨rfl, rfl⟩
  · have k1 := isInf_any 9218868437227405312 (by decide)
    rw [show infB (cl 9218868437227405312) = true by decide] at k1
    have ho : FloatKind.f64.format.order 9218868437227405312 0 = some .gt := by decide
    go_enter Try.func62, Try.ntmps62
    go_wp2_with fail
    go_fit (k1 _)
    rintro r w ⟨rfl, rfl⟩
    go_wp2
    go_ret
    exact ⟨rfl, rfl⟩
set_option maxHeartbeats 400000 in
theorem logOfEnd_any (x : Nat) (c : Option Nat) (h : End x c) (w : World) : Calls Try.prog 63 #[.float .f64 x] w (RF w c) := by
  have kN := nan_any
  have kI := infm_any
  rcases h with ⟨hn, rfl⟩ | ⟨-, ho, rfl⟩ | ⟨-, ho, rfl⟩ | ⟨rfl, rfl⟩
  · have ho := ord_nan0 x hn
    go_enter Try.func63, Try.ntmps63
    go_wp2_with fail
    go_fit (kN _)
    rintro r w ⟨rfl, rfl⟩
    go_wp2
    go_ret
    exact ⟨_, 0, rfl, rfl, by decide, cl_theNaN⟩
  · go_enter Try.func63, Try.ntmps63
    go_wp2_with fail
    go_fit (kN _)
    rintro r w ⟨rfl, rfl⟩
    go_wp2
    go_ret
    exact ⟨_, 0, rfl, rfl, by decide, cl_theNaN⟩
  · go_enter Try.func63, Try.ntmps63
    go_wp2_with fail
    go_fit (kI _)
    rintro r w ⟨rfl, rfl⟩
    go_wp2
    go_ret
    exact ⟨_, 0, rfl, rfl, by decide, cl_lit _ (by decide)⟩
  · have ho : FloatKind.f64.format.order 9218868437227405312 0 = some .gt := by decide
    go_enter Try.func63, Try.ntmps63
    go_wp2
    go_ret
    exact ⟨_, 0, rfl, rfl, by decide, cl_lit _ (by decide)⟩
set_option maxHeartbeats 400000 in
theorem special_no (x : Nat) (c : Option Nat) (h : End x c) (w : World) : Calls Try.prog 54 #[.float .f64 x] w fun r w' => ∃ z, r = .returned (.tuple #[.float .f64 z, .bool true]) ∧ w' = w ∧ z < 18446744073709551616 ∧ cl z = c := by
  have kN := rnan_any
  have kI := rinfm_any
  have kP := rinf1_any
  have kB := bad_any x
  rcases h with ⟨hn, rfl⟩ | ⟨hn, ho, rfl⟩ | ⟨hn, ho, rfl⟩ | ⟨rfl, rfl⟩
  · rw [hn] at kB
    go_enter Try.func54, Try.ntmps54
    go_wp2_with fail
    go_fit (kB _)
    rintro r w ⟨rfl, rfl⟩
    go_wp2_with fail
    go_fit (kN _)
    rintro r w ⟨rfl, rfl⟩
    go_wp2
    go_ret2
    exact ⟨_, rfl, rfl, by decide, cl_theNaN⟩
  · rw [hn] at kB
    go_enter Try.func54, Try.ntmps54
    go_wp2_with fail
    go_fit (kB _)
    rintro r w ⟨rfl, rfl⟩
    go_wp2_with fail
    go_fit (kN _)
    rintro r w ⟨rfl, rfl⟩
    go_wp2
    go_ret2
    exact ⟨_, rfl, rfl, by decide, cl_theNaN⟩
  · rw [hn] at kB
    go_enter Try.func54, Try.ntmps54
    go_wp2_with fail
    go_fit (kB _)
    rintro r w ⟨rfl, rfl⟩
    go_wp2_with fail
    go_fit (kI _)
    rintro r w ⟨rfl, rfl⟩
    go_wp2
    go_ret2
    exact ⟨_, rfl, rfl, by decide, cl_lit _ (by decide)⟩
  · rw [show nanB 9218868437227405312 = false by decide] at kB
    have k1 := endless_any 9218868437227405312 (by decide)
    rw [show infB (cl 9218868437227405312) = true by decide] at k1
    have ho : FloatKind.f64.format.order 9218868437227405312 0 = some .gt := by decide
    go_enter Try.func54, Try.ntmps54
    go_wp2_with fail
    go_fit (kB _)
    rintro r w ⟨rfl, rfl⟩
    go_wp2_with fail
    go_fit (k1 _)
    rintro r w ⟨rfl, rfl⟩
    go_wp2_with fail
    go_fit (kP _)
    rintro r w ⟨rfl, rfl⟩
    go_wp2
    go_ret2
    exact ⟨_, rfl, rfl, by decide, cl_lit _ (by decide)⟩
set_option maxHeartbeats 400000 in
theorem special_yes (x : Nat) (h0 : x ≠ 0) (hx : x < 0x7ff0000000000000) (w : World) : Calls Try.prog 54 #[.float .f64 x] w fun r w' => r = .returned (.tuple #[.float .f64 0, .bool false]) ∧ w' = w := by
  have kB := bad_any x
  rw [pos_num x hx] at kB
  have k1 := endless_any x (by omega)
  rw [infB_pos x hx] at k1
  have ho := pos_gt x h0 hx
  go_enter Try.func54, Try.ntmps54
  go_wp2_with fail
  go_fit (kB _)
  rintro r w ⟨rfl, rfl⟩
  go_wp2_with fail
  go_fit (k1 _)
  rintro r w ⟨rfl, rfl⟩
  go_wp2
  go_ret2
  exact ⟨rfl, rfl⟩
end Go.Proofs.Ytebjklppbkkinaa
