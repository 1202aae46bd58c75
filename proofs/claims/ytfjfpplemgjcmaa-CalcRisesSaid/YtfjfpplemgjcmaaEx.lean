/- The small functions of Exp; scaled and scale. -/
import Derived.Test.YtfjfpplemgjcmaaPr
import Derived.Test.YtfjfpplemgjcmaaSa
import Derived.Laws.ShiftsVar
namespace Go.Proofs.Ytfjfpplemgjcmaa
open Go.RowKit Ieee

set_option maxHeartbeats 400000 in
theorem isNaN_any (x : Nat) (w : World) : Calls Try.prog 53 #[.float .f64 x] w fun r w' => r = .returned (.bool (nanB x)) ∧ w' = w := by
  have e := fo_self x
  cases h : nanB x
  · rw [h, if_neg (by decide)] at e
    go_enter Try.func53, Try.ntmps53
    go_wp2
    go_ret
    exact ⟨rfl, rfl⟩
  · rw [h, if_pos rfl] at e
    go_enter Try.func53, Try.ntmps53
    go_wp2
    go_ret
    exact ⟨rfl, rfl⟩
set_option maxHeartbeats 400000 in
theorem bad_any (x : Nat) (w : World) : Calls Try.prog 48 #[.float .f64 x] w fun r w' => r = .returned (.bool (nanB x)) ∧ w' = w := by
  have e := fo_self x
  cases h : nanB x
  · rw [h, if_neg (by decide)] at e
    go_enter Try.func48, Try.ntmps48
    go_wp2
    go_ret
    exact ⟨rfl, rfl⟩
  · rw [h, if_pos rfl] at e
    go_enter Try.func48, Try.ntmps48
    go_wp2
    go_ret
    exact ⟨rfl, rfl⟩
set_option maxHeartbeats 400000 in
theorem inf1_any (w : World) : Calls Try.prog 15 #[.int .i64 1] w fun r w' => r = .returned (.float .f64 9218868437227405312) ∧ w' = w := by
  have h3 := callFrom
  go_enter Try.func15, Try.ntmps15
  go_wp2
  go_ret
  exact ⟨rfl, rfl⟩
set_option maxHeartbeats 400000 in
theorem infm_any (w : World) : Calls Try.prog 15 #[.int .i64 (-1)] w fun r w' => r = .returned (.float .f64 18442240474082181120) ∧ w' = w := by
  have h3 := callFrom
  go_enter Try.func15, Try.ntmps15
  go_wp2
  go_ret
  exact ⟨rfl, rfl⟩
set_option maxHeartbeats 400000 in
theorem rinf1_any (w : World) : Calls Try.prog 49 #[.int .i64 1] w fun r w' => r = .returned (.float .f64 9218868437227405312) ∧ w' = w := by
  have k1 := inf1_any
  go_enter Try.func49, Try.ntmps49
  go_wp2_with fail
  go_fit (k1 _)
  rintro r w ⟨rfl, rfl⟩
  go_wp2
  go_ret
  exact ⟨rfl, rfl⟩
set_option maxHeartbeats 400000 in
theorem rinfm_any (w : World) : Calls Try.prog 49 #[.int .i64 (-1)] w fun r w' => r = .returned (.float .f64 18442240474082181120) ∧ w' = w := by
  have k1 := infm_any
  go_enter Try.func49, Try.ntmps49
  go_wp2_with fail
  go_fit (k1 _)
  rintro r w ⟨rfl, rfl⟩
  go_wp2
  go_ret
  exact ⟨rfl, rfl⟩
theorem ti_num (y : Nat) (n : String) (h : nanB y = false) : Extern.MathFloor.toIntegral n .down #[.float .f64 y] = pure (.float .f64 (flr y)) := by
  conv => lhs; whnf
  have e : FloatKind.f64.decode y = Ieee.double.read y := rfl
  rw [e]
  unfold flr
  unfold nanB at h
  cases hr : Ieee.double.read y with
  | nan s f => rw [hr] at h; simp [Datum.isNaN] at h
  | infinity s => rfl
  | number s m i => rfl
theorem p2_toNat (e : Int) (h1 : -1022 ≤ e) : ((e + 1023) * 4503599627370496).toNat = p2 e := by
  unfold p2
  rw [show (2 : Nat) ^ 52 = 4503599627370496 from rfl]
  omega
theorem p2_num (e : Int) (h1 : -1022 ≤ e) (h2 : e ≤ 1023) : cl (p2 e) = some (p2 e) := by
  apply cl_num
  unfold nanB
  rw [read_p2 e h1 h2]; rfl

/-- zc is z times 2 ^ A, rounded once. -/
def Sc (z : Nat) (A : Int) (zc : Nat) : Prop := (A = 0 ∧ zc = z) ∨ cl zc = scC (cl z) A
theorem Sc.start (z : Nat) : Sc z 0 z := .inl ⟨rfl, rfl⟩
theorem Sc.step {z : Nat} {A : Int} {zc : Nat} (h : Sc z A zc) (hz : gdS z) (a : Int) (hA : -960 ≤ A) (ha : 0 ≤ a ∨ A ≤ 0) (h1 : -1022 ≤ a) (h2 : a ≤ 1023) : fb .mul (cl zc) (cl (p2 a)) = scC (cl z) (A + a) := by
  rw [p2_num a h1 h2]
  cases hn : nanB z with
  | true =>
    rw [cl_nan hn]
    rcases h with ⟨_, rfl⟩ | h
    · rw [cl_nan hn]; rfl
    · rw [h, cl_nan hn]; rfl
  | false =>
    have hcz := cl_num hn
    cases hr : Ieee.double.read z with
    | nan s f => unfold nanB at hn; rw [hr] at hn; simp [Datum.isNaN] at hn
    | infinity s =>
      have e : ∀ B, scC (cl z) B = some (Ieee.double.word s Ieee.double.infRung) := fun B => by rw [hcz]; unfold scC; simp only [Option.bind_some, hr]
      rw [e]
      rcases h with ⟨_, rfl⟩ | h
      · rw [hcz]
        exact mul_inf _ s a hr h1 h2
      · rw [e] at h
        rw [h]
        exact mul_inf _ s a (read_inf s) h1 h2
    | number s m i =>
      have e : ∀ B, scC (cl z) B = some (Ieee.double.nearest s m (i + B)) := fun B => by rw [hcz]; unfold scC; simp only [Option.bind_some, hr]
      obtain ⟨_, m53⟩ := read_place z s m i hr
      rw [e]
      rcases h with ⟨rfl, rfl⟩ | h
      · rw [hcz, Int.zero_add]
        exact mul_p2 _ s m i a hr h1 h2
      · rw [e] at h
        rw [h]
        show floatBits .mul .f64 (Ieee.double.nearest s m (i + A)) (p2 a) = _
        by_cases h0 : m = 0
        · subst h0
          rw [nearest_zero, nearest_zero, mul_p2 _ s 0 (-1074) a (read_zero s) h1 h2, nearest_zero]
        · have hi : -105 ≤ i := by
            rcases hz s m i hr with h | h
            · exact absurd h h0
            · exact h
          have hlog : m.log2 ≤ 52 := by
            have := (Nat.log2_lt h0).2 m53
            omega
          have hi2 : i ≤ 971 := by
            have hlt : z % 2 ^ 63 < 0x7ff0000000000000 := by
              have hu := read_uv z s m i hr
              rcases Nat.lt_or_ge (z % 2 ^ 63) 0x7ff0000000000000 with h | h
              · exact h
              · exfalso
                have hb : Ieee.double.binade = 2 ^ 52 := rfl
                have hii : Ieee.double.infRung = 0x7ff0000000000000 := by decide
                have hsw : Ieee.double.signWeight = 2 ^ 63 := rfl
                unfold Format.read at hr
                simp only [hb, hii, hsw] at hr
                rw [if_neg (by omega), if_neg (by omega)] at hr
                split at hr <;> cases hr
            obtain ⟨s', m', i', hr', hle⟩ := read_top z hlt
            rw [hr] at hr'
            cases hr'
            exact hle
          have := mul_near s m (i + A) a m53 (by omega) (by omega) h1 h2
          rw [this]
          congr 2
          omega

theorem p2_100 : p2 100 = 5057542381537067008 := by decide
theorem p2_900 : p2 (-900) = 553942754166571008 := by decide
theorem p2_toNat' (e : Int) (h1 : -1022 ≤ e) : ((1023 + e) * 4503599627370496).toNat = p2 e := by rw [Int.add_comm]; exact p2_toNat e h1

end Go.Proofs.Ytfjfpplemgjcmaa
