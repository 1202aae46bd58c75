/- The reference's order of floats. -/
import Derived.Test.YtfjfpplemgjcmabOd
namespace Go.Proofs.Ytfjfpplemgjcmab
open Go.RowKit Ieee

/-- The reference's bits: all NaN as one. -/
def nb (x : Nat) : Nat := if nanB x = true then 9221120237041090561 else x
theorem nan_iff (x : Nat) : nanB x = true ↔ 0x7ff0000000000000 < x % 2 ^ 63 := by
  rw [nanB_eq]
  exact decide_eq_true_iff
set_option maxHeartbeats 400000 in
theorem rBits_any (x : Nat) (w : World) : Calls Try.prog 123 #[.float .f64 x] w fun r w' => r = .returned (.int .u64 (nb x : Int)) ∧ w' = w := by
  have k1 := callBits x
  obtain ⟨d, hd⟩ : ∃ d : Nat, d = x % 2 ^ 63 * 2 := ⟨_, rfl⟩
  have hs : IntKind.u64.wrap ((x : Int) * 2) = (d : Int) := by
    rw [IntKind.wrap_u64]
    omega
  have hnb : nb x = if 18437736874454810624 < d then 9221120237041090561 else x := by
    unfold nb
    by_cases h : nanB x = true
    · rw [if_pos h, if_pos (by have := (nan_iff x).1 h; omega)]
    · rw [if_neg h, if_neg (fun h2 => h ((nan_iff x).2 (by omega)))]
  rw [hnb]
  clear hd hnb
  by_cases h : 18437736874454810624 < d
  · rw [if_pos h]
    have hi : (18437736874454810624 : Int) < (d : Int) := by omega
    go_enter Try.func123, Try.ntmps123
    go_wp2
    go_ret
    exact ⟨rfl, rfl⟩
  · rw [if_neg h]
    have hi : ¬ (18437736874454810624 : Int) < (d : Int) := by omega
    go_enter Try.func123, Try.ntmps123
    go_wp2
    go_ret
    exact ⟨rfl, rfl⟩
set_option maxHeartbeats 400000 in
theorem place_any (x : Nat) (hx : x < 18446744073709551616) (w : World) : Calls Try.prog 117 #[.float .f64 x] w fun r w' => r = .returned (.int .i64 (ky x)) ∧ w' = w := by
  have k1 := rBits_any x
  cases hn : nanB x with
  | true =>
    rw [ky_nan x hn]
    rw [show nb x = 9221120237041090561 from if_pos hn] at k1
    go_enter Try.func117, Try.ntmps117
    go_wp2_with fail
    go_fit (k1 _)
    rintro r w ⟨rfl, rfl⟩
    go_wp2
    go_ret
    exact ⟨rfl, rfl⟩
  | false =>
    have hnn : ¬ 0x7ff0000000000000 < x % 2 ^ 63 := fun h => by
      have := (nan_iff x).2 h
      rw [hn] at this
      cases this
    rw [show nb x = x from if_neg (by rw [hn]; decide)] at k1
    have hk : ky x = sv (sgn x) (x % 2 ^ 63) := if_neg (by rw [hn]; decide)
    have hne : ((x : Int) == 9221120237041090561) = false := beq_eq_false_iff_ne.2 (by omega)
    obtain ⟨r, hr⟩ : ∃ r : Nat, r = x % 2 ^ 63 := ⟨_, rfl⟩
    have hr2 : r ≤ 9218868437227405312 := by omega
    by_cases hs : x < 2 ^ 63
    · have e : ky x = (x : Int) := by
        have h1 : sgn x = false := by unfold sgn; rw [Nat.div_eq_of_lt hs]; rfl
        rw [hk, h1]; unfold sv
        rw [if_neg (by decide), Nat.mod_eq_of_lt hs]
      rw [e]
      have hd : (x : Int) / 9223372036854775808 = 0 := by omega
      have hx2 : x ≤ 9218868437227405312 := by omega
      clear e hk hr hnn
      go_enter Try.func117, Try.ntmps117
      go_wp2_with fail
      go_fit (k1 _)
      rintro r w ⟨rfl, rfl⟩
      go_wp2
      go_ret
      exact ⟨rfl, rfl⟩
    · have e : ky x = -(r : Int) := by
        have h1 : sgn x = true := by
          unfold sgn
          have : x / 2 ^ 63 = 1 := by omega
          rw [this]; rfl
        rw [hk, h1, ← hr]; unfold sv
        rw [if_pos rfl]
      rw [e]
      have hd : (x : Int) / 9223372036854775808 = 1 := by omega
      obtain ⟨d, hdd⟩ : ∃ d : Nat, d = r * 2 := ⟨_, rfl⟩
      have hw : IntKind.u64.wrap ((x : Int) * 2) = (d : Int) := by
        rw [IntKind.wrap_u64]
        omega
      have hd2 : (d : Int) / 2 = (r : Int) := by omega
      clear e hk hr hnn hdd
      go_enter Try.func117, Try.ntmps117
      go_wp2_with fail
      go_fit (k1 _)
      rintro r w ⟨rfl, rfl⟩
      go_wp2
      go_ret
      exact ⟨rfl, rfl⟩
set_option maxHeartbeats 400000 in
theorem rorder_any (x y : Nat) (hx : x < 18446744073709551616) (hy : y < 18446744073709551616) (w : World) : Calls Try.prog 105 #[.float .f64 x, .float .f64 y] w fun r w' => r = .returned (.int .i64 (cmS (ky x) (ky y))) ∧ w' = w := by
  have k1 := place_any x hx
  have k2 := place_any y hy
  generalize ky x = a at *
  generalize ky y = b at *
  rcases Int.lt_trichotomy a b with h | h | h
  · have e : cmS a b = -1 := if_pos h
    rw [e]
    clear e
    go_enter Try.func105, Try.ntmps105
    go_wp2_with fail
    go_fit (k1 _)
    rintro r w ⟨rfl, rfl⟩
    go_wp2_with fail
    go_fit (k2 _)
    rintro r w ⟨rfl, rfl⟩
    go_wp2
    go_ret
    exact ⟨rfl, rfl⟩
  · subst h
    have e : cmS a a = 0 := by unfold cmS; rw [if_neg (by omega), if_neg (by omega)]
    rw [e]
    clear e
    go_enter Try.func105, Try.ntmps105
    go_wp2_with fail
    go_fit (k1 _)
    rintro r w ⟨rfl, rfl⟩
    go_wp2_with fail
    go_fit (k2 _)
    rintro r w ⟨rfl, rfl⟩
    go_wp2
    go_ret
    exact ⟨rfl, rfl⟩
  · have e : cmS a b = 1 := by unfold cmS; rw [if_neg (by omega), if_pos h]
    rw [e]
    clear e
    have h' : ¬ a < b := by omega
    go_enter Try.func105, Try.ntmps105
    go_wp2_with fail
    go_fit (k1 _)
    rintro r w ⟨rfl, rfl⟩
    go_wp2_with fail
    go_fit (k2 _)
    rintro r w ⟨rfl, rfl⟩
    go_wp2
    go_ret
    exact ⟨rfl, rfl⟩
end Go.Proofs.Ytfjfpplemgjcmab
