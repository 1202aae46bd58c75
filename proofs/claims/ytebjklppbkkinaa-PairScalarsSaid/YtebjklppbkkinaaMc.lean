/- math.Mod. -/
import Derived.Test.YtebjklppbkkinaaMb
namespace Go.Proofs.Ytebjklppbkkinaa
open Go.RowKit Ieee

/-- The sign's weight. -/
def sg (x : Nat) : Nat := x / 9223372036854775808 * 9223372036854775808
/-- The remainder's class. -/
def mdC (x y : Nat) : Option Nat :=
  if nanB x = true ∨ nanB y = true ∨ y % 9223372036854775808 = 0 ∨ x % 9223372036854775808 = 9218868437227405312 then none
  else if y % 9223372036854775808 = 9218868437227405312 then some x
  else some (sg x + vw (uv (x % 9223372036854775808) % uv (y % 9223372036854775808)))
theorem neg_eq (x : Nat) : Op.negFloat .f64 x = x ^^^ 2 ^ 63 := rfl
theorem neg_pos (x : Nat) (h : x < 2 ^ 63) : Op.negFloat .f64 x = x + 2 ^ 63 := by
  rw [neg_eq]
  have := Nat.two_pow_add_eq_or_of_lt (i := 63) (b := x) h 1
  rw [Nat.mul_one] at this
  rw [Nat.add_comm, this]
  apply Nat.eq_of_testBit_eq
  intro i
  rw [Nat.testBit_xor, Nat.testBit_or, Nat.testBit_two_pow]
  by_cases hi : 63 = i
  · subst hi
    rw [Nat.testBit_lt_two_pow h]; rfl
  · simp [hi]
theorem neg_neg (x : Nat) : Op.negFloat .f64 (Op.negFloat .f64 x) = x := by
  rw [neg_eq, neg_eq, Nat.xor_assoc, Nat.xor_self, Nat.xor_zero]
theorem run_neg {P : Program} (x : Nat) (w : World) : (Op.unary .neg (.float .f64 x)).run P w = .ok (.float .f64 (Op.negFloat .f64 x)) w := rfl
theorem run_neg2 {P : Program} (x y : Nat) (h : Op.negFloat .f64 x = y) (w : World) : (Op.unary .neg (.float .f64 x)).run P w = .ok (.float .f64 y) w := by rw [run_neg, h]
/-- What a word is. -/
theorem kinds (x : Nat) (_hx : x < 18446744073709551616) (hn : nanB x = false) : x % 9223372036854775808 < 9218868437227405312 ∨ x % 9223372036854775808 = 9218868437227405312 := by
  rw [nanB_eq] at hn
  have := of_decide_eq_false hn
  rw [show (2 : Nat) ^ 63 = 9223372036854775808 from rfl] at this
  omega
theorem infB_mod (x : Nat) (hn : nanB x = false) : infB (cl x) = infB (cl (x % 9223372036854775808)) := by
  have h2 : nanB (x % 9223372036854775808) = false := by
    rw [nanB_eq] at hn ⊢
    rw [show (2 : Nat) ^ 63 = 9223372036854775808 from rfl] at hn ⊢
    rw [Nat.mod_mod]; exact hn
  unfold infB
  rw [cl_num hn, cl_num h2]
  unfold ab
  simp only [Option.map_some, Nat.mod_mod]
theorem infB_iff (x : Nat) (hn : nanB x = false) (hx : x < 18446744073709551616) : infB (cl x) = decide (x % 9223372036854775808 = 9218868437227405312) := by
  rw [infB_mod x hn]
  rcases kinds x hx hn with h | h
  · rw [infB_pos _ h, decide_eq_false (by omega)]
  · rw [h]; decide
/-- How it stands to 0. -/
theorem ord0 (x : Nat) (hx : x < 18446744073709551616) (hn : nanB x = false) : FloatKind.f64.format.order x 0 = some (if x % 9223372036854775808 = 0 then .eq else if x < 9223372036854775808 then .gt else .lt) := by
  rcases ends_or x hx with ⟨c, h⟩ | ⟨h0, h⟩
  · rcases h with ⟨h, -⟩ | ⟨-, ho, -⟩ | ⟨-, ho, -⟩ | ⟨rfl, -⟩
    · rw [hn] at h; cases h
    · by_cases hz : x % 9223372036854775808 = 0
      · exfalso
        have : x = 0 ∨ x = 9223372036854775808 := by omega
        rcases this with rfl | rfl <;> revert ho <;> decide
      · by_cases hp : x < 9223372036854775808
        · exfalso
          rw [Nat.mod_eq_of_lt hp] at hz
          rcases kinds x hx hn with h | h
          · rw [Nat.mod_eq_of_lt hp] at h
            rw [pos_gt x hz h] at ho; cases ho
          · rw [Nat.mod_eq_of_lt hp] at h
            subst h
            revert ho; decide
        · rw [ho, if_neg hz, if_neg hp]
    · by_cases hz : x % 9223372036854775808 = 0
      · rw [ho, if_pos hz]
      · exfalso
        by_cases hp : x < 9223372036854775808
        · rw [Nat.mod_eq_of_lt hp] at hz
          rcases kinds x hx hn with h | h
          · rw [Nat.mod_eq_of_lt hp] at h
            rw [pos_gt x hz h] at ho; cases ho
          · rw [Nat.mod_eq_of_lt hp] at h
            subst h
            revert ho; decide
        · have hk := kinds x hx hn
          cases hr : Ieee.double.read x with
          | nan s f => unfold nanB at hn; rw [hr] at hn; cases hn
          | infinity s =>
            have e : FloatKind.f64.format.order x 0 = (Ieee.double.read x).order (Ieee.double.read 0) := rfl
            rw [e, hr, rd0] at ho
            cases s <;> cases ho
          | number s m i =>
            have hb := ord_bd x 0 s m i false 0 (-1074) hr rd0
            have hu := read_uv x _ m i hr
            have hpos : uv 0 < uv (x % 2 ^ 63) := uv_strict _ _ (by omega)
            have h00 : uv 0 = 0 := rfl
            have z0 : un false 0 (-1074) = 0 := by unfold un; rw [signed_eq, Nat.zero_mul]; rfl
            rw [z0] at hb
            have ha := un_abs s m i
            have h1 : ¬ 0 < un s m i := fun hc => by have := hb.1.2 hc; rw [ho] at this; cases this
            have h2 : ¬ un s m i < 0 := fun hc => by have := hb.2.2 hc; rw [ho] at this; cases this
            omega
    · decide
  · rw [pos_gt x h0 h, if_neg (by omega), if_pos (by omega)]
theorem frexp_inf (w : World) : Calls Try.prog 69 #[.float .f64 9218868437227405312] w fun r w' => r = .returned (.tuple #[.float .f64 9218868437227405312, .int .i64 0]) ∧ w' = w := by
  have kf : ∀ w, Calls Try.prog 75 #[.float .f64 9218868437227405312] w fun r w' => r = .returned (.tuple #[.float .f64 9218868437227405312, .int .i64 0]) ∧ w' = w := by
    intro w
    have kI := isInf_any 9218868437227405312 (by decide)
    rw [show infB (cl 9218868437227405312) = true by decide] at kI
    have he : (FloatKind.f64.format.order 9218868437227405312 0 == some .eq) = false := by decide
    go_enter Try.func75, Try.ntmps75
    go_wp2_with fail
    go_fit (kI _)
    rintro r w ⟨rfl, rfl⟩
    go_wp2
    go_ret2
    exact ⟨rfl, rfl⟩
  go_enter Try.func69, Try.ntmps69
  go_wp2_with fail
  go_fit (kf _)
  rintro r w ⟨rfl, rfl⟩
  go_wp2
  go_ret2
  exact ⟨rfl, rfl⟩
end Go.Proofs.Ytebjklppbkkinaa
