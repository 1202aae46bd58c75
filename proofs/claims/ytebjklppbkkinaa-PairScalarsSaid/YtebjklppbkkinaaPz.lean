/- Powers of two as factors; floats that are one and something; bounds. -/
import Derived.Test.YtebjklppbkkinaaMo
namespace Go.Proofs.Ytebjklppbkkinaa
open Ieee

/-- The word of 2 to the power e. -/
def p2 (e : Int) : Nat := (e + 1023).toNat * 2 ^ 52
theorem read_p2 (e : Int) (h1 : -1022 ≤ e) (h2 : e ≤ 1023) : Ieee.double.read (p2 e) = .number false (2 ^ 52) (e - 52) := by
  have hb : Ieee.double.binade = 2 ^ 52 := rfl
  have hl : Ieee.double.leastPlace = -1074 := by decide
  have hi : Ieee.double.infRung = 0x7ff0000000000000 := by decide
  have hsw : Ieee.double.signWeight = 2 ^ 63 := rfl
  unfold p2
  obtain ⟨u, hu⟩ : ∃ u : Nat, (e + 1023).toNat = u := ⟨_, rfl⟩
  rw [hu]
  have hu1 : 1 ≤ u := by omega
  have hu2 : u ≤ 2046 := by omega
  unfold Format.read
  simp only [hb, hl, hi, hsw]
  have e1 : u * 2 ^ 52 % 2 ^ 63 = u * 2 ^ 52 := Nat.mod_eq_of_lt (by omega)
  have e2 : u * 2 ^ 52 / 2 ^ 63 = 0 := Nat.div_eq_of_lt (by omega)
  have e3 : u * 2 ^ 52 % 2 ^ 52 = 0 := by omega
  have e4 : u * 2 ^ 52 / 2 ^ 52 = u := by omega
  have e5 : (-1074 : Int) + ((u - 1 : Nat) : Int) = e - 52 := by omega
  rw [e1, e2, e3, e4, if_neg (by omega), if_pos (by omega), e5]
  rfl

theorem mul_p2 (x : Nat) (s : Bool) (m : Nat) (i e : Int) (hx : Ieee.double.read x = .number s m i) (h1 : -1022 ≤ e) (h2 : e ≤ 1023) : floatBits .mul .f64 x (p2 e) = some (Ieee.double.nearest s m (i + e)) := by
  show ((Ieee.double.read x).product (Ieee.double.read (p2 e))).map Ieee.double.write = _
  rw [hx, read_p2 e h1 h2]
  show some (Ieee.double.nearest (s ^^ false) (m * 2 ^ 52) (i + (e - 52))) = _
  rw [Bool.xor_false, ← Nat.shiftLeft_eq, nearest_shift]
  congr 2
  omega

theorem read_near (neg : Bool) (mag : Nat) (place : Int) (h0 : mag ≠ 0) (hm : mag < 2 ^ 53) (hp : -1074 ≤ place) (ht : place + (mag.log2 : Int) ≤ 1023) :
    ∃ k : Nat, (k : Int) ≤ place + 1074 ∧ Ieee.double.read (Ieee.double.nearest neg mag place) = .number neg (mag <<< k) (place - k) ∧ (Ieee.double.nearest neg mag place) % 2 ^ 63 < 0x7ff0000000000000 := by
  have hb : Ieee.double.binade = 2 ^ 52 := rfl
  have hl : Ieee.double.leastPlace = -1074 := by decide
  have hi : Ieee.double.infRung = 0x7ff0000000000000 := by decide
  have hsw : Ieee.double.signWeight = 2 ^ 63 := rfl
  have hlog : mag.log2 ≤ 52 := by
    have := (Nat.log2_lt h0).2 hm
    omega
  rw [nearest_rung _ _ _ h0, rung_eq]
  have hlast := lst_eq mag place
  generalize lst mag place = last at *
  have h1 : last ≤ place := by omega
  obtain ⟨k, hk⟩ : ∃ k : Nat, k = (place - last).toNat := ⟨_, rfl⟩
  rw [show (last - place).toNat = 0 by omega, ← hk]
  have hrn : rn (mag <<< k) 0 = mag <<< k := by
    rw [← cut_rn false, cut0]
  rw [hrn]
  refine ⟨k, by omega, ?_⟩
  have hlk : (mag <<< k).log2 = mag.log2 + k := log2_shl mag k h0
  have hks : mag <<< k ≠ 0 := nz_shl mag k h0
  have hlt : mag <<< k < 2 ^ 53 := (Nat.log2_lt hks).1 (by rw [hlk]; omega)
  have hge : last ≠ -1074 → 2 ^ 52 ≤ mag <<< k := fun hne => by
    have h3 : (mag <<< k).log2 = 52 := by rw [hlk]; omega
    have := Nat.log2_self_le hks
    rw [h3] at this
    exact this
  have hpl : place - (k : Int) = last := by omega
  rw [hpl]
  generalize mag <<< k = q at *
  obtain ⟨u, hu⟩ : ∃ u : Nat, u = (last + 1074).toNat := ⟨_, rfl⟩
  rw [← hu]
  have hu2 : u ≤ 2045 := by omega
  rw [Nat.min_eq_left (by omega)]
  have hr : (Ieee.double.word neg (u * 2 ^ 52 + q)) % 2 ^ 63 = u * 2 ^ 52 + q := by
    unfold Format.word
    rw [hsw]
    cases neg <;> simp <;> omega
  have hn : ((Ieee.double.word neg (u * 2 ^ 52 + q)) / 2 ^ 63 % 2 == 1) = neg := by
    unfold Format.word
    rw [hsw]
    cases neg
    · simp; omega
    · have : (2 ^ 63 + (u * 2 ^ 52 + q)) / 2 ^ 63 = 1 := by omega
      simp [this]
  refine ⟨?_, by rw [hr]; omega⟩
  unfold Format.read
  simp only [hsw, hr, hn, hb, hl, hi]
  by_cases hsub : u * 2 ^ 52 + q < 2 ^ 52
  · rw [if_pos hsub]
    have hu0 : u = 0 := by
      rcases Nat.eq_zero_or_pos u with h | h
      · exact h
      · have : 1 * 2 ^ 52 ≤ u * 2 ^ 52 := Nat.mul_le_mul_right _ h
        omega
    subst hu0
    have e4 : (-1074 : Int) = last := by omega
    rw [Nat.zero_mul, Nat.zero_add, e4]
  · rw [if_neg hsub, if_pos (by omega)]
    have hq : 2 ^ 52 ≤ q := by
      by_cases h : last = -1074
      · have hu0 : u = 0 := by omega
        subst hu0
        omega
      · exact hge h
    have e1 : (u * 2 ^ 52 + q) % 2 ^ 52 = q - 2 ^ 52 := by omega
    have e2 : (u * 2 ^ 52 + q) / 2 ^ 52 = u + 1 := by omega
    have e3 : 2 ^ 52 + (q - 2 ^ 52) = q := by omega
    have e4 : (-1074 : Int) + ((u + 1 - 1 : Nat) : Int) = last := by omega
    rw [e1, e2, e3, e4]

theorem near_inf (s : Bool) (mag : Nat) (place : Int) (h0 : mag ≠ 0) (h : 1024 ≤ place + (mag.log2 : Int)) : Ieee.double.nearest s mag place = Ieee.double.word s Ieee.double.infRung := by
  have hi : Ieee.double.infRung = 0x7ff0000000000000 := by decide
  rw [nearest_rung _ _ _ h0, rung_eq, hi]
  congr 1
  have hl := lst_eq mag place
  have k3 := rn_ge (mag <<< (place - lst mag place).toNat) (lst mag place - place).toNat
  have k4 := kept_ge mag place (lst mag place) 52 rfl h0 (by omega)
  generalize lst mag place = last at *
  have hu : 2046 ≤ (last + 1074).toNat := by omega
  generalize (last + 1074).toNat = u at *
  generalize rn (mag <<< (place - last).toNat) (last - place).toNat = r at *
  generalize mag <<< (place - last).toNat / 2 ^ (last - place).toNat = q at *
  have : 2046 * 2 ^ 52 ≤ u * 2 ^ 52 := Nat.mul_le_mul_right _ hu
  omega
theorem read_inf (s : Bool) : Ieee.double.read (Ieee.double.word s Ieee.double.infRung) = .infinity s := by cases s <;> decide
theorem read_zero (s : Bool) : Ieee.double.read (Ieee.double.word s 0) = .number s 0 (-1074) := by cases s <;> decide
theorem nearest_zero (s : Bool) (p : Int) : Ieee.double.nearest s 0 p = Ieee.double.word s 0 := if_pos rfl

/-- One factor more. -/
theorem mul_near (s : Bool) (m : Nat) (P a : Int) (hm : m < 2 ^ 53) (hP : -1074 ≤ P) (ha : 0 ≤ a ∨ P + (m.log2 : Int) ≤ 1023) (h1 : -1022 ≤ a) (h2 : a ≤ 1023) :
    floatBits .mul .f64 (Ieee.double.nearest s m P) (p2 a) = some (Ieee.double.nearest s m (P + a)) := by
  by_cases h0 : m = 0
  · subst h0
    rw [nearest_zero, nearest_zero, mul_p2 _ s 0 (-1074) a (read_zero s) h1 h2, nearest_zero]
  by_cases hov : P + (m.log2 : Int) ≤ 1023
  · obtain ⟨k, hk, hr, _⟩ := read_near s m P h0 hm hP hov
    rw [mul_p2 _ s _ _ a hr h1 h2, nearest_shift]
    congr 2
    omega
  · rw [near_inf s m P h0 (by omega), near_inf s m (P + a) h0 (by omega)]
    show ((Ieee.double.read (Ieee.double.word s Ieee.double.infRung)).product (Ieee.double.read (p2 a))).map Ieee.double.write = _
    rw [read_inf, read_p2 a h1 h2]
    show (if (2 ^ 52 : Nat) = 0 then none else some (Datum.infinity (s ^^ false))).map Ieee.double.write = _
    rw [if_neg (by decide), Bool.xor_false]
    rfl
theorem mul_inf (x : Nat) (s : Bool) (a : Int) (hx : Ieee.double.read x = .infinity s) (h1 : -1022 ≤ a) (h2 : a ≤ 1023) : floatBits .mul .f64 x (p2 a) = some (Ieee.double.word s Ieee.double.infRung) := by
  show ((Ieee.double.read x).product (Ieee.double.read (p2 a))).map Ieee.double.write = _
  rw [hx, read_p2 a h1 h2]
  show (if (2 ^ 52 : Nat) = 0 then none else some (Datum.infinity (s ^^ false))).map Ieee.double.write = _
  rw [if_neg (by decide), Bool.xor_false]
  rfl
theorem mul_nan (x y : Nat) (hx : nanB x = true) : floatBits .mul .f64 x y = none := fb_nanL _ _ _ hx

/-- A float that times 2 ^ K is rounded once only. -/
def gdS (x : Nat) : Prop := ∀ s m i, Ieee.double.read x = .number s m i → m = 0 ∨ -105 ≤ i
/-- A float's class times 2 ^ K, rounded once. -/
def scC (c : Option Nat) (K : Int) : Option Nat := c.bind fun x =>
  match Ieee.double.read x with
  | .number s m i => some (Ieee.double.nearest s m (i + K))
  | .infinity s => some (Ieee.double.word s Ieee.double.infRung)
  | .nan .. => none

theorem read_high (x : Nat) (h : 970 * 2 ^ 52 ≤ x % 2 ^ 63) (s : Bool) (m : Nat) (i : Int) (hr : Ieee.double.read x = .number s m i) : -105 ≤ i := by
  have hb : Ieee.double.binade = 2 ^ 52 := rfl
  have hl : Ieee.double.leastPlace = -1074 := by decide
  have hi : Ieee.double.infRung = 0x7ff0000000000000 := by decide
  have hsw : Ieee.double.signWeight = 2 ^ 63 := rfl
  unfold Format.read at hr
  simp only [hb, hl, hi, hsw] at hr
  generalize x % 2 ^ 63 = r at *
  rw [if_neg (by omega)] at hr
  split at hr
  · cases hr; omega
  · split at hr <;> cases hr

theorem good_wr (z : Int) (s : Bool) (A : Nat) (hA : A = 2 ^ 1021) (hz : z = 0 ∨ A ≤ z.natAbs) : gdS (wr z s) := by
  intro t m i hr
  rcases hz with rfl | hz
  · left
    unfold wr at hr
    rw [if_pos rfl, show (0 : Int).natAbs = 0 from rfl, nearest_zero, read_zero] at hr
    cases hr; rfl
  · right
    have hpos : 0 < A := by rw [hA]; exact Nat.two_pow_pos 1021
    have h0 : z.natAbs ≠ 0 := by omega
    have hlog : 1021 ≤ z.natAbs.log2 := by
      refine (Nat.le_log2 h0).2 ?_
      rw [← hA]; exact hz
    unfold wr at hr
    generalize (if z = 0 then s else decide (z < 0)) = sg at hr
    generalize z.natAbs = n at *
    refine read_high _ ?_ t m i hr
    rw [nearest_rung _ _ _ h0, rung_eq]
    have hl := lst_eq n (-1074)
    have k3 := rn_ge (n <<< (-1074 - lst n (-1074)).toNat) (lst n (-1074) - -1074).toNat
    have k4 := kept_ge n (-1074) (lst n (-1074)) 52 rfl h0 (by omega)
    generalize lst n (-1074) = last at *
    have hu : 969 ≤ (last + 1074).toNat := by omega
    generalize (last + 1074).toNat = u at *
    generalize rn (n <<< (-1074 - last).toNat) (last - -1074).toNat = r at *
    generalize n <<< (-1074 - last).toNat / 2 ^ (last - -1074).toNat = q at *
    have h5 : 969 * 2 ^ 52 ≤ u * 2 ^ 52 := Nat.mul_le_mul_right _ hu
    have h6 : 970 * 2 ^ 52 ≤ min (u * 2 ^ 52 + r) 9218868437227405312 := Nat.le_min.2 ⟨by omega, by omega⟩
    have h7 : min (u * 2 ^ 52 + r) 9218868437227405312 ≤ 9218868437227405312 := Nat.min_le_right _ _
    generalize min (u * 2 ^ 52 + r) 9218868437227405312 = v at *
    have hsw : Ieee.double.signWeight = 2 ^ 63 := rfl
    unfold Format.word
    rw [hsw]
    cases sg
    · rw [if_neg (by decide), Nat.mod_eq_of_lt (by omega)]
      exact h6
    · rw [if_pos rfl, Nat.add_mod_left, Nat.mod_eq_of_lt (by omega)]
      exact h6
end Go.Proofs.Ytebjklppbkkinaa
