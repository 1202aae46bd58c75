/- The parts of a float: words of positive numbers stand as their values do. -/
import Derived.Test.YtebjklppbkkinaaPr
namespace Go.Proofs.Ytebjklppbkkinaa
open Ieee

theorem log2_52 (M : Nat) (h1 : 2 ^ 52 ≤ M) (h2 : M < 2 ^ 53) : M.log2 = 52 := (Nat.log2_eq_iff (by omega)).2 ⟨h1, h2⟩
theorem near_norm (M : Nat) (Q : Int) (h1 : 2 ^ 52 ≤ M) (h2 : M < 2 ^ 53) (hQ : -1074 ≤ Q) (hQ2 : Q ≤ 971) : Ieee.double.nearest false M Q = (Q + 1075).toNat * 2 ^ 52 + (M - 2 ^ 52) := by
  rw [nearest_rung _ _ _ (by omega), word_pos, rung_eq]
  have hl := lst_eq M Q
  rw [log2_52 M h1 h2] at hl
  have hlQ : lst M Q = Q := by omega
  rw [hlQ, Int.sub_self]
  have hrn : rn (M <<< (0 : Int).toNat) (0 : Int).toNat = M := by
    rw [show (0 : Int).toNat = 0 from rfl, Nat.shiftLeft_zero, ← cut_rn false, cut0]
  rw [hrn]
  obtain ⟨u, hu⟩ : ∃ u : Nat, (Q + 1074).toNat = u := ⟨_, rfl⟩
  rw [hu, show (Q + 1075).toNat = u + 1 by omega]
  have : u ≤ 2045 := by omega
  rw [Nat.min_eq_left (by omega)]
  omega
theorem uv_strict (a b : Nat) (h : a < b) : uv a < uv b := by
  unfold uv
  by_cases ha : a < 2 ^ 52
  · rw [if_pos ha]
    by_cases hb : b < 2 ^ 52
    · rw [if_pos hb]; exact h
    · rw [if_neg hb]
      have : (2 ^ 52 + b % 2 ^ 52) * 1 ≤ (2 ^ 52 + b % 2 ^ 52) * 2 ^ (b / 2 ^ 52 - 1) := Nat.mul_le_mul_left _ (Nat.two_pow_pos _)
      omega
  · rw [if_neg ha, if_neg (by omega)]
    by_cases he : a / 2 ^ 52 = b / 2 ^ 52
    · rw [he]
      exact Nat.mul_lt_mul_of_pos_right (by omega) (Nat.two_pow_pos _)
    · have h2 : (2 ^ 52 + a % 2 ^ 52) * 2 ^ (a / 2 ^ 52 - 1) < 2 ^ 53 * 2 ^ (a / 2 ^ 52 - 1) := Nat.mul_lt_mul_of_pos_right (by omega) (Nat.two_pow_pos _)
      have h3 : 2 ^ 52 * 2 ^ (b / 2 ^ 52 - 1) ≤ (2 ^ 52 + b % 2 ^ 52) * 2 ^ (b / 2 ^ 52 - 1) := Nat.mul_le_mul_right _ (by omega)
      have h4 : 2 ^ 53 * 2 ^ (a / 2 ^ 52 - 1) ≤ 2 ^ 52 * 2 ^ (b / 2 ^ 52 - 1) := by
        rw [← Nat.pow_add, ← Nat.pow_add]
        exact pow_le _ _ (by omega)
      exact Nat.lt_of_lt_of_le h2 (Nat.le_trans h4 h3)
/-- A positive word's number. -/
theorem read_pos (x : Nat) (h : x < 0x7ff0000000000000) : ∃ m i, Ieee.double.read x = .number false m i ∧ un false m i = (uv x : Int) := by
  have hx : x % 2 ^ 63 = x := Nat.mod_eq_of_lt (by omega)
  obtain ⟨s, m, i, hr⟩ := read_fin x (by rw [hx]; exact h)
  have hs : s = false := by
    have hsw : Ieee.double.signWeight = 2 ^ 63 := rfl
    have hneg : (x / 2 ^ 63 % 2 == 1) = false := by
      rw [Nat.div_eq_of_lt (by omega)]; rfl
    have hr' := hr
    unfold Format.read at hr'
    simp only [hsw, hneg] at hr'
    split at hr'
    · cases hr'; rfl
    · split at hr'
      · cases hr'; rfl
      · split at hr' <;> cases hr'
  subst hs
  refine ⟨m, i, hr, ?_⟩
  have := read_uv x _ m i hr
  rw [hx] at this
  rw [← this]
  unfold un
  rw [signed_eq, if_neg (by decide), Int.one_mul]
/-- Positive words stand as numbers do. -/
theorem pos_order (a b : Nat) (ha : a < 0x7ff0000000000000) (hb : b < 0x7ff0000000000000) : FloatKind.f64.format.order a b = some (compare a b) := by
  obtain ⟨ma, ia, hra, hua⟩ := read_pos a ha
  obtain ⟨mb, ib, hrb, hub⟩ := read_pos b hb
  have k := ord_bd a b false ma ia false mb ib hra hrb
  rw [hua, hub] at k
  rcases Nat.lt_trichotomy a b with h | h | h
  · have := uv_strict a b h
    rw [k.2.2 (by omega)]
    congr 1
    exact (Nat.compare_eq_lt.2 h).symm
  · subst h
    rw [fo_self, if_neg]
    · congr 1
      exact (Nat.compare_eq_eq.2 rfl).symm
    · unfold nanB
      rw [hra]
      exact Bool.false_ne_true
  · have := uv_strict b a h
    rw [k.1.2 (by omega)]
    congr 1
    exact (Nat.compare_eq_gt.2 h).symm

/-- A half of a number. -/
theorem rdTwo : Ieee.double.read 4611686018427387904 = .number false (2 ^ 52) (-51) := by decide +kernel
theorem quo_two (x : Nat) (s : Bool) (m : Nat) (i : Int) (hx : Ieee.double.read x = .number s m i) (hm : m < 2 ^ 53) : floatBits .quo .f64 x 4611686018427387904 = some (Ieee.double.nearest s m (i - 1)) := by
  have e : floatBits .quo .f64 x 4611686018427387904 = ((Ieee.double.read x).quotient 54 (Ieee.double.read 4611686018427387904)).map Ieee.double.write := rfl
  rw [e, hx, rdTwo]
  simp only [Datum.quotient]
  rw [if_neg (by decide)]
  have hl : (2 ^ 52 : Nat).log2 = 52 := by decide
  rw [hl]
  have hlm : m.log2 ≤ 52 := by
    by_cases h0 : m = 0
    · subst h0; decide
    · have := (Nat.log2_lt h0).2 hm
      omega
  obtain ⟨k, hk⟩ : ∃ k, 54 + 52 - m.log2 = k + 52 := ⟨54 - m.log2, by omega⟩
  rw [hk]
  have e1 : m <<< (k + 52) / 2 ^ 52 = m <<< k := by
    rw [Nat.shiftLeft_eq, Nat.shiftLeft_eq, Nat.pow_add, ← Nat.mul_assoc, Nat.mul_div_cancel _ (by decide)]
  have e2 : m <<< (k + 52) % 2 ^ 52 = 0 := by
    rw [Nat.shiftLeft_eq, Nat.pow_add, ← Nat.mul_assoc, Nat.mul_mod_left]
  rw [e1, e2]
  show some (Ieee.double.nearest (s ^^ false) (2 * m <<< k + 0) (i - -51 - ((k + 52 : Nat) : Int) - 1)) = _
  rw [Bool.xor_false, Nat.add_zero]
  have e3 : 2 * m <<< k = m <<< (k + 1) := by
    rw [Nat.shiftLeft_eq, Nat.shiftLeft_eq, Nat.pow_succ]
    rw [Nat.mul_comm 2, Nat.mul_assoc]
  rw [e3, nearest_shift]
  congr 2
  omega

/-- x is M times 2 ^ P, M of 53 digits. -/
def Nm (x M : Nat) (P : Int) : Prop := 2 ^ 52 ≤ M ∧ M < 2 ^ 53 ∧ P ≤ 971 ∧ -1126 ≤ P ∧ ∃ m i, ∃ k : Nat, Ieee.double.read x = .number false m i ∧ m < 2 ^ 53 ∧ M = m <<< k ∧ P = i - k ∧ -1074 ≤ i
theorem Nm.near {x M : Nat} {P : Int} (h : Nm x M P) : ∃ m i, Ieee.double.read x = .number false m i ∧ m ≠ 0 ∧ m < 2 ^ 53 ∧ -1074 ≤ i ∧ ∀ j : Int, Ieee.double.nearest false m (i + j) = Ieee.double.nearest false M (P + j) := by
  obtain ⟨h1, h2, _, _, m, i, k, hr, hm, hM, hP, hi⟩ := h
  refine ⟨m, i, hr, fun h0 => ?_, hm, hi, fun j => ?_⟩
  · rw [h0, Nat.zero_shiftLeft] at hM
    omega
  · rw [hM, nearest_shift]
    congr 1
    omega
/-- A normal word. -/
theorem nm_normal (x : Nat) (h1 : 2 ^ 52 ≤ x) (h2 : x < 0x7ff0000000000000) : Nm x (2 ^ 52 + x % 2 ^ 52) ((x / 2 ^ 52 : Nat) - 1075) := by
  have hb : Ieee.double.binade = 2 ^ 52 := rfl
  have hl : Ieee.double.leastPlace = -1074 := by decide
  have hi : Ieee.double.infRung = 0x7ff0000000000000 := by decide
  have hsw : Ieee.double.signWeight = 2 ^ 63 := rfl
  refine ⟨by omega, by omega, by omega, by omega, 2 ^ 52 + x % 2 ^ 52, ((x / 2 ^ 52 : Nat) : Int) - 1075, 0, ?_, by omega, by rw [Nat.shiftLeft_zero], by omega, by omega⟩
  unfold Format.read
  simp only [hb, hl, hi, hsw]
  rw [Nat.mod_eq_of_lt (show x < 2 ^ 63 by omega), Nat.div_eq_of_lt (show x < 2 ^ 63 by omega), if_neg (by omega), if_pos h2]
  rw [show (-1074 : Int) + ((x / 2 ^ 52 - 1 : Nat) : Int) = ((x / 2 ^ 52 : Nat) : Int) - 1075 by omega]
  rfl
/-- A subnormal word. -/
theorem nm_sub (x : Nat) (h0 : x ≠ 0) (h1 : x < 2 ^ 52) : ∃ M P, Nm x M P ∧ P < -1074 := by
  have hb : Ieee.double.binade = 2 ^ 52 := rfl
  have hl : Ieee.double.leastPlace = -1074 := by decide
  have hi : Ieee.double.infRung = 0x7ff0000000000000 := by decide
  have hsw : Ieee.double.signWeight = 2 ^ 63 := rfl
  have hlog : x.log2 ≤ 51 := by
    have := (Nat.log2_lt h0).2 h1
    omega
  have hr : Ieee.double.read x = .number false x (-1074) := by
    unfold Format.read
    simp only [hb, hl, hi, hsw]
    rw [Nat.mod_eq_of_lt (show x < 2 ^ 63 by omega), Nat.div_eq_of_lt (show x < 2 ^ 63 by omega), if_pos h1]
    rfl
  have hlk := log2_shl x (52 - x.log2) h0
  have hnz := nz_shl x (52 - x.log2) h0
  have g1 := Nat.log2_self_le hnz
  have g2 := Nat.lt_log2_self (n := x <<< (52 - x.log2))
  rw [hlk, show x.log2 + (52 - x.log2) = 52 by omega] at g1 g2
  exact ⟨x <<< (52 - x.log2), -1074 - ((52 - x.log2 : Nat) : Int), ⟨g1, g2, by omega, by omega, x, -1074, 52 - x.log2, hr, by omega, rfl, rfl, by decide⟩, by omega⟩

/-- The place of m's last digit. -/
def qs (M : Nat) : Int := if M < 6369051672525773 then -52 else -53
/-- How a word of 53 digits stands to the square root of a half, and to twice it. -/
theorem half_cmp (M : Nat) (Q : Int) (h1 : 2 ^ 52 ≤ M) (h2 : M < 2 ^ 53) (hQ2 : Q ≤ 971) :
    (Ieee.double.nearest false M Q < 4604544271217802189 ↔ Q < qs M) ∧ (Ieee.double.nearest false M Q < 4609047870845172685 ↔ Q < qs M + 1) ∧ Ieee.double.nearest false M Q < 0x7ff0000000000000 := by
  by_cases hQ : -1074 ≤ Q
  · rw [near_norm M Q h1 h2 hQ hQ2]
    obtain ⟨u, hu⟩ : ∃ u : Nat, (Q + 1075).toNat = u := ⟨_, rfl⟩
    have huQ : Q = (u : Int) - 1075 := by omega
    have hu2 : u ≤ 2046 := by omega
    rw [hu, huQ]
    unfold qs
    refine ⟨?_, ?_, by omega⟩
    · split <;> constructor <;> intro h <;> omega
    · split <;> constructor <;> intro h <;> omega
  · have hle : Ieee.double.nearest false M Q ≤ Ieee.double.nearest false M (-1074) := by
      rw [nearest_rung _ _ _ (by omega), nearest_rung _ _ _ (by omega), word_pos, word_pos]
      obtain ⟨k, hk⟩ : ∃ k : Nat, (-1074 : Int) = Q + k := ⟨(-1074 - Q).toNat, by omega⟩
      rw [hk, ← rung_shift M k Q (by omega)]
      refine rung_mono _ _ _ (by omega) ?_
      rw [Nat.shiftLeft_eq]
      exact Nat.le_mul_of_pos_right _ (Nat.two_pow_pos _)
    rw [near_norm M (-1074) h1 h2 (by decide) (by decide)] at hle
    unfold qs
    refine ⟨?_, ?_, by omega⟩
    · split <;> constructor <;> intro h <;> omega
    · split <;> constructor <;> intro h <;> omega
end Go.Proofs.Ytebjklppbkkinaa
