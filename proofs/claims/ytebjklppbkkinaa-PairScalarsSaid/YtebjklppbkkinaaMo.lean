/- Rounding keeps order; exact steps by powers of two. -/
import Derived.Test.YtebjklppbkkinaaIe
namespace Go.Proofs.Ytebjklppbkkinaa
open Ieee

/-- Rounding n / 2 ^ d to the nearest, between two to the even one. -/
def rn (n d : Nat) : Nat := n / 2 ^ d + (if 2 ^ d < 2 * (n % 2 ^ d) ∨ (2 ^ d = 2 * (n % 2 ^ d) ∧ n / 2 ^ d % 2 = 1) then 1 else 0)
theorem cut_form (neg : Bool) (n d : Nat) : Toward.even.cut neg n d = n / (1 <<< min d (n.log2 + 2)) + (decide (1 <<< min d (n.log2 + 2) < 2 * (n % (1 <<< min d (n.log2 + 2)))) || ((1 <<< min d (n.log2 + 2) == 2 * (n % (1 <<< min d (n.log2 + 2)))) && (n / (1 <<< min d (n.log2 + 2)) % 2 == 1))).toNat := rfl
theorem cut_rn (neg : Bool) (n d : Nat) : Toward.even.cut neg n d = rn n d := by
  have hlog := Nat.lt_log2_self (n := n)
  rw [cut_form]
  unfold rn
  by_cases h : d ≤ n.log2 + 2
  · have e : (1 : Nat) <<< min d (n.log2 + 2) = 2 ^ d := by rw [Nat.min_eq_left h, Nat.shiftLeft_eq, Nat.one_mul]
    rw [e]
    generalize n / 2 ^ d = q
    generalize n % 2 ^ d = r
    generalize 2 ^ d = g
    by_cases h1 : g < 2 * r
    · rw [if_pos (.inl h1), decide_eq_true h1]
      rfl
    · rw [decide_eq_false h1]
      by_cases h3 : g = 2 * r
      · by_cases h4 : q % 2 = 1
        · rw [if_pos (.inr ⟨h3, h4⟩), beq_iff_eq.2 h3, beq_iff_eq.2 h4]
          rfl
        · rw [if_neg (by rintro (h | h); exact h1 h; exact h4 h.2), beq_eq_false_iff_ne.2 h4, Bool.and_false]
          rfl
      · rw [if_neg (by rintro (h | h); exact h1 h; exact h3 h.1), beq_eq_false_iff_ne.2 h3]
        rfl
  · have e : (1 : Nat) <<< min d (n.log2 + 2) = 2 ^ (n.log2 + 2) := by rw [Nat.min_eq_right (by omega), Nat.shiftLeft_eq, Nat.one_mul]
    rw [e]
    have h1 : n < 2 ^ (n.log2 + 1) := hlog
    have h2 : 2 ^ (n.log2 + 2) = 2 * 2 ^ (n.log2 + 1) := by rw [Nat.pow_succ]; omega
    have h3 : 2 ^ (n.log2 + 2) ≤ 2 ^ d := Nat.pow_le_pow_right (by decide) (by omega)
    have h4 : 2 ^ (n.log2 + 2 + 1) ≤ 2 ^ d := Nat.pow_le_pow_right (by decide) (by omega)
    have h5 : 2 ^ (n.log2 + 2 + 1) = 2 * 2 ^ (n.log2 + 2) := by rw [Nat.pow_succ]; omega
    rw [Nat.div_eq_of_lt (show n < 2 ^ (n.log2 + 2) by omega), Nat.mod_eq_of_lt (show n < 2 ^ (n.log2 + 2) by omega), Nat.div_eq_of_lt (show n < 2 ^ d by omega), Nat.mod_eq_of_lt (show n < 2 ^ d by omega)]
    rw [if_neg (by omega), decide_eq_false (show ¬ 2 ^ (n.log2 + 2) < 2 * n by omega), Bool.false_or, Nat.zero_mod]
    rw [show ((0 : Nat) == 1) = false from rfl, Bool.and_false]
    rfl
theorem rn_mono (a b d : Nat) (h : a ≤ b) : rn a d ≤ rn b d := by
  unfold rn
  have hp := Nat.two_pow_pos d
  have h1 : a / 2 ^ d ≤ b / 2 ^ d := Nat.div_le_div_right h
  have ha := Nat.div_add_mod a (2 ^ d)
  have hb := Nat.div_add_mod b (2 ^ d)
  by_cases he : a / 2 ^ d = b / 2 ^ d
  · rw [he] at ha ⊢
    generalize 2 ^ d * (b / 2 ^ d) = t at *
    generalize a % 2 ^ d = r at *
    generalize b % 2 ^ d = s at *
    generalize 2 ^ d = g at *
    split <;> split <;> omega
  · split <;> split <;> omega
theorem rn_le (n d : Nat) : rn n d ≤ n / 2 ^ d + 1 := by
  unfold rn
  split <;> omega
theorem rn_ge (n d : Nat) : n / 2 ^ d ≤ rn n d := by
  unfold rn
  omega

/-- The place of the last digit that is kept. -/
def lst (mag : Nat) (place : Int) : Int := max (place + (mag.log2 : Int) - (Ieee.double.fractionBits : Int)) Ieee.double.leastPlace
theorem lst_eq (mag : Nat) (place : Int) : lst mag place = max (place + (mag.log2 : Int) - 52) (-1074) := by
  have hl : Ieee.double.leastPlace = -1074 := by decide
  have hf : (Ieee.double.fractionBits : Int) = 52 := rfl
  unfold lst
  rw [hl, hf]
/-- The rung of a number. -/
def rung (mag : Nat) (place : Int) : Nat := min ((lst mag place - Ieee.double.leastPlace).toNat * Ieee.double.binade + Toward.even.cut false (mag <<< (place - lst mag place).toNat) (lst mag place - place).toNat) Ieee.double.infRung
theorem nearest_rung (s : Bool) (mag : Nat) (place : Int) (h : mag ≠ 0) : Ieee.double.nearest s mag place = Ieee.double.word s (rung mag place) := by
  unfold Format.nearest
  rw [if_neg h]
  have e : Toward.even.cut s (mag <<< (place - lst mag place).toNat) (lst mag place - place).toNat = Toward.even.cut false (mag <<< (place - lst mag place).toNat) (lst mag place - place).toNat := by rw [cut_rn, cut_rn]
  unfold rung
  rw [← e]
  rfl
theorem rung_eq (mag : Nat) (place : Int) : rung mag place = min ((lst mag place + 1074).toNat * 2 ^ 52 + rn (mag <<< (place - lst mag place).toNat) (lst mag place - place).toNat) 0x7ff0000000000000 := by
  have hb : Ieee.double.binade = 2 ^ 52 := rfl
  have hl : Ieee.double.leastPlace = -1074 := by decide
  have hi : Ieee.double.infRung = 0x7ff0000000000000 := by decide
  unfold rung
  rw [hb, hl, hi, cut_rn, Int.sub_neg]
theorem word_pos (r : Nat) : Ieee.double.word false r = r := if_neg (by decide)
theorem rung_shift (mag k : Nat) (place : Int) (h : mag ≠ 0) : rung (mag <<< k) place = rung mag (place + k) := by
  have hs : mag <<< k ≠ 0 := by
    rw [Nat.shiftLeft_eq]
    exact Nat.mul_ne_zero h (Nat.ne_of_gt (Nat.two_pow_pos k))
  have := nearest_shift false mag k place
  rw [nearest_rung _ _ _ h, nearest_rung _ _ _ hs, word_pos, word_pos] at this
  exact this

theorem nz_shl (n k : Nat) (hn : n ≠ 0) : n <<< k ≠ 0 := by
  rw [Nat.shiftLeft_eq]
  exact Nat.mul_ne_zero hn (Nat.ne_of_gt (Nat.two_pow_pos k))
theorem pow_le (a b : Nat) (h : a ≤ b) : 2 ^ a ≤ 2 ^ b := Nat.pow_le_pow_right (by decide) h
/-- What is kept has at most 53 digits. -/
theorem kept_lt (n : Nat) (place l : Int) (D : Nat) (hD : D = 53) (hl : place + (n.log2 : Int) - 52 ≤ l) : n <<< (place - l).toNat / 2 ^ (l - place).toNat < 2 ^ D := by
  have hnlt := Nat.lt_log2_self (n := n)
  refine Nat.div_lt_of_lt_mul ?_
  rw [Nat.shiftLeft_eq, ← Nat.pow_add]
  have h1 : n * 2 ^ (place - l).toNat < 2 ^ (n.log2 + 1) * 2 ^ (place - l).toNat := Nat.mul_lt_mul_of_pos_right hnlt (Nat.two_pow_pos _)
  rw [← Nat.pow_add] at h1
  exact Nat.lt_of_lt_of_le h1 (pow_le _ _ (by omega))
/-- .. and at least that many above the least ones. -/
theorem kept_ge (n : Nat) (place l : Int) (D : Nat) (hD : D = 52) (hn : n ≠ 0) (hl : l = place + (n.log2 : Int) - 52) : 2 ^ D ≤ n <<< (place - l).toNat / 2 ^ (l - place).toNat := by
  have hble := Nat.log2_self_le hn
  rw [Nat.le_div_iff_mul_le (Nat.two_pow_pos _), ← Nat.pow_add, Nat.shiftLeft_eq]
  have h1 : 2 ^ n.log2 * 2 ^ (place - l).toNat ≤ n * 2 ^ (place - l).toNat := Nat.mul_le_mul_right _ hble
  rw [← Nat.pow_add] at h1
  exact Nat.le_trans (pow_le _ _ (by omega)) h1

theorem rung_mono (a b : Nat) (place : Int) (ha : a ≠ 0) (h : a ≤ b) : rung a place ≤ rung b place := by
  have hb : b ≠ 0 := by omega
  have hlog : a.log2 ≤ b.log2 := (Nat.le_log2 hb).2 (Nat.le_trans (Nat.log2_self_le ha) h)
  have hla := lst_eq a place
  have hlb := lst_eq b place
  rw [rung_eq, rung_eq]
  generalize lst a place = la at *
  generalize lst b place = lb at *
  refine Nat.le_min.2 ⟨Nat.le_trans (Nat.min_le_left _ _) ?_, Nat.min_le_right _ _⟩
  by_cases he : la = lb
  · rw [he]
    refine Nat.add_le_add_left (rn_mono _ _ _ ?_) _
    rw [Nat.shiftLeft_eq, Nat.shiftLeft_eq]
    exact Nat.mul_le_mul_right _ h
  · have k1 := kept_lt a place la 53 rfl (by omega)
    have k2 := rn_le (a <<< (place - la).toNat) (la - place).toNat
    have k3 := rn_ge (b <<< (place - lb).toNat) (lb - place).toNat
    have k4 := kept_ge b place lb 52 rfl hb (by omega)
    have h3 : (la + 1074).toNat + 1 ≤ (lb + 1074).toNat := by omega
    clear hla hlb he hlog h
    generalize (la + 1074).toNat = ua at *
    generalize (lb + 1074).toNat = ub at *
    generalize rn (a <<< (place - la).toNat) (la - place).toNat = ra at *
    generalize rn (b <<< (place - lb).toNat) (lb - place).toNat = rb at *
    generalize a <<< (place - la).toNat / 2 ^ (la - place).toNat = qa at *
    generalize b <<< (place - lb).toNat / 2 ^ (lb - place).toNat = qb at *
    have h4 : (ua + 1) * 2 ^ 52 ≤ ub * 2 ^ 52 := Nat.mul_le_mul_right _ h3
    omega
end Go.Proofs.Ytebjklppbkkinaa
