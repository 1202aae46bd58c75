/- Floats as rational numbers: what one rounding does. -/
import Derived.Test.YtfjfpplemgjcmabPy
import Derived.Test.YtfjfpplemgjcmabVd
namespace Go.Proofs.Ytfjfpplemgjcmab
open Go.RowKit Ieee An

def tw (i : Int) : Rat := (2 : Rat) ^ i
theorem tw_add (i j : Int) : tw (i + j) = tw i * tw j := Rat.zpow_add (by decide +kernel) i j
theorem tw_pos (i : Int) : 0 < tw i := Rat.zpow_pos (by decide +kernel)
theorem pow_cast (n : Nat) : ((2 ^ n : Nat) : Rat) = (2 : Rat) ^ n := by
  induction n with
  | zero => rfl
  | succ n ih => rw [Nat.pow_succ, Rat.natCast_mul, ih, Rat.pow_succ]; rfl
theorem tw_nat (n : Nat) : tw (n : Int) = ((2 ^ n : Nat) : Rat) := by
  unfold tw
  rw [Rat.zpow_natCast, pow_cast]
theorem tw_le (i j : Int) (h : tw i ≤ tw j) : i ≤ j := by
  apply Classical.byContradiction
  intro hn
  obtain ⟨k, hk⟩ : ∃ k : Nat, i = j + (1 + (k : Int)) := ⟨(i - j - 1).toNat, by omega⟩
  have e : tw i = tw j * (2 * ((2 ^ k : Nat) : Rat)) := by
    rw [hk, tw_add, tw_add, tw_nat]
    rfl
  have h1 := tw_pos j
  have h2 : (1 : Rat) ≤ ((2 ^ k : Nat) : Rat) := Rat.natCast_le_natCast.2 (Nat.two_pow_pos k)
  have h3 := Rat.mul_nonneg (a := tw j) (b := ((2 ^ k : Nat) : Rat) - 1) (by grind) (by grind)
  rw [e] at h
  grind
def sv (s : Bool) : Rat := if s = true then -1 else 1
theorem sv_xor (s t : Bool) : sv (s ^^ t) = sv s * sv t := by cases s <;> cases t <;> decide +kernel
theorem sv_not (s : Bool) : sv (!s) = -sv s := by cases s <;> decide +kernel
theorem sv_ab (s : Bool) : Ab (sv s) 1 := by cases s <;> constructor <;> decide +kernel
theorem sv_sq (s : Bool) : sv s * sv s = 1 := by cases s <;> decide +kernel
def vl (s : Bool) (m : Nat) (i : Int) : Rat := sv s * ((m : Rat) * tw i)
/-- A word's number. -/
def V (x : Nat) (q : Rat) : Prop := ∃ s m i, Ieee.double.read x = .number s m i ∧ q = vl s m i
theorem un_vl (s : Bool) (m : Nat) (i : Int) (hi : -1074 ≤ i) : ((un s m i : Int) : Rat) * tw (-1074) = vl s m i := by
  have e : tw i = ((2 ^ (i + 1074).toNat : Nat) : Rat) * tw (-1074) := by
    rw [← tw_nat, ← tw_add]
    congr 1
    omega
  unfold un vl sv
  rw [signed_eq, e, Rat.intCast_mul, Rat.intCast_natCast, Rat.natCast_mul]
  generalize ((2 ^ (i + 1074).toNat : Nat) : Rat) = p
  generalize tw (-1074) = q
  cases s
  · rw [if_neg (by decide), if_neg (by decide)]
    show (1 : Rat) * _ * _ = _
    grind
  · rw [if_pos rfl, if_pos rfl]
    show (-1 : Rat) * _ * _ = _
    grind
theorem uv_rung (u R : Nat) (h1 : u = 0 ∨ 2 ^ 52 ≤ R) (h2 : R ≤ 2 ^ 53) : uv (u * 2 ^ 52 + R) = R * 2 ^ u := by
  unfold uv
  by_cases hs : R < 2 ^ 52
  · obtain rfl : u = 0 := by omega
    rw [if_pos (by omega)]
    omega
  · by_cases he : R = 2 ^ 53
    · subst he
      rw [if_neg (by omega), show (u * 2 ^ 52 + 2 ^ 53) % 2 ^ 52 = 0 by omega, show (u * 2 ^ 52 + 2 ^ 53) / 2 ^ 52 - 1 = u + 1 by omega, Nat.pow_succ]
      omega
    · rw [if_neg (by omega), show (u * 2 ^ 52 + R) % 2 ^ 52 = R - 2 ^ 52 by omega, show (u * 2 ^ 52 + R) / 2 ^ 52 - 1 = u by omega, show 2 ^ 52 + (R - 2 ^ 52) = R by omega]
theorem read_word (s : Bool) (r : Nat) (h : r < 0x7ff0000000000000) : ∃ m i, Ieee.double.read (Ieee.double.word s r) = .number s m i := by
  have hb : Ieee.double.binade = 2 ^ 52 := rfl
  have hl : Ieee.double.leastPlace = -1074 := by decide
  have hi : Ieee.double.infRung = 0x7ff0000000000000 := by decide
  have hsw : Ieee.double.signWeight = 2 ^ 63 := rfl
  unfold Format.read Format.word
  simp only [hb, hl, hi, hsw]
  cases s
  · rw [show (if false = true then 2 ^ 63 + r else r) = r from if_neg (by decide), Nat.mod_eq_of_lt (show r < 2 ^ 63 by omega), show r / 2 ^ 63 = 0 by omega]
    split
    · exact ⟨_, _, rfl⟩
    · exact ⟨_, _, rfl⟩
  · rw [show (if true = true then 2 ^ 63 + r else r) = 2 ^ 63 + r from if_pos rfl, Nat.add_mod_left, Nat.mod_eq_of_lt (show r < 2 ^ 63 by omega), show (2 ^ 63 + r) / 2 ^ 63 = 1 by omega]
    split
    · exact ⟨_, _, rfl⟩
    · exact ⟨_, _, rfl⟩
theorem rn_err (n d : Nat) : 2 * (rn n d * 2 ^ d) ≤ 2 * n + 2 ^ d ∧ 2 * n ≤ 2 * (rn n d * 2 ^ d) + 2 ^ d := by
  unfold rn
  have h1 := Nat.div_add_mod n (2 ^ d)
  have h2 := Nat.mod_lt n (Nat.two_pow_pos d)
  rw [Nat.mul_comm] at h1
  generalize n / 2 ^ d = q at *
  generalize n % 2 ^ d = t at *
  generalize 2 ^ d = P at *
  split
  · rw [Nat.add_mul, Nat.one_mul]
    omega
  · rw [Nat.add_zero]
    omega
/-- q is z rounded, within half of what is allowed. -/
def Hf (z q : Rat) : Prop := (∃ d, q = z * (1 + d) ∧ Ab d (ep / 2)) ∨ Ab (q - z) et
theorem Hf.rd {z q : Rat} (h : Hf z q) : Rd z q := by
  obtain ⟨e1, e2, e3⟩ := ep_facts
  rcases h with ⟨d, hq, hd⟩ | h
  · exact ⟨d, 0, by rw [hq]; grind, hd.mono (by grind), ⟨by grind, by grind⟩⟩
  · exact ⟨0, q - z, by grind, ⟨by grind, by grind⟩, h⟩
theorem near_rd (s : Bool) (mag : Nat) (place : Int) (hT : mag ≠ 0 → place + (mag.log2 : Int) ≤ 1000) : ∃ q, V (Ieee.double.nearest s mag place) q ∧ Hf (vl s mag place) q := by
  by_cases h0 : mag = 0
  · subst h0
    rw [nearest_zero]
    refine ⟨_, ⟨s, 0, -1074, read_zero s, rfl⟩, .inl ⟨0, ?_, by constructor <;> decide +kernel⟩⟩
    unfold vl
    rw [show ((0 : Nat) : Rat) = 0 from rfl]
    grind
  have hT := hT h0
  rw [nearest_rung _ _ _ h0, rung_eq]
  have hl := lst_eq mag place
  have k2 := kept_lt mag place (lst mag place) 53 rfl (by omega)
  have k4 : lst mag place ≠ -1074 → 2 ^ 52 ≤ mag <<< (place - lst mag place).toNat / 2 ^ (lst mag place - place).toNat := fun hne => kept_ge mag place (lst mag place) 52 rfl h0 (by omega)
  have k5 := rn_le (mag <<< (place - lst mag place).toNat) (lst mag place - place).toNat
  have k6 := rn_ge (mag <<< (place - lst mag place).toNat) (lst mag place - place).toNat
  have k7 := rn_err (mag <<< (place - lst mag place).toNat) (lst mag place - place).toNat
  generalize lst mag place = L at *
  rw [Nat.shiftLeft_eq] at *
  generalize rn (mag * 2 ^ (place - L).toNat) (L - place).toNat = R at *
  generalize mag * 2 ^ (place - L).toNat / 2 ^ (L - place).toNat = Q at *
  have hR : R ≤ 2 ^ 53 := by omega
  have hu : (L + 1074).toNat ≤ 2022 := by omega
  have hu2 : (L + 1074).toNat * 2 ^ 52 ≤ 2022 * 2 ^ 52 := Nat.mul_le_mul_right _ hu
  have hr : (L + 1074).toNat * 2 ^ 52 + R < 0x7ff0000000000000 := by omega
  rw [Nat.min_eq_left (Nat.le_of_lt hr)]
  obtain ⟨m, i, hrd⟩ := read_word s _ hr
  have hv := read_uv _ _ _ _ hrd
  have hi := (read_place _ _ _ _ hrd).1
  rw [word_low s _ (by omega), uv_rung _ _ (by omega) hR] at hv
  have hq : (m : Rat) * tw i = (R : Rat) * tw L := by
    have e1 : tw i = ((2 ^ (i + 1074).toNat : Nat) : Rat) * tw (-1074) := by rw [← tw_nat, ← tw_add]; congr 1; omega
    have e2 : tw L = ((2 ^ (L + 1074).toNat : Nat) : Rat) * tw (-1074) := by rw [← tw_nat, ← tw_add]; congr 1; omega
    have e3 : (m : Rat) * ((2 ^ (i + 1074).toNat : Nat) : Rat) = (R : Rat) * ((2 ^ (L + 1074).toNat : Nat) : Rat) := by rw [← Rat.natCast_mul, ← Rat.natCast_mul, hv]
    rw [e1, e2, ← Rat.mul_assoc, ← Rat.mul_assoc, e3]
  refine ⟨sv s * ((R : Rat) * tw L), ⟨s, m, i, hrd, by unfold vl; rw [hq]⟩, ?_⟩
  have hc := tw_pos (L - ((L - place).toNat : Int))
  have eL : tw L = ((2 ^ (L - place).toNat : Nat) : Rat) * tw (L - ((L - place).toNat : Int)) := by rw [← tw_nat, ← tw_add]; congr 1; omega
  have eP : tw place = ((2 ^ (place - L).toNat : Nat) : Rat) * tw (L - ((L - place).toNat : Int)) := by rw [← tw_nat, ← tw_add]; congr 1; omega
  have herr : Ab ((R : Rat) * tw L - (mag : Rat) * tw place) (tw L / 2) := by
    have x1 := Rat.natCast_le_natCast.2 k7.1
    have x2 := Rat.natCast_le_natCast.2 k7.2
    simp only [Rat.natCast_add, Rat.natCast_mul] at x1 x2
    rw [eL, eP]
    generalize ((2 ^ (L - place).toNat : Nat) : Rat) = p at *
    generalize ((2 ^ (place - L).toNat : Nat) : Rat) = p' at *
    generalize tw (L - ((L - place).toNat : Int)) = c at *
    rw [show ((2 : Nat) : Rat) = 2 from rfl] at x1 x2
    have y1 := Rat.mul_le_mul_of_nonneg_right x1 (Rat.le_of_lt hc)
    have y2 := Rat.mul_le_mul_of_nonneg_right x2 (Rat.le_of_lt hc)
    constructor <;> grind -mbtc
  have hZ : 0 < (mag : Rat) * tw place := Rat.mul_pos (Rat.natCast_pos.2 (by omega)) (tw_pos _)
  by_cases hb : L = -1074
  · right
    have h1 : tw L / 2 ≤ et := by rw [hb]; decide +kernel
    have h2 := (sv_ab s).mul (herr.mono h1)
    refine (h2.eq ?_).mono (by grind)
    unfold vl
    grind
  · left
    have h1 : tw L ≤ ep * ((mag : Rat) * tw place) := by
      have e : tw L = tw place * (((2 ^ mag.log2 : Nat) : Rat) * tw (-52)) := by rw [← tw_nat, ← tw_add, ← tw_add]; congr 1; omega
      have h2 : ((2 ^ mag.log2 : Nat) : Rat) ≤ (mag : Rat) := Rat.natCast_le_natCast.2 (Nat.log2_self_le h0)
      have h3 : tw (-52) = ep := by decide +kernel
      rw [e, h3]
      have h4 := tw_pos place
      have h5 : 0 ≤ ep := by decide +kernel
      have h6 := Rat.mul_nonneg (a := (mag : Rat) - ((2 ^ mag.log2 : Nat) : Rat)) (b := tw place * ep) (by grind) (Rat.mul_nonneg (by grind) h5)
      grind
    have hi := inv_c _ (show (mag : Rat) * tw place ≠ 0 by grind)
    have hip := Rat.inv_pos.2 hZ
    unfold vl
    generalize (mag : Rat) * tw place = Z at *
    generalize (R : Rat) * tw L = q at *
    refine ⟨(q - Z) * Z⁻¹, ?_, ?_⟩
    · generalize Z⁻¹ = y at *
      have e : sv s * Z * (1 + (q - Z) * y) = sv s * (Z + (q - Z) * (Z * y)) := by clear hi; grind
      rw [e, hi]
      grind
    · have h2 : Ab (q - Z) (ep * Z / 2) := herr.mono (by grind)
      have h3 : Ab Z⁻¹ Z⁻¹ := by constructor <;> grind
      have h4 := h2.mul h3
      generalize Z⁻¹ = y at *
      have e : ep * Z / 2 * y = ep / 2 * (Z * y) := by clear hi; grind
      rw [e, hi] at h4
      exact h4.mono (by grind)
end Go.Proofs.Ytfjfpplemgjcmab
