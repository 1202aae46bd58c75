/- Floats keep order: differences, sums, products, quotients. -/
import Derived.Test.YtfjfpplemgjcmaaPt
import Derived.Test.YtfjfpplemgjcmaaOd
import Derived.Test.YtfjfpplemgjcmaaWi
namespace Go.Proofs.Ytfjfpplemgjcmaa
open Go.RowKit Ieee

/-- A rung, of nothing too. -/
def R (p : Int) (V : Nat) : Nat := if V = 0 then 0 else rung V p
theorem R_mono (p : Int) (a b : Nat) (h : a ≤ b) : R p a ≤ R p b := by
  unfold R
  by_cases ha : a = 0
  · rw [if_pos ha]; exact Nat.zero_le _
  · rw [if_neg ha, if_neg (by omega)]
    exact rung_mono a b p ha h
theorem R_le (p : Int) (V : Nat) : R p V ≤ 0x7ff0000000000000 := by
  unfold R
  split
  · exact Nat.zero_le _
  · rw [rung_eq]; exact Nat.min_le_right _ _
theorem ky_word (s : Bool) (r : Nat) (h : r ≤ 0x7ff0000000000000) : ky (Ieee.double.word s r) = sv s r := by
  have hi : Ieee.double.infRung = 0x7ff0000000000000 := by decide
  have hn := nanB_word s r (by rw [hi]; exact h)
  have hk : ky (Ieee.double.word s r) = sv (sgn (Ieee.double.word s r)) (Ieee.double.word s r % 2 ^ 63) := if_neg (by rw [hn]; decide)
  rw [hk, word_low s r (by omega)]
  congr 1
  have h5 : Ieee.double.signWeight = 2 ^ 63 := rfl
  unfold sgn Ieee.Format.word
  rw [h5]
  cases s
  · simp
    omega
  · simp
    omega
theorem ky_near (s : Bool) (mag : Nat) (p : Int) : ky (Ieee.double.nearest s mag p) = sv s (R p mag) := by
  by_cases h : mag = 0
  · subst h
    rw [nearest_zero, ky_word s 0 (by decide)]
    rfl
  · rw [nearest_rung s mag p h]
    have e : R p mag = rung mag p := if_neg h
    rw [e, ky_word s _ (by rw [← e]; exact R_le p mag)]
theorem sv_zero (s : Bool) : sv s 0 = 0 := by cases s <;> rfl
/-- Its value in units. -/
def vx (x : Nat) : Int := sv (sgn x) (uv (x % 2 ^ 63))
theorem ky_fin (x : Nat) (h : x % 2 ^ 63 < 0x7ff0000000000000) : nanB x = false ∧ ky x = sv (sgn x) (x % 2 ^ 63) := by
  have hn : nanB x = false := by rw [nanB_eq]; exact decide_eq_false (by omega)
  exact ⟨hn, if_neg (by rw [hn]; decide)⟩
theorem vx_le (x y : Nat) (hx : x % 2 ^ 63 < 0x7ff0000000000000) (hy : y % 2 ^ 63 < 0x7ff0000000000000) : ky x ≤ ky y ↔ vx x ≤ vx y := by
  rw [(ky_fin x hx).2, (ky_fin y hy).2]
  unfold vx
  have h := sv_uv (sgn y) (sgn x) (y % 2 ^ 63) (x % 2 ^ 63)
  constructor
  · intro h1
    refine Int.not_lt.1 fun h2 => ?_
    have := h.1 h2
    omega
  · intro h1
    refine Int.not_lt.1 fun h2 => ?_
    have := h.2 h2
    omega
theorem ky_wr (Z : Int) (s : Bool) : ky (wr Z s) = if Z < 0 then -(R (-1074) Z.natAbs : Int) else (R (-1074) Z.natAbs : Int) := by
  unfold wr
  rw [ky_near]
  by_cases h0 : Z = 0
  · subst h0
    rw [if_pos rfl, if_neg (by decide)]
    exact sv_zero s
  · rw [if_neg h0]
    by_cases hn : Z < 0
    · rw [if_pos hn, decide_eq_true hn]; rfl
    · rw [if_neg hn, decide_eq_false hn]; rfl
theorem wr_mono (Z Y : Int) (s t : Bool) (h : Z ≤ Y) : ky (wr Z s) ≤ ky (wr Y t) := by
  rw [ky_wr, ky_wr]
  by_cases h1 : Z < 0
  · rw [if_pos h1]
    by_cases h2 : Y < 0
    · rw [if_pos h2]
      have := R_mono (-1074) Y.natAbs Z.natAbs (by omega)
      omega
    · rw [if_neg h2]; omega
  · rw [if_neg h1, if_neg (by omega)]
    have := R_mono (-1074) Z.natAbs Y.natAbs (by omega)
    omega
theorem read_vx (x : Nat) (h : x % 2 ^ 63 < 0x7ff0000000000000) : ∃ s m i, Ieee.double.read x = .number s m i ∧ un s m i = vx x ∧ s = sgn x := by
  obtain ⟨s, m, i, hr⟩ := read_fin x h
  have := (read_sign x).1 s m i hr
  exact ⟨s, m, i, hr, this.2.1, this.1⟩
theorem sub_mono (x x' y : Nat) (hx : x % 2 ^ 63 < 0x7ff0000000000000) (hx' : x' % 2 ^ 63 < 0x7ff0000000000000) (hy : y % 2 ^ 63 < 0x7ff0000000000000) (h : ky x ≤ ky x') :
    ∃ z z', floatBits .sub .f64 x y = some z ∧ floatBits .sub .f64 x' y = some z' ∧ ky z ≤ ky z' := by
  obtain ⟨s, m, i, hr, hu, _⟩ := read_vx x hx
  obtain ⟨s', m', i', hr', hu', _⟩ := read_vx x' hx'
  obtain ⟨t, n, j, hr2, hu2, _⟩ := read_vx y hy
  refine ⟨_, _, sub_fin x y _ _ _ _ _ _ hr hr2, sub_fin x' y _ _ _ _ _ _ hr' hr2, wr_mono _ _ _ _ ?_⟩
  have := (vx_le x x' hx hx').1 h
  rw [hu, hu', hu2]
  omega
theorem add_mono (f x x' : Nat) (hf : f % 2 ^ 63 < 0x7ff0000000000000) (hx : x % 2 ^ 63 < 0x7ff0000000000000) (hx' : x' % 2 ^ 63 < 0x7ff0000000000000) (h : ky x ≤ ky x') :
    ∃ z z', floatBits .add .f64 f x = some z ∧ floatBits .add .f64 f x' = some z' ∧ ky z ≤ ky z' := by
  obtain ⟨s, m, i, hr, hu, _⟩ := read_vx x hx
  obtain ⟨s', m', i', hr', hu', _⟩ := read_vx x' hx'
  obtain ⟨t, n, j, hr2, hu2, _⟩ := read_vx f hf
  refine ⟨_, _, add_fin f x _ _ _ _ _ _ hr2 hr, add_fin f x' _ _ _ _ _ _ hr2 hr', wr_mono _ _ _ _ ?_⟩
  have := (vx_le x x' hx hx').1 h
  rw [hu, hu', hu2]
  omega
/-- Not below 0. -/
theorem pos_read (x : Nat) (h : x % 2 ^ 63 < 0x7ff0000000000000) (h0 : 0 ≤ ky x) : ∃ s m i, Ieee.double.read x = .number s m i ∧ m * 2 ^ (i + 1074).toNat = uv (x % 2 ^ 63) ∧ -1074 ≤ i ∧ m < 2 ^ 53 ∧ (m ≠ 0 → s = false) ∧ ky x = ((x % 2 ^ 63 : Nat) : Int) := by
  obtain ⟨s, m, i, hr, _, hs⟩ := read_vx x h
  have hp := read_place x s m i hr
  have hu := read_uv x s m i hr
  have hk := (ky_fin x h).2
  rw [← hs] at hk
  refine ⟨s, m, i, hr, hu, hp.1, hp.2, fun hm => ?_, ?_⟩
  · cases s
    · rfl
    · exfalso
      have e : ky x = -((x % 2 ^ 63 : Nat) : Int) := hk
      have h1 : x % 2 ^ 63 = 0 := by omega
      rw [h1] at hu
      have h00 : uv 0 = 0 := rfl
      rw [h00] at hu
      have := Nat.two_pow_pos (i + 1074).toNat
      rcases Nat.mul_eq_zero.1 hu with h2 | h2 <;> omega
  · cases s
    · exact hk
    · have e : ky x = -((x % 2 ^ 63 : Nat) : Int) := hk
      omega
theorem near_sv (s : Bool) (mag : Nat) (p : Int) (h : mag ≠ 0 → s = false) : ky (Ieee.double.nearest s mag p) = (R p mag : Int) := by
  rw [ky_near]
  by_cases h0 : mag = 0
  · subst h0
    have : R p 0 = 0 := if_pos rfl
    rw [this]; exact sv_zero s
  · rw [h h0]; rfl
/-- A product's rung. -/
theorem mul_ky (x c : Nat) (hx : x % 2 ^ 63 < 0x7ff0000000000000) (hx0 : 0 ≤ ky x) (sc : Bool) (n : Nat) (j : Int) (hc : Ieee.double.read c = .number sc n j) (hs : n ≠ 0 → sc = false) :
    ∃ z, floatBits .mul .f64 x c = some z ∧ floatBits .mul .f64 c x = some z ∧ ky z = (R (j - 1074) (uv (x % 2 ^ 63) * n) : Int) := by
  obtain ⟨s, m, i, hr, hu, hi, _, hsm, _⟩ := pos_read x hx hx0
  have e : Ieee.double.nearest (s ^^ sc) (m * n) (i + j) = Ieee.double.nearest (s ^^ sc) (uv (x % 2 ^ 63) * n) (j - 1074) := by
    have h1 : uv (x % 2 ^ 63) * n = (m * n) <<< (i + 1074).toNat := by rw [Nat.shiftLeft_eq, ← hu, Nat.mul_right_comm]
    rw [h1, nearest_shift]
    congr 1
    omega
  refine ⟨Ieee.double.nearest (s ^^ sc) (m * n) (i + j), ?_, ?_, ?_⟩
  · show ((Ieee.double.read x).product (Ieee.double.read c)).map Ieee.double.write = _
    rw [hr, hc]; rfl
  · show ((Ieee.double.read c).product (Ieee.double.read x)).map Ieee.double.write = _
    rw [hr, hc]
    show some (Ieee.double.nearest (sc ^^ s) (n * m) (j + i)) = _
    rw [Bool.xor_comm, Nat.mul_comm, Int.add_comm]
  · rw [e]
    refine near_sv _ _ _ fun h => ?_
    have hn : n ≠ 0 := fun h0 => h (by rw [h0, Nat.mul_zero])
    have hm : m ≠ 0 := fun h0 => h (by rw [← hu, h0, Nat.zero_mul, Nat.zero_mul])
    rw [hs hn, hsm hm]; rfl
theorem mul_mono (x x' c : Nat) (hx : x % 2 ^ 63 < 0x7ff0000000000000) (hx' : x' % 2 ^ 63 < 0x7ff0000000000000) (hx0 : 0 ≤ ky x) (h : ky x ≤ ky x') (hc : c % 2 ^ 63 < 0x7ff0000000000000) (hc0 : 0 ≤ ky c) :
    ∃ z z', floatBits .mul .f64 x c = some z ∧ floatBits .mul .f64 c x = some z ∧ floatBits .mul .f64 x' c = some z' ∧ floatBits .mul .f64 c x' = some z' ∧ ky z ≤ ky z' ∧ 0 ≤ ky z := by
  obtain ⟨sc, n, j, hr, _, _, _, hs, _⟩ := pos_read c hc hc0
  obtain ⟨z, h1, h2, h3⟩ := mul_ky x c hx hx0 sc n j hr hs
  obtain ⟨z', h1', h2', h3'⟩ := mul_ky x' c hx' (by omega) sc n j hr hs
  refine ⟨z, z', h1, h2, h1', h2', ?_, by omega⟩
  obtain ⟨_, _, _, _, _, _, _, _, e⟩ := pos_read x hx hx0
  obtain ⟨_, _, _, _, _, _, _, _, e'⟩ := pos_read x' hx' (by omega)
  rw [e, e'] at h
  have hm := uv_mono (x % 2 ^ 63) (x' % 2 ^ 63) (by omega)
  have := R_mono (j - 1074) _ _ (Nat.mul_le_mul_right n hm)
  omega
end Go.Proofs.Ytfjfpplemgjcmaa
