/- A straight line between whole numbers keeps order and stays between its ends. -/
import Derived.Test.YtfjfpplemgjcmaaRq
import Derived.Test.YtfjfpplemgjcmaaCj
namespace Go.Proofs.Ytfjfpplemgjcmaa
open Go.RowKit Ieee

theorem pow_posI (e : Nat) : (0 : Int) < ((2 ^ e : Nat) : Int) := Int.natCast_pos.2 (Nat.two_pow_pos e)
theorem near_gen (m d e : Nat) (i : Int) (hi : -(e : Int) ≤ i) (h : ((m * 2 ^ (i + e).toNat : Nat) : Int) = (d : Int) * ((2 ^ e : Nat) : Int)) : Ieee.double.nearest false m i = Ieee.double.nearest false d 0 := by
  have hn : m * 2 ^ (i + e).toNat = d * 2 ^ e := by
    rw [← Int.natCast_mul] at h
    exact Int.natCast_inj.1 h
  have e1 : Ieee.double.nearest false (m <<< (i + e).toNat) (-(e : Int)) = Ieee.double.nearest false m i := by
    rw [nearest_shift]; congr 1; omega
  have e2 : Ieee.double.nearest false (d <<< e) (-(e : Int)) = Ieee.double.nearest false d 0 := by
    rw [nearest_shift]; congr 1; omega
  rw [← e1, ← e2, Nat.shiftLeft_eq, Nat.shiftLeft_eq, hn]
theorem mul_le_iff (a b P : Int) (hp : 0 < P) : a * P ≤ b * P ↔ a ≤ b := ⟨fun h => Int.le_of_mul_le_mul_right h hp, fun h => Int.mul_le_mul_of_nonneg_right h (Int.le_of_lt hp)⟩
theorem zero_mul_pos (D P : Int) (hp : 0 < P) (h : 0 < D) : 0 < D * P := Int.mul_pos h hp
theorem iw_facts (a : Int) (h1 : -9007199254740992 ≤ a) (h2 : a ≤ 9007199254740992) : iw a % 2 ^ 63 < 0x7ff0000000000000 ∧ vx (iw a) = a * ((2 ^ 1074 : Nat) : Int) ∧ cl (iw a) = some (iw a) := by
  obtain ⟨m, i, hr, hu, hf⟩ := iw_read a h1 h2
  obtain ⟨s, m', i', hr', hu', _⟩ := read_vx (iw a) hf
  rw [hr] at hr'
  injection hr' with e1 e2 e3
  subst e1 e2 e3
  exact ⟨hf, by rw [← hu', hu], cl_num (ky_fin _ hf).1⟩
theorem iw_ky (a b : Int) (ha1 : -9007199254740992 ≤ a) (ha2 : a ≤ 9007199254740992) (hb1 : -9007199254740992 ≤ b) (hb2 : b ≤ 9007199254740992) : ky (iw a) ≤ ky (iw b) ↔ a ≤ b := by
  obtain ⟨f1, v1, _⟩ := iw_facts a ha1 ha2
  obtain ⟨f2, v2, _⟩ := iw_facts b hb1 hb2
  rw [vx_le _ _ f1 f2, v1, v2]
  exact mul_le_iff a b _ (pow_posI 1074)
theorem ky_iw0 : ky (iw 0) = 0 := by rw [iw0]; decide
theorem ky_bound (a : Int) (h1 : -9007199254740992 ≤ a) (h2 : a ≤ 9007199254740992) : -(0x7ff0000000000000 : Int) < ky (iw a) ∧ ky (iw a) < 0x7ff0000000000000 := by
  have hf := (iw_facts a h1 h2).1
  have hk := (ky_fin _ hf).2
  rw [hk]
  unfold sv
  split <;> omega
theorem fin_of (z : Nat) (h1 : -(0x7ff0000000000000 : Int) < ky z) (h2 : ky z < 0x7ff0000000000000) : z % 2 ^ 63 < 0x7ff0000000000000 := by
  cases hn : nanB z
  · have hk : ky z = sv (sgn z) (z % 2 ^ 63) := if_neg (by rw [hn]; decide)
    rw [hk] at h1 h2
    cases hs : sgn z
    · rw [hs] at h1 h2
      have e : sv false (z % 2 ^ 63) = ((z % 2 ^ 63 : Nat) : Int) := rfl
      omega
    · rw [hs] at h1 h2
      have e : sv true (z % 2 ^ 63) = -((z % 2 ^ 63 : Nat) : Int) := rfl
      omega
  · rw [ky_nan z hn] at h1
    omega
theorem iw_near (D : Int) (h1 : 0 ≤ D) (h2 : D ≤ 9007199254740992) (m : Nat) (i : Int) (hr : Ieee.double.read (iw D) = .number false m i) : Ieee.double.nearest false m i = iw D := by
  have hp := (read_place _ _ _ _ hr).1
  obtain ⟨m', i', hr', hu, _⟩ := iw_read D (by omega) h2
  have hd : decide (D < 0) = false := decide_eq_false (by omega)
  rw [hd] at hr' hu
  rw [hr] at hr'
  injection hr' with _ e2 e3
  subst e2 e3
  unfold un at hu
  rw [signed_eq, if_neg (by decide), Int.one_mul] at hu
  obtain ⟨d, rfl⟩ : ∃ d : Nat, D = d := ⟨D.toNat, by omega⟩
  rw [near_gen m d 1074 i hp hu, iw_eq, decide_eq_false (by omega), Int.natAbs_natCast]
theorem iw_pos (D : Int) (h1 : 0 < D) (h2 : D ≤ 9007199254740992) : ∃ m i, Ieee.double.read (iw D) = .number false m i ∧ m ≠ 0 := by
  obtain ⟨m, i, hr, hu, _⟩ := iw_read D (by omega) h2
  rw [decide_eq_false (show ¬ D < 0 by omega)] at hr hu
  refine ⟨m, i, hr, fun h => ?_⟩
  subst h
  unfold un at hu
  rw [signed_eq, Nat.zero_mul] at hu
  have hz := zero_mul_pos D _ (pow_posI 1074) h1
  rw [← hu] at hz
  simp at hz
theorem rdOne' : Ieee.double.read 4607182418800017408 = .number false (2 ^ 52) (-52) := rdOne
theorem mul_one (D : Int) (h1 : 0 < D) (h2 : D ≤ 9007199254740992) : floatBits .mul .f64 (iw D) 4607182418800017408 = some (iw D) := by
  obtain ⟨m, i, hr, _⟩ := iw_pos D h1 h2
  have e : (4607182418800017408 : Nat) = p2 0 := by decide
  rw [e, mul_p2 (iw D) false m i 0 hr (by decide) (by decide), Int.add_zero, iw_near D (by omega) h2 m i hr]
theorem ky_one : ky 4607182418800017408 = 4607182418800017408 := by decide
/-- The line. -/
theorem line_ok (f b e s : Int) (r r' : Nat) (hfb : f < b) (hf : -4294967296 ≤ f) (hb : b ≤ 4294967296) (he : 0 ≤ e) (hes : e < s) (hs : s ≤ 4294967296) (hr : r % 2 ^ 63 < 0x7ff0000000000000) (hr' : r' % 2 ^ 63 < 0x7ff0000000000000) (h1 : ky (iw e) ≤ ky r) (h2 : ky r ≤ ky r') (h3 : ky r' ≤ ky (iw s)) :
    ∃ z z', lnK (some (iw b)) (some (iw s)) (some r) (some (iw f)) (some (iw e)) = some z ∧ lnK (some (iw b)) (some (iw s)) (some r') (some (iw f)) (some (iw e)) = some z' ∧ ky (iw f) ≤ ky z ∧ ky z ≤ ky z' ∧ ky z' ≤ ky (iw b) := by
  have fe := (iw_facts e (by omega) (by omega)).1
  have fs := (iw_facts s (by omega) (by omega)).1
  have ff := (iw_facts f (by omega) (by omega)).1
  have fD := (iw_facts (b - f) (by omega) (by omega)).1
  have fN := (iw_facts (s - e) (by omega) (by omega)).1
  have hD : floatBits .sub .f64 (iw b) (iw f) = some (iw (b - f)) := sub_iw b f (by omega) (by omega) (by omega) (by omega)
  have hN : floatBits .sub .f64 (iw s) (iw e) = some (iw (s - e)) := sub_iw s e (by omega) (by omega) (by omega) (by omega)
  have hE : floatBits .sub .f64 (iw e) (iw e) = some (iw 0) := by
    have := sub_iw e e (by omega) (by omega) (by omega) (by omega)
    rw [Int.sub_self] at this
    exact this
  obtain ⟨x0, x, a1, a2, a3⟩ := sub_mono (iw e) r (iw e) fe hr fe h1
  obtain ⟨x1, x', a4, a5, a6⟩ := sub_mono r r' (iw e) hr hr' fe h2
  obtain ⟨x2, x3, a7, a8, a9⟩ := sub_mono r' (iw s) (iw e) hr' fs fe h3
  rw [hE] at a1
  rw [hN] at a8
  rw [a2] at a4
  rw [a5] at a7
  cases a1; cases a4; cases a7; cases a8
  rw [ky_iw0] at a3
  have bN := ky_bound (s - e) (by omega) (by omega)
  have fx := fin_of x (by omega) (by omega)
  have fx' := fin_of x' (by omega) (by omega)
  obtain ⟨n, j, hnr, hn0⟩ := iw_pos (s - e) (by omega) (by omega)
  obtain ⟨t, t', b1, b2, b3, b4⟩ := quo_mono x x' (iw (s - e)) fx fx' a3 a6 n j hnr hn0
  obtain ⟨t2, t3, b5, b6, b7, _⟩ := quo_mono x' (iw (s - e)) (iw (s - e)) fx' fN (by omega) a9 n j hnr hn0
  rw [quo_self _ _ _ _ hnr hn0] at b6
  rw [b2] at b5
  cases b5; cases b6
  rw [ky_one] at b7
  have ft := fin_of t (by omega) (by omega)
  have ft' := fin_of t' (by omega) (by omega)
  have hD0 : 0 ≤ ky (iw (b - f)) := by
    have := (iw_ky 0 (b - f) (by omega) (by omega) (by omega) (by omega)).2 (by omega)
    rw [ky_iw0] at this
    exact this
  obtain ⟨y, y', _, c2, _, c4, c5, c6⟩ := mul_mono t t' (iw (b - f)) ft ft' b4 b3 fD hD0
  obtain ⟨y2, y3, _, c8, _, c10, c11, _⟩ := mul_mono t' 4607182418800017408 (iw (b - f)) ft' (by decide) (by omega) (by rw [ky_one]; exact b7) fD hD0
  rw [mul_one (b - f) (by omega) (by omega)] at c10
  rw [c4] at c8
  cases c8; cases c10
  have bD := ky_bound (b - f) (by omega) (by omega)
  have fy := fin_of y (by omega) (by omega)
  have fy' := fin_of y' (by omega) (by omega)
  have f0 := (iw_facts 0 (by decide) (by decide)).1
  have hA0 : floatBits .add .f64 (iw f) (iw 0) = some (iw f) := by
    have := add_iw f 0 (by omega) (by omega) (by omega) (by omega)
    rw [Int.add_zero] at this
    exact this
  have hAD : floatBits .add .f64 (iw f) (iw (b - f)) = some (iw b) := by
    have := add_iw f (b - f) (by omega) (by omega) (by omega) (by omega)
    rw [show f + (b - f) = b by omega] at this
    exact this
  obtain ⟨z0, z, d1, d2, d3⟩ := add_mono (iw f) (iw 0) y ff f0 fy (by rw [ky_iw0]; exact c6)
  obtain ⟨z1, z', d4, d5, d6⟩ := add_mono (iw f) y y' ff fy fy' c5
  obtain ⟨z2, z3, d7, d8, d9⟩ := add_mono (iw f) y' (iw (b - f)) ff fy' fD c11
  rw [hA0] at d1
  rw [hAD] at d8
  rw [d2] at d4
  rw [d5] at d7
  cases d1; cases d4; cases d7; cases d8
  refine ⟨z, z', ?_, ?_, d3, d6, d9⟩
  · show fb .add (some (iw f)) (fb .mul (fb .sub (some (iw b)) (some (iw f))) (fb .quo (fb .sub (some r) (some (iw e))) (fb .sub (some (iw s)) (some (iw e))))) = some z
    have e1 : fb .sub (some (iw b)) (some (iw f)) = some (iw (b - f)) := hD
    have e2 : fb .sub (some (iw s)) (some (iw e)) = some (iw (s - e)) := hN
    have e3 : fb .sub (some r) (some (iw e)) = some x := a2
    have e4 : fb .quo (some x) (some (iw (s - e))) = some t := b1
    have e5 : fb .mul (some (iw (b - f))) (some t) = some y := c2
    rw [e1, e2, e3, e4, e5]
    exact d2
  · show fb .add (some (iw f)) (fb .mul (fb .sub (some (iw b)) (some (iw f))) (fb .quo (fb .sub (some r') (some (iw e))) (fb .sub (some (iw s)) (some (iw e))))) = some z'
    have e1 : fb .sub (some (iw b)) (some (iw f)) = some (iw (b - f)) := hD
    have e2 : fb .sub (some (iw s)) (some (iw e)) = some (iw (s - e)) := hN
    have e3 : fb .sub (some r') (some (iw e)) = some x' := a5
    have e4 : fb .quo (some x') (some (iw (s - e))) = some t' := b2
    have e5 : fb .mul (some (iw (b - f))) (some t') = some y' := c4
    rw [e1, e2, e3, e4, e5]
    exact d5
end Go.Proofs.Ytfjfpplemgjcmaa
