/- Exp and Ln as rational numbers tell them. -/
import Derived.Test.YtfjfpplemgjcmabVh
namespace Go.Proofs.Ytfjfpplemgjcmab
open Go.RowKit Ieee An

theorem ord_v {x t : Nat} {a b : Rat} (hx : V x a) (ht : V t b) : (FloatKind.f64.format.order x t = some .gt ↔ b < a) ∧ (FloatKind.f64.format.order x t = some .lt ↔ a < b) := by
  obtain ⟨s, m, i, hr, rfl⟩ := hx
  obtain ⟨s', m', i', hr', rfl⟩ := ht
  have h := ord_bd x t s m i s' m' i' hr hr'
  have hc := tw_pos (-1074)
  have e : ∀ p q : Int, (p < q ↔ (p : Rat) * tw (-1074) < (q : Rat) * tw (-1074)) := fun p q => by rw [Rat.mul_lt_mul_right hc, Rat.intCast_lt_intCast]
  rw [e, e, un_vl s m i (read_place _ _ _ _ hr).1, un_vl s' m' i' (read_place _ _ _ _ hr').1] at h
  exact h
theorem v_num {x : Nat} {a : Rat} (hx : V x a) : nanB x = false := by
  obtain ⟨s, m, i, hr, _⟩ := hx
  unfold nanB
  rw [hr]
  rfl
theorem v_top : V 4649454530587146735 (vl false 6243314768165359 (-43)) := ⟨_, _, _, rdTop, rfl⟩
theorem v_low : V 13873137513782915154 (vl true 6554261109157970 (-43)) := ⟨_, _, _, rdLow, rfl⟩
theorem exp_v {x : Nat} {a X : Rat} (hx : V x a) (hX : Ab a X) (hX7 : X ≤ 700) : ∃ (y : Nat) (K : Int) (S r : Rat), expF x = some y ∧ 2 ^ 52 ≤ y ∧ y < 0x7ff0000000000000 ∧ V y (S * tw K) ∧
    Ab r (7 / 20) ∧ Ab (r - (a - (K : Rat) * (lHi + lLo))) (6 * (1 + X) * ep) ∧ Ab (K : Rat) (145 / 100 * X + 1) ∧ Ab (S - Es 15 r) (6 * ep) := by
  obtain ⟨e1, e2, e3⟩ := ep_facts
  obtain ⟨q1, q2, q3, q4, q5, -, -⟩ := l_facts
  have hX0 := hX.nn
  have hXe : 0 ≤ X * ep := Rat.mul_nonneg hX0 (by grind)
  have hXl : X * ep ≤ 700 * ep := by have := Rat.mul_nonneg (a := 700 - X) (b := ep) (by grind) (by grind); grind
  have h7 : Ab a 700 := hX.mono hX7
  have g1 : FloatKind.f64.format.order x 4649454530587146735 ≠ some .gt := fun h => by
    have h1 := (ord_v hx v_top).1.1 h
    have h2 : 700 < vl false 6243314768165359 (-43) := by decide +kernel
    have h3 := h7.2
    grind
  have g2 : FloatKind.f64.format.order x 13873137513782915154 ≠ some .lt := fun h => by
    have h1 := (ord_v hx v_low).2.1 h
    have h2 : vl true 6554261109157970 (-43) < -700 := by decide +kernel
    have h3 := h7.1
    grind
  obtain ⟨y1, y2, K, f1, f2, hK, _, _, n1, n2, hE⟩ := exp_parts x (v_num hx) g1 g2
  have k1 := h7.mul q3
  obtain ⟨y1', a1, m1, m2, m3⟩ := mul_v hx v_inv (k1.mono (by decide +kernel))
  have hy1 : y1' = y1 := Option.some.inj (m1.symm.trans f1)
  subst hy1
  have k2 : Ab a1 2000 := (((m3.ab k1).add k1).eq (by grind)).mono (by grind)
  have k3 : Ab (a1 + 1 / 2) 2001 := (k2.add (y := 1 / 2) (B := 1) (by constructor <;> decide +kernel)).mono (by grind)
  obtain ⟨y2', a2, m4, m5, m6⟩ := add_v m2 v_half (k3.mono (by decide +kernel))
  have hy2 : y2' = y2 := Option.some.inj (m4.symm.trans f2)
  subst hy2
  have k4 : Ab a2 2003 := (((m6.ab k3).add k3).eq (by grind)).mono (by grind)
  obtain ⟨j1, j2, j3⟩ := flr_v m5 K hK (k4.mono (by decide +kernel))
  have hKb : Ab (K : Rat) 2004 := by obtain ⟨u, v⟩ := k4; constructor <;> grind
  rw [cl_num (v_num hx), cl_num (v_num j1)] at hE
  have t1 := hKb.mul q1
  obtain ⟨b1w, b1, c1, c2, c3⟩ := mul_v j1 v_hi (t1.mono (by decide +kernel))
  have t2 : Ab b1 1400 := (((c3.ab t1).add t1).eq (by grind)).mono (by grind)
  have t3 := h7.sub t2
  obtain ⟨b2w, b2, c4, c5, c6⟩ := sub_v hx c2 (t3.mono (by decide +kernel))
  have t4 := hKb.mul q2
  obtain ⟨b3w, b3, d1, d2, d3⟩ := mul_v j1 v_lo (t4.mono (by decide +kernel))
  have t5 : Ab b2 2102 := (((c6.ab t3).add t3).eq (by grind)).mono (by grind)
  have t6 : Ab b3 1 := (((d3.ab t4).add t4).eq (by grind)).mono (by grind)
  obtain ⟨rw', r, d4, d5, d6⟩ := sub_v c5 d2 ((t5.sub t6).mono (by decide +kernel))
  obtain ⟨r1, r2, r3⟩ := red a X K a1 a2 b1 b2 b3 r hX hX7 m3 m6 j2 j3 c3 c6 d3 d6
  obtain ⟨sw, S, s1, s2, s3, _⟩ := exS_v rw' r d5 r1 14 (by decide)
  rw [exH_end] at s3
  rw [c1, c4, d1, d4, s1] at hE
  have hlo := es_low r r1
  have hup := (es_bd2 r r1).2
  have hS1 : 7 / 10 ≤ S := by have := s3.1; grind
  have hS2 : S ≤ 142 / 100 := by have := s3.2; grind
  obtain ⟨sg', m, i, hr, hv⟩ := s2
  have hpi := tw_pos i
  have hm0 : (0 : Rat) ≤ (m : Rat) := Rat.natCast_nonneg
  have hmi := Rat.mul_nonneg hm0 (Rat.le_of_lt hpi)
  cases sg' with
  | true =>
    have : S = -1 * ((m : Rat) * tw i) := hv
    grind
  | false =>
  have hv' : S = (m : Rat) * tw i := by rw [hv]; show 1 * _ = _; grind
  obtain ⟨hi74, hm53⟩ := read_place _ _ _ _ hr
  have hne : m ≠ 0 := by
    intro h
    rw [h] at hv'
    have : S = 0 * tw i := hv'
    grind
  have hil : -54 ≤ i := by
    apply tw_le
    have h1 : (m : Rat) ≤ 9007199254740992 := Rat.natCast_le_natCast.2 (Nat.le_of_lt hm53)
    have h2 := Rat.mul_nonneg (a := 9007199254740992 - (m : Rat)) (b := tw i) (by grind) (by grind)
    have h3 : tw (-54) = 1 / 18014398509481984 := by decide +kernel
    rw [h3]
    grind
  have hiu : i + (m.log2 : Int) ≤ 1 := by
    apply tw_le
    rw [tw_add, tw_nat]
    have h2 : ((2 ^ m.log2 : Nat) : Rat) ≤ (m : Rat) := Rat.natCast_le_natCast.2 (Nat.log2_self_le hne)
    have h4 := Rat.mul_nonneg (a := (m : Rat) - ((2 ^ m.log2 : Nat) : Rat)) (b := tw i) (by grind) (by grind)
    have h5 : tw 1 = 2 := by decide +kernel
    grind
  have hKi : -1017 ≤ K ∧ K ≤ 1017 := by
    have h1 : Ab (K : Rat) 1016 := r3.mono (by grind)
    constructor
    · apply Rat.intCast_le_intCast.1
      have := h1.1
      show (-1017 : Rat) ≤ _
      grind
    · apply Rat.intCast_le_intCast.1
      have := h1.2
      show _ ≤ (1017 : Rat)
      grind
  have hy := near_exact false m (i + K) hm53 (by omega) (fun _ => by omega)
  have hlt : Ieee.double.nearest false m (i + K) < 0x7ff0000000000000 := by
    obtain ⟨k, _, _, h⟩ := read_near false m (i + K) hne hm53 (by omega) (by omega)
    rw [nearest_rung _ _ _ hne, word_pos, rung_eq] at h ⊢
    rw [Nat.mod_eq_of_lt (Nat.lt_of_le_of_lt (Nat.min_le_right _ _) (by decide))] at h
    exact h
  have hyv : vl false m (i + K) = S * tw K := by
    rw [hv']
    unfold vl
    rw [tw_add]
    show 1 * _ = _
    grind
  rw [hyv] at hy
  have hE2 : expF x = some (Ieee.double.nearest false m (i + K)) := by
    rw [hE]
    unfold scC
    rw [Option.bind_some, hr]
  refine ⟨_, K, S, r, hE2, ?_, hlt, hy, r1, r2, r3, s3⟩
  apply Classical.byContradiction
  intro hsm
  have hsm : Ieee.double.nearest false m (i + K) < 2 ^ 52 := by omega
  obtain ⟨m', i', hr', hu⟩ := read_pos _ hlt
  have hv2 := hy.uniq ⟨_, _, _, hr', rfl⟩
  rw [← un_vl _ _ _ (read_place _ _ _ _ hr').1, hu] at hv2
  unfold uv at hv2
  rw [if_pos hsm, Rat.intCast_natCast] at hv2
  generalize Ieee.double.nearest false m (i + K) = y at *
  have h1 : (y : Rat) ≤ 4503599627370496 := Rat.natCast_le_natCast.2 (Nat.le_of_lt hsm)
  have hp := tw_pos (-1074)
  have h2 := Rat.mul_nonneg (a := 4503599627370496 - (y : Rat)) (b := tw (-1074)) (by grind) (by grind)
  have h3 : (4503599627370496 : Rat) * tw (-1074) = tw (-1022) := by decide +kernel
  have hpK := tw_pos K
  have h4 := Rat.mul_nonneg (a := S - 1 / 2) (b := tw K) (by grind) (by grind)
  have h5 : tw (K - 1) = 1 / 2 * tw K := by
    rw [show K - 1 = -1 + K by omega, tw_add, show tw (-1) = 1 / 2 by decide +kernel]
  have h6 : tw (K - 1) ≤ tw (-1022) := by
    rw [h5]
    grind
  have := tw_le _ _ h6
  omega
end Go.Proofs.Ytfjfpplemgjcmab
