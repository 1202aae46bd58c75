/- Ln of Exp. -/
import Derived.Test.YtfjfpplemgjcmabVi
namespace Go.Proofs.Ytfjfpplemgjcmab
open Go.RowKit Ieee An

theorem prt_norm (x : Nat) (h1 : 2 ^ 52 ≤ x) (hx : x < 0x7ff0000000000000) : ∃ (M : Nat) (P : Int), 2 ^ 52 ≤ M ∧ M < 2 ^ 53 ∧ -1074 ≤ P ∧ P ≤ 971 ∧ V x ((M : Rat) * tw P) ∧ Prt x (Ieee.double.nearest false M (qs M)) (P - qs M) := by
  have h := nm_normal x (by omega) hx
  generalize hM : 2 ^ 52 + x % 2 ^ 52 = M at h
  generalize hP : ((x / 2 ^ 52 : Nat) : Int) - 1075 = P at h
  have hl := (half_cmp M (qs M) h.1 h.2.1 (by unfold qs; split <;> decide)).2.2
  have hx2 : x = Ieee.double.nearest false M P := by
    rw [near_norm M P h.1 h.2.1 (by omega) h.2.2.1]
    omega
  refine ⟨M, P, h.1, h.2.1, by omega, h.2.2.1, ?_, by omega, parts_norm x M P hx h (by omega) (by omega) hx2, rparts_any x M P hx h⟩
  have hlog := log2_52 M h.1 h.2.1
  have hv := near_exact false M P h.2.1 (by omega) (fun _ => by rw [hlog]; have := h.2.2.1; omega)
  rw [← hx2] at hv
  have e : vl false M P = (M : Rat) * tw P := by show 1 * _ = _; grind
  rw [e] at hv
  exact hv
theorem abs_v {x : Nat} {a : Rat} (hx : V x a) : ∃ A, V (x % 9223372036854775808) A ∧ 0 ≤ A ∧ Ab a A ∧ (A = a ∨ A = -a) := by
  obtain ⟨s, m, i, hr, rfl⟩ := hx
  have h0 : 0 ≤ (m : Rat) * tw i := Rat.mul_nonneg Rat.natCast_nonneg (Rat.le_of_lt (tw_pos i))
  refine ⟨(m : Rat) * tw i, ⟨false, m, i, ?_, by show _ = 1 * _; grind⟩, h0, ?_, ?_⟩
  · have hsw : Ieee.double.signWeight = 9223372036854775808 := by decide
    unfold Format.read at hr ⊢
    simp only [hsw] at hr ⊢
    have e1 : x % 9223372036854775808 / 9223372036854775808 = 0 := by omega
    rw [Nat.mod_mod, e1]
    split at hr
    · rename_i hb
      rw [if_pos hb]
      cases hr
      rfl
    · rename_i hb
      rw [if_neg hb]
      split at hr
      · rename_i hb2
        rw [if_pos hb2]
        cases hr
        rfl
      · split at hr <;> cases hr
  · unfold vl
    cases s
    · show Ab (1 * _) _; constructor <;> grind
    · show Ab (-1 * _) _; constructor <;> grind
  · unfold vl
    cases s
    · left; show _ = 1 * _; grind
    · right; show _ = -(-1 * _); grind
theorem m_range (M : Nat) (h1 : 2 ^ 52 ≤ M) (h2 : M < 2 ^ 53) : Iv (7071 / 10000) (14143 / 10000) ((M : Rat) * tw (qs M)) := by
  unfold qs
  have a1 : (4503599627370496 : Rat) ≤ (M : Rat) := Rat.natCast_le_natCast.2 h1
  have a2 : (M : Rat) ≤ 9007199254740992 := Rat.natCast_le_natCast.2 (Nat.le_of_lt h2)
  split
  · rename_i h
    have a3 : (M : Rat) ≤ 6369051672525773 := Rat.natCast_le_natCast.2 (Nat.le_of_lt h)
    rw [show tw (-52) = 1 / 4503599627370496 by decide +kernel]
    constructor <;> grind
  · rename_i h
    have a3 : (6369051672525773 : Rat) ≤ (M : Rat) := Rat.natCast_le_natCast.2 (show 6369051672525773 ≤ M by omega)
    rw [show tw (-53) = 1 / 9007199254740992 by decide +kernel]
    constructor <;> grind
theorem pow_ways (S m : Rat) (K e : Int) (hS1 : 7 / 10 ≤ S) (hS2 : S ≤ 142 / 100) (hm : Iv (7071 / 10000) (14143 / 10000) m) (h : m * tw e = S * tw K) :
    (e = K ∧ m = S) ∨ (e = K + 1 ∧ m = 1 / 2 * S) ∨ (e = K - 1 ∧ S = 1 / 2 * m) := by
  obtain ⟨m1, m2⟩ := hm
  have pe := tw_pos e
  have pK := tw_pos K
  have b1 : e ≤ K + 1 := by
    apply Classical.byContradiction
    intro hn
    obtain ⟨k, hk⟩ : ∃ k : Nat, e = K + 2 + (k : Int) := ⟨(e - K - 2).toNat, by omega⟩
    have h1 : (1 : Rat) ≤ ((2 ^ k : Nat) : Rat) := Rat.natCast_le_natCast.2 (Nat.two_pow_pos k)
    rw [hk, tw_add, tw_add, tw_nat, show tw 2 = 4 by decide +kernel] at h
    have h2 := Rat.mul_nonneg (a := tw K) (b := ((2 ^ k : Nat) : Rat) - 1) (by grind) (by grind)
    have h3 := mul_mono (a := 7071 / 10000) (b := tw K * 4) (A := m) (B := tw K * 4 * ((2 ^ k : Nat) : Rat)) (by decide +kernel) (by grind) m1 (by grind)
    have h4 := Rat.mul_nonneg (a := 142 / 100 - S) (b := tw K) (by grind) (by grind)
    grind
  have b2 : K ≤ e + 1 := by
    apply Classical.byContradiction
    intro hn
    obtain ⟨k, hk⟩ : ∃ k : Nat, K = e + 2 + (k : Int) := ⟨(K - e - 2).toNat, by omega⟩
    have h1 : (1 : Rat) ≤ ((2 ^ k : Nat) : Rat) := Rat.natCast_le_natCast.2 (Nat.two_pow_pos k)
    rw [hk, tw_add, tw_add, tw_nat, show tw 2 = 4 by decide +kernel] at h
    have h2 := Rat.mul_nonneg (a := tw e) (b := ((2 ^ k : Nat) : Rat) - 1) (by grind) (by grind)
    have h3 := mul_mono (a := 7 / 10) (b := tw e * 4) (A := S) (B := tw e * 4 * ((2 ^ k : Nat) : Rat)) (by decide +kernel) (by grind) hS1 (by grind)
    have h4 := Rat.mul_nonneg (a := 14143 / 10000 - m) (b := tw e) (by grind) (by grind)
    grind
  have canc : ∀ (u v c : Rat), 0 < c → u * c = v * c → u = v := fun u v c hc h => by
    have hi := inv_c c (by grind)
    generalize c⁻¹ = y at hi
    have h2 : u * (c * y) = v * (c * y) := by rw [← Rat.mul_assoc, ← Rat.mul_assoc, h]
    rw [hi] at h2
    grind
  rcases (show e = K ∨ e = K + 1 ∨ e = K - 1 by omega) with rfl | rfl | rfl
  · exact .inl ⟨rfl, canc _ _ _ pe h⟩
  · right; left
    rw [tw_add, show tw 1 = 2 by decide +kernel] at h
    exact ⟨rfl, canc _ _ _ pK (by grind)⟩
  · right; right
    rw [show K - 1 = -1 + K by omega, tw_add, show tw (-1) = 1 / 2 by decide +kernel] at h
    exact ⟨rfl, canc _ _ _ pK (by grind)⟩
/-- What the law asks for. -/
theorem back_v {x : Nat} {a : Rat} (hx : V x a) (h7 : Ab a 700) : ∃ (y mw z d g1 g2 : Nat) (e : Int), expF x = some y ∧ y ≠ 0 ∧ y < 0x7ff0000000000000 ∧ Prt y mw e ∧ lnC mw e = some z ∧ fb .sub (some z) (some x) = some d ∧
    fb .add (some 4607182418800017408) (some (x % 9223372036854775808)) = some g1 ∧ fb .mul (some 4412443251819771522) (some g1) = some g2 ∧ FloatKind.f64.format.order (d % 9223372036854775808) g2 ≠ some .gt ∧ nanB d = false ∧ nanB g1 = false ∧ nanB g2 = false := by
  obtain ⟨e1, e2, e3⟩ := ep_facts
  obtain ⟨q1, q2, q3, q4, q5, -, -⟩ := l_facts
  obtain ⟨X, hXv, hX0, hX, hXa⟩ := abs_v hx
  have hX7 : X ≤ 700 := by obtain ⟨u, v⟩ := h7; grind
  have hXe : 0 ≤ X * ep := Rat.mul_nonneg hX0 (by grind)
  have hXl : X * ep ≤ 700 * ep := by have := Rat.mul_nonneg (a := 700 - X) (b := ep) (by grind) (by grind); grind
  obtain ⟨y, K, S, r, hE, hy1, hy2, hyv, r1, r2, r3, s3⟩ := exp_v hx hX hX7
  obtain ⟨M, P, hM1, hM2, hP1, hP2, hxv, hprt⟩ := prt_norm y hy1 hy2
  have hlo := es_low r r1
  have hup := (es_bd2 r r1).2
  have hS1 : 7 / 10 ≤ S := by have := s3.1; grind
  have hS2 : S ≤ 142 / 100 := by have := s3.2; grind
  have hm := m_range M hM1 hM2
  have hq : -53 ≤ qs M ∧ qs M ≤ -52 := by unfold qs; split <;> decide
  have hmv : V (Ieee.double.nearest false M (qs M)) ((M : Rat) * tw (qs M)) := by
    have h := near_exact false M (qs M) hM2 (by omega) (fun _ => by rw [log2_52 M hM1 hM2]; omega)
    have e : vl false M (qs M) = (M : Rat) * tw (qs M) := by show 1 * _ = _; grind
    rw [e] at h
    exact h
  have hrel : (M : Rat) * tw (qs M) * tw (P - qs M) = S * tw K := by
    rw [← hyv.uniq hxv |>.symm, Rat.mul_assoc, ← tw_add]
    congr 2
    omega
  generalize (M : Rat) * tw (qs M) = m at *
  generalize Ieee.double.nearest false M (qs M) = mw at *
  generalize P - qs M = e at *
  have hw := pow_ways S m K e hS1 hS2 hm hrel
  have heK : Ab (e : Rat) (145 / 100 * X + 2) := by
    have : (e : Rat) = K ∨ (e : Rat) = K + 1 ∨ (e : Rat) = K - 1 := by
      rcases hw with ⟨h, _⟩ | ⟨h, _⟩ | ⟨h, _⟩
      · left; rw [h]
      · right; left; rw [h, Rat.intCast_add]; rfl
      · right; right; rw [h, Rat.intCast_sub]; rfl
    obtain ⟨u, v⟩ := r3
    constructor <;> grind
  have hway := lg_way S m K e ⟨by grind, by grind⟩ hm (by
    rcases hw with ⟨h, h'⟩ | ⟨h, h'⟩ | ⟨h, h'⟩
    · left; exact ⟨by rw [h], h'⟩
    · right; left; exact ⟨by rw [h, Rat.intCast_add]; rfl, h'⟩
    · right; right; exact ⟨by rw [h, Rat.intCast_sub]; rfl, h'⟩) (fun _ => hS2) (fun he => by
    rcases hw with ⟨h, h'⟩ | ⟨h, h'⟩ | ⟨h, h'⟩
    · rw [h] at he; grind
    · rw [h, Rat.intCast_add] at he
      have : (K : Rat) + 1 = K - 1 := he
      grind
    · grind)
  have he1 : Ab (e : Rat) 1100 := heK.mono (by grind)
  have hei : -1101 ≤ e ∧ e ≤ 1101 := by
    constructor
    · apply Rat.intCast_le_intCast.1
      have := he1.1
      show (-1101 : Rat) ≤ _
      grind
    · apply Rat.intCast_le_intCast.1
      have := he1.2
      show _ ≤ (1101 : Rat)
      grind
  have hev := iw_v e (by omega) (by omega)
  obtain ⟨lw, L, l1, l2, l3, l4⟩ := lnF_v mw m hmv (by obtain ⟨u, v⟩ := hm; constructor <;> grind)
  have t1 := he1.mul q1
  obtain ⟨c1w, c1, a1, a2, a3⟩ := mul_v hev v_hi (t1.mono (by decide +kernel))
  have t2 := he1.mul q2
  obtain ⟨c2w, c2, a4, a5, a6⟩ := mul_v hev v_lo (t2.mono (by decide +kernel))
  have t3 : Ab c1 1000 := (((a3.ab t1).add t1).eq (by grind)).mono (by grind)
  have t4 : Ab c2 1 := (((a6.ab t2).add t2).eq (by grind)).mono (by grind)
  have t5 : Ab L 2 := ((l3.add l4).eq (by grind)).mono (by grind)
  obtain ⟨c3w, c3, b1, b2, b3⟩ := add_v l2 a5 ((t5.add t4).mono (by decide +kernel))
  have t6 : Ab c3 4 := (((b3.ab (t5.add t4)).add (t5.add t4)).eq (by grind)).mono (by grind)
  obtain ⟨zw, z, b4, b5, b6⟩ := add_v a2 b2 ((t3.add t6).mono (by decide +kernel))
  have hz := ln_put X e (Lg m) L c1 c2 c3 z heK hX0 hX7 l3 l4 a3 a6 b3 b6
  have hzx := all_put a X K e r S m z hX r1 r2 s3 hway hz
  have t7 : Ab (z - a) 1 := hzx.mono (by grind)
  obtain ⟨dw, d, d1, d2, d3⟩ := sub_v b5 hx (t7.mono (by decide +kernel))
  have t8 : Ab (1 + X) 701 := by constructor <;> grind
  obtain ⟨g1w, g1, f1, f2, f3⟩ := add_v v_one hXv (t8.mono (by decide +kernel))
  have t9 : Ab g1 800 := (((f3.ab t8).add t8).eq (by grind)).mono (by grind)
  have h13 : Ab v13 1 := by constructor <;> decide +kernel
  obtain ⟨g2w, g2, f4, f5, f6⟩ := mul_v v_13 f2 ((h13.mul t9).mono (by decide +kernel))
  have hfin := goal_put a X z d g1 g2 hX hX7 hzx d3 f3 f6
  obtain ⟨D, hD1, hD2, hD3, hD4⟩ := abs_v d2
  refine ⟨y, mw, zw, dw, g1w, g2w, e, hE, by omega, hy2, hprt, ?_, d1, f1, f4, fun hgt => ?_, v_num d2, v_num f2, v_num f5⟩
  · unfold lnC
    rw [cl_num (v_num hmv), l1, a1, a4, b1, b4]
  · have := (ord_v hD1 f5).1.1 hgt
    grind
end Go.Proofs.Ytfjfpplemgjcmab
