/- Both series as floats reckon them. -/
import Derived.Test.YtfjfpplemgjcmabVg
namespace Go.Proofs.Ytfjfpplemgjcmab
open Go.RowKit Ieee An

theorem ne_of_ab {a b A : Rat} (h : Ab (a - b) A) (hb : A < b) : a ≠ 0 := by
  obtain ⟨h1, h2⟩ := h
  grind
theorem exS_v (rw r : _) (hV : V rw r) (hr : Ab r (7 / 20)) : ∀ n, n ≤ 14 → ∃ s S, exS (some rw) n = some s ∧ V s S ∧ Ab (S - exH r n) (6 * ep) ∧ Ab (exH r n) (16 / 10) := by
  obtain ⟨e1, e2, e3⟩ := ep_facts
  intro n
  induction n with
  | zero => exact fun _ => ⟨_, 1, rfl, v_one, by show Ab (1 - 1) _; constructor <;> grind, by show Ab 1 _; constructor <;> decide +kernel⟩
  | succ n ih =>
    intro hn
    obtain ⟨s, S, h1, h2, h3, h4⟩ := ih (by omega)
    have hS : Ab S (17 / 10) := ((h3.add h4).eq (by grind)).mono (by grind)
    have hrS := hr.mul hS
    obtain ⟨p, P, f1, f2, f3⟩ := mul_v hV h2 (hrS.mono (by decide +kernel))
    have hP : Ab P 1 := (((f3.ab hrS).add hrS).eq (by grind)).mono (by grind)
    have hj := iw_v (14 - (n : Int)) (by omega) (by omega)
    have ej : ((14 - (n : Int) : Int) : Rat) = ((14 - n : Nat) : Rat) := by
      rw [← Rat.intCast_natCast]
      congr 1
      omega
    rw [ej] at hj
    have hj1 := inv1 (14 - n) (by omega)
    have hj0 : ((14 - n : Nat) : Rat) ≠ 0 := by
      have : (0 : Rat) < ((14 - n : Nat) : Rat) := Rat.natCast_pos.2 (by omega)
      grind
    have hPj := hP.mul hj1
    obtain ⟨q, Q, g1, g2, g3⟩ := quo_v f2 hj hj0 (hPj.mono (by decide +kernel))
    have hQ : Ab Q 2 := (((g3.ab hPj).add hPj).eq (by grind)).mono (by grind)
    have h1Q : Ab (1 + Q) 3 := (Ab.add (x := 1) (A := 1) (by constructor <;> decide +kernel) hQ).mono (by decide +kernel)
    obtain ⟨t, T, k1, k2, k3⟩ := add_v v_one g2 (h1Q.mono (by decide +kernel))
    obtain ⟨l1, l2⟩ := exp_one r S (exH r n) _ P Q T hr h3 h4 hj1 f3 g3 k3
    refine ⟨t, T, ?_, k2, l1, l2⟩
    show fb .add (some 4607182418800017408) (fb .quo (fb .mul (some rw) (exS (some rw) n)) (some (iw (14 - (n : Int))))) = _
    rw [h1, f1, g1, k1]
theorem lnP_v (zw z z0 : _) (hV : V zw z) (hz : Ab (z - z0) ep) (hz0 : Ab z0 (7 / 100)) : ∀ n, n ≤ 12 → ∃ s S, lnP (some zw) n = some s ∧ V s S ∧ Ab (S - lnH z0 n) ep ∧ Ab (lnH z0 n) (1 / 10) := by
  obtain ⟨e1, e2, e3⟩ := ep_facts
  intro n
  induction n with
  | zero => exact fun _ => ⟨_, 0, rfl, v_zero, by show Ab (0 - 0) _; constructor <;> grind, by show Ab 0 _; constructor <;> decide +kernel⟩
  | succ n ih =>
    intro hn
    obtain ⟨s, S, h1, h2, h3, h4⟩ := ih (by omega)
    have hS : Ab S (2 / 10) := ((h3.add h4).eq (by grind)).mono (by grind)
    have hj := iw_v (2 * (12 - (n : Int)) + 1) (by omega) (by omega)
    have ej : ((2 * (12 - (n : Int)) + 1 : Int) : Rat) = ((2 * (12 - n) + 1 : Nat) : Rat) := by
      rw [← Rat.intCast_natCast]
      congr 1
      omega
    rw [ej] at hj
    have hj1 := inv3 (2 * (12 - n) + 1) (by omega)
    have hj0 : ((2 * (12 - n) + 1 : Nat) : Rat) ≠ 0 := by
      have : (0 : Rat) < ((2 * (12 - n) + 1 : Nat) : Rat) := Rat.natCast_pos.2 (by omega)
      grind
    have eone : (1 : Rat) * ((2 * (12 - n) + 1 : Nat) : Rat)⁻¹ = ((2 * (12 - n) + 1 : Nat) : Rat)⁻¹ := by grind
    obtain ⟨q, Q, g1, g2, g3⟩ := quo_v v_one hj hj0 (by rw [eone]; exact hj1.mono (by decide +kernel))
    rw [eone] at g3
    have hQ : Ab Q 1 := (((g3.ab hj1).add hj1).eq (by grind)).mono (by grind)
    have hQS := hQ.add hS
    obtain ⟨t, T, k1, k2, k3⟩ := add_v g2 h2 (hQS.mono (by decide +kernel))
    have hT : Ab T 2 := (((k3.ab hQS).add hQS).eq (by grind)).mono (by grind)
    have hzz : Ab z 1 := ((hz.add hz0).eq (by grind)).mono (by grind)
    obtain ⟨p, P, f1, f2, f3⟩ := mul_v hV k2 ((hzz.mul hT).mono (by decide +kernel))
    obtain ⟨l1, l2⟩ := ln_one z z0 S (lnH z0 n) _ Q T P hz hz0 h3 h4 hj1 g3 k3 f3
    refine ⟨p, P, ?_, f2, l1, l2⟩
    show fb .mul (some zw) (fb .add (fb .quo (some 4607182418800017408) (some (iw (2 * (12 - (n : Int)) + 1)))) (lnP (some zw) n)) = _
    rw [h1, g1, k1, f1]
theorem lnF_v (mw m : _) (hV : V mw m) (hm : Iv (7 / 10) (142 / 100) m) : ∃ y q, lnF (some mw) = some y ∧ V y q ∧ Ab (q - Lg m) (8 * ep) ∧ Ab (Lg m) 1 := by
  obtain ⟨e1, e2, e3⟩ := ep_facts
  have k0 : Ab (m - 1) (42 / 100) := by obtain ⟨a, b⟩ := hm; constructor <;> grind
  obtain ⟨tw', t, a1, a2, a3⟩ := sub_v hV v_one (k0.mono (by decide +kernel))
  have ht : Ab t (5 / 10) := (((a3.ab k0).add k0).eq (by grind)).mono (by grind)
  have h2t : Ab (2 + t) 3 := (Ab.add (x := 2) (A := 2) (by constructor <;> decide +kernel) ht).mono (by decide +kernel)
  obtain ⟨dw, D, b1, b2, b3⟩ := add_v v_two a2 (h2t.mono (by decide +kernel))
  have hD1 : 1 ≤ D := by have h1 := (b3.ab h2t).1; have h2 := ht.1; grind
  have hDi := inv_ab D 1 (by decide +kernel) hD1
  have htD := ht.mul hDi
  obtain ⟨sw, s, c1, c2, c3⟩ := quo_v a2 b2 (by grind) (htD.mono (by decide +kernel))
  have hs : Ab s 1 := (((c3.ab htD).add htD).eq (by grind)).mono (by
    rw [show (1 : Rat)⁻¹ = 1 by decide +kernel]
    grind)
  obtain ⟨zw, z, d1, d2, d3⟩ := mul_v c2 c2 ((hs.mul hs).mono (by decide +kernel))
  have h2s : Ab (2 * s) 2 := (Ab.mul (x := 2) (A := 2) (by constructor <;> decide +kernel) hs).mono (by decide +kernel)
  obtain ⟨ww, w, f1, f2, f3⟩ := mul_v v_two c2 (h2s.mono (by decide +kernel))
  obtain ⟨g1, g2, g3, g4, _⟩ := ln_head m t D s z w hm a3 b3 c3 d3 f3
  obtain ⟨pw, p, p1, p2, p3, p4⟩ := lnP_v zw z _ d2 g1 g2 12 (by decide)
  have hp : Ab p 1 := ((p3.add p4).eq (by grind)).mono (by grind)
  have hw : Ab w 3 := (((f3.ab h2s).add h2s).eq (by grind)).mono (by grind)
  obtain ⟨xw, x, x1, x2, x3⟩ := mul_v f2 p2 ((hw.mul hp).mono (by decide +kernel))
  have hx : Ab x 4 := (((x3.ab (hw.mul hp)).add (hw.mul hp)).eq (by grind)).mono (by grind)
  obtain ⟨yw, y, y1, y2, y3⟩ := add_v f2 x2 ((hw.add hx).mono (by decide +kernel))
  obtain ⟨q1, q2⟩ := ln_tail (sg m) w p (lnH (sg m * sg m) 12) x y g4 g3 p3 p4 x3 y3
  rw [lnH_end] at q1 q2
  refine ⟨yw, y, ?_, y2, q1, q2⟩
  have eT : lnT (some mw) = some tw' := a1
  have eS : lnS (some mw) = some sw := by unfold lnS; rw [eT, b1, c1]
  unfold lnF
  rw [eS, d1, f1, p1, x1, y1]
/-- The power's series, more closely. -/
theorem es_bd2 (r : Rat) (h : Ab r (7 / 20)) : Ab (Es 15 r - 1) (4195 / 10000) := (es_ab r _ h 14).mono (by decide +kernel)
theorem es_tail (r A : Rat) (h : Ab r A) (n : Nat) : ∀ k, Ab (Es (n + k) r - Es n r) (Es (n + k) A - Es n A)
  | 0 => by constructor <;> simp <;> grind
  | k + 1 => by
    have h1 := es_tail r A h n k
    have h2 : Ab (ic (n + k)) (ic (n + k)) := by have := ic_nn (n + k); constructor <;> grind
    have h3 := h2.mul (h.pow (n + k))
    show Ab (Es (n + k) r + ic (n + k) * r ^ (n + k) - Es n r) (Es (n + k) A + ic (n + k) * A ^ (n + k) - Es n A)
    exact ((h1.add h3).eq (by grind)).mono (by grind)
theorem es_low (r : Rat) (h : Ab r (7 / 20)) : 702 / 1000 ≤ Es 15 r := by
  have h1 := (es_tail r _ h 4 11).mono (B := 1 / 1000) (by decide +kernel)
  have h2 : Es 4 r = 1 + r + 1 / 2 * (r * r) + 1 / 6 * (r * r * r) := by
    have e : Es 4 r = 0 + ic 0 * r ^ 0 + ic 1 * r ^ 1 + ic 2 * r ^ 2 + ic 3 * r ^ 3 := rfl
    rw [e, show ic 0 = 1 by decide +kernel, show ic 1 = 1 by decide +kernel, show ic 2 = 1 / 2 by decide +kernel, show ic 3 = 1 / 6 by decide +kernel]
    grind
  have h3 : 703 / 1000 ≤ Es 4 r := by
    rw [h2]
    obtain ⟨a, b⟩ := h
    have s1 := sq_nn (r + 7 / 20)
    by_cases hn : 0 ≤ r
    · have s2 := Rat.mul_nonneg (Rat.mul_nonneg hn hn) hn
      have s3 := sq_nn r
      grind
    · have s2 := Rat.mul_nonneg (a := -r * (7 / 20 - r)) (b := r + 7 / 20) (Rat.mul_nonneg (by grind) (by grind)) (by grind)
      grind
  have := h1.1
  show _ ≤ Es (4 + 11) r
  grind
end Go.Proofs.Ytfjfpplemgjcmab
