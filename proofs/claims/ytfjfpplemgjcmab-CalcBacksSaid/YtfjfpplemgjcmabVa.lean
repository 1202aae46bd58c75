/- Rational numbers: slopes, and ways that are no longer than they allow. -/
namespace Go.Proofs.Ytfjfpplemgjcmab.An
/-- x is at most A away from nought. -/
def Ab (x A : Rat) : Prop := -A ≤ x ∧ x ≤ A
theorem Ab.nn {x A : Rat} (h : Ab x A) : 0 ≤ A := by
  obtain ⟨h1, h2⟩ := h
  grind
theorem Ab.mono {x A B : Rat} (h : Ab x A) (hb : A ≤ B) : Ab x B := by
  obtain ⟨h1, h2⟩ := h
  constructor <;> grind
theorem Ab.mul {x y A B : Rat} (hx : Ab x A) (hy : Ab y B) : Ab (x * y) (A * B) := by
  obtain ⟨h1, h2⟩ := hx
  obtain ⟨h3, h4⟩ := hy
  have e1 : 0 ≤ (A - x) * (B + y) := Rat.mul_nonneg (by grind) (by grind)
  have e2 : 0 ≤ (A + x) * (B - y) := Rat.mul_nonneg (by grind) (by grind)
  have e3 : 0 ≤ (A - x) * (B - y) := Rat.mul_nonneg (by grind) (by grind)
  have e4 : 0 ≤ (A + x) * (B + y) := Rat.mul_nonneg (by grind) (by grind)
  constructor <;> grind
theorem Ab.add {x y A B : Rat} (hx : Ab x A) (hy : Ab y B) : Ab (x + y) (A + B) := by
  obtain ⟨h1, h2⟩ := hx
  obtain ⟨h3, h4⟩ := hy
  constructor <;> grind
theorem Ab.neg {x A : Rat} (hx : Ab x A) : Ab (-x) A := by
  obtain ⟨h1, h2⟩ := hx
  constructor <;> grind
theorem Ab.sub {x y A B : Rat} (hx : Ab x A) (hy : Ab y B) : Ab (x - y) (A + B) := by
  obtain ⟨h1, h2⟩ := hx
  obtain ⟨h3, h4⟩ := hy
  constructor <;> grind
theorem Ab.eq {x y A : Rat} (h : Ab x A) (e : y = x) : Ab y A := by rw [e]; exact h
theorem Ab.pow {x A : Rat} (h : Ab x A) : ∀ n : Nat, Ab (x ^ n) (A ^ n)
  | 0 => by constructor <;> simp <;> decide
  | n + 1 => by rw [Rat.pow_succ, Rat.pow_succ]; exact (Ab.pow h n).mul h
theorem sq_nn (c : Rat) : 0 ≤ c * c := by
  rcases (Rat.le_total : (0 : Rat) ≤ c ∨ c ≤ 0) with h | h
  · exact Rat.mul_nonneg h h
  · have := Rat.mul_nonneg (a := -c) (b := -c) (by grind) (by grind)
    grind
theorem Ab.self (c : Rat) : Ab c (c * c + 1) := by
  have h1 := sq_nn (c - 1)
  have h2 := sq_nn (c + 1)
  have h3 := sq_nn c
  constructor <;> grind
theorem mul_mono {a b A B : Rat} (ha : 0 ≤ a) (hb : 0 ≤ b) (h1 : a ≤ A) (h2 : b ≤ B) : a * b ≤ A * B := by
  have e1 : 0 ≤ (A - a) * B := Rat.mul_nonneg (by grind) (by grind)
  have e2 : 0 ≤ a * (B - b) := Rat.mul_nonneg (by grind) (by grind)
  grind

/-- g is f's slope on S, with a remainder of the second order. -/
def Nc (f g : Rat → Rat) (S : Rat → Prop) : Prop :=
  ∃ K : Rat, 0 ≤ K ∧ ∀ u v H, S u → S v → Ab (v - u) H → Ab (f u) K ∧ Ab (g u) K ∧ Ab (f v - f u) (K * H) ∧ Ab (f v - f u - (v - u) * g u) (K * H * H)

theorem Nc.congr {f g f' g' : Rat → Rat} {S : Rat → Prop} (h : Nc f g S) (ef : ∀ u, S u → f' u = f u) (eg : ∀ u, S u → g' u = g u) : Nc f' g' S := by
  obtain ⟨K, hK, h⟩ := h
  refine ⟨K, hK, fun u v H hu hv hH => ?_⟩
  rw [ef u hu, ef v hv, eg u hu]
  exact h u v H hu hv hH
theorem Nc.const (c : Rat) (S : Rat → Prop) : Nc (fun _ => c) (fun _ => 0) S := by
  refine ⟨c * c + 1, by have := sq_nn c; grind, fun u v H hu hv hH => ?_⟩
  have hH0 := hH.nn
  have hs := sq_nn c
  have hk : 0 ≤ (c * c + 1) * H := Rat.mul_nonneg (by grind) hH0
  have hk2 : 0 ≤ (c * c + 1) * H * H := Rat.mul_nonneg hk hH0
  refine ⟨Ab.self c, ⟨by grind, by grind⟩, ⟨by grind, by grind⟩, ⟨by grind, by grind⟩⟩
theorem Nc.id (B : Rat) (S : Rat → Prop) (hS : ∀ u, S u → Ab u B) : Nc (fun u => u) (fun _ => 1) S := by
  by_cases hb : 0 ≤ B
  · refine ⟨B + 1, by grind, fun u v H hu hv hH => ?_⟩
    have hH0 := hH.nn
    have h1 : 0 ≤ B * H := Rat.mul_nonneg hb hH0
    have h2 : 0 ≤ (B + 1) * H * H := Rat.mul_nonneg (Rat.mul_nonneg (by grind) hH0) hH0
    have hu' := hS u hu
    unfold Ab at *
    refine ⟨⟨by grind, by grind⟩, ⟨by grind, by grind⟩, ⟨by grind, by grind⟩, ⟨by grind, by grind⟩⟩
  · refine ⟨0, by grind, fun u v H hu hv hH => ?_⟩
    exact absurd (hS u hu).nn hb
theorem Nc.add {f1 g1 f2 g2 : Rat → Rat} {S : Rat → Prop} (h1 : Nc f1 g1 S) (h2 : Nc f2 g2 S) : Nc (fun u => f1 u + f2 u) (fun u => g1 u + g2 u) S := by
  obtain ⟨K, hK, h1⟩ := h1
  obtain ⟨L, hL, h2⟩ := h2
  refine ⟨K + L, by grind, fun u v H hu hv hH => ?_⟩
  obtain ⟨a1, a2, a3, a4⟩ := h1 u v H hu hv hH
  obtain ⟨b1, b2, b3, b4⟩ := h2 u v H hu hv hH
  refine ⟨a1.add b1, a2.add b2, ((a3.add b3).eq (by grind)).mono (by grind), ((a4.add b4).eq (by grind)).mono (by grind)⟩
theorem Nc.mul {f1 g1 f2 g2 : Rat → Rat} {S : Rat → Prop} (h1 : Nc f1 g1 S) (h2 : Nc f2 g2 S) : Nc (fun u => f1 u * f2 u) (fun u => g1 u * f2 u + f1 u * g2 u) S := by
  obtain ⟨K, hK, h1⟩ := h1
  obtain ⟨L, hL, h2⟩ := h2
  have hKL := Rat.mul_nonneg hK hL
  refine ⟨3 * (K * L), by grind, fun u v H hu hv hH => ?_⟩
  have hH0 := hH.nn
  obtain ⟨a1, a2, a3, a4⟩ := h1 u v H hu hv hH
  obtain ⟨b1, b2, b3, b4⟩ := h2 u v H hu hv hH
  obtain ⟨d1, _, _, _⟩ := h2 v v H hv hv (by constructor <;> grind)
  have e1 : 0 ≤ K * L * H := Rat.mul_nonneg hKL hH0
  have e2 : 0 ≤ K * L * H * H := Rat.mul_nonneg e1 hH0
  refine ⟨(a1.mul b1).mono (by grind), ((a2.mul b1).add (a1.mul b2)).mono (by grind), (((a3.mul d1).add (a1.mul b3)).eq (by grind)).mono (by grind), ((((a4.mul d1).add ((hH.mul a2).mul b3)).add (a1.mul b4)).eq (by grind)).mono (by grind)⟩
theorem Nc.scale {f g : Rat → Rat} {S : Rat → Prop} (c : Rat) (h : Nc f g S) : Nc (fun u => c * f u) (fun u => c * g u) S :=
  ((Nc.const c S).mul h).congr (fun _ _ => rfl) (fun u _ => by grind)
theorem Nc.inv {f g : Rat → Rat} {S : Rat → Prop} (c : Rat) (hc : 0 < c) (h : Nc f g S) (hf : ∀ u, S u → c ≤ f u) : Nc (fun u => (f u)⁻¹) (fun u => -(g u * (f u)⁻¹ * (f u)⁻¹)) S := by
  obtain ⟨K, hK, h⟩ := h
  have hi : ∀ u, S u → Ab (f u)⁻¹ c⁻¹ ∧ f u * (f u)⁻¹ = 1 := by
    intro u hu
    have h1 := hf u hu
    have h2 : 0 < f u := by grind
    have h3 := Rat.inv_pos.2 h2
    have h4 := Rat.inv_pos.2 hc
    have h5 := Rat.mul_inv_cancel (f u) (by grind)
    have h6 := Rat.mul_inv_cancel c (by grind)
    have h7 : 0 ≤ (f u - c) * ((f u)⁻¹ * c⁻¹) := Rat.mul_nonneg (by grind) (Rat.mul_nonneg (by grind) (by grind))
    generalize (f u)⁻¹ = F at *
    generalize c⁻¹ = C at *
    generalize f u = z at *
    have h8 : (z - c) * (F * C) = C - F := by grind
    refine ⟨⟨by grind, by grind⟩, h5⟩
  have hc0 := Rat.inv_pos.2 hc
  generalize c⁻¹ = C at hi hc0
  have e1 : 0 ≤ K * C * C := Rat.mul_nonneg (Rat.mul_nonneg hK (by grind)) (by grind)
  have e2 : 0 ≤ K * C * C * (K * C) := Rat.mul_nonneg e1 (Rat.mul_nonneg hK (by grind))
  refine ⟨C + K * C * C + K * C * C * (K * C), by grind, fun u v H hu hv hH => ?_⟩
  have hH0 := hH.nn
  obtain ⟨a1, a2, a3, a4⟩ := h u v H hu hv hH
  obtain ⟨b1, b2⟩ := hi u hu
  obtain ⟨d1, d2⟩ := hi v hv
  show Ab (f u)⁻¹ _ ∧ Ab (-(g u * (f u)⁻¹ * (f u)⁻¹)) _ ∧ Ab ((f v)⁻¹ - (f u)⁻¹) _ ∧ Ab ((f v)⁻¹ - (f u)⁻¹ - (v - u) * -(g u * (f u)⁻¹ * (f u)⁻¹)) _
  generalize (f u)⁻¹ = F at *
  generalize (f v)⁻¹ = G at *
  clear h hi hf
  generalize f u = fu at *
  generalize f v = fv at *
  generalize g u = gu at *
  have x1 : 0 ≤ C * H := Rat.mul_nonneg (by grind) hH0
  have x2 : 0 ≤ K * C * C * H := Rat.mul_nonneg e1 hH0
  have x3 : 0 ≤ K * C * C * (K * C) * H := Rat.mul_nonneg e2 hH0
  have y1 : 0 ≤ C * H * H := Rat.mul_nonneg x1 hH0
  have y2 : 0 ≤ K * C * C * H * H := Rat.mul_nonneg x2 hH0
  have y3 : 0 ≤ K * C * C * (K * C) * H * H := Rat.mul_nonneg x3 hH0
  have key : G - F = -((fv - fu) * F * G) := by grind
  have k1 : Ab (G - F) (K * H * C * C) := ((a3.mul b1).mul d1).neg.eq key
  have k2 : Ab ((fv - fu - (v - u) * gu) * F * G) (K * H * H * C * C) := (a4.mul b1).mul d1
  have k3 : Ab ((v - u) * gu * F * (G - F)) (H * K * C * (K * H * C * C)) := ((hH.mul a2).mul b1).mul k1
  refine ⟨b1.mono (by grind), ((a2.mul b1).mul b1).neg.mono (by grind), k1.mono (by grind), ((k2.add k3).neg.eq (by grind)).mono (by grind)⟩
theorem Nc.pow {f g : Rat → Rat} {S : Rat → Prop} (h : Nc f g S) : ∀ n : Nat, Nc (fun u => f u ^ (n + 1)) (fun u => ((n : Rat) + 1) * f u ^ n * g u) S
  | 0 => h.congr (fun u _ => by rw [Rat.pow_succ]; simp) (fun u _ => by simp; grind)
  | n + 1 => ((Nc.pow h n).mul h).congr (fun u _ => by rw [Rat.pow_succ]) (fun u _ => by rw [Rat.pow_succ]; push_cast; grind)

/-- Points that lie between. -/
def Iv (a b : Rat) (u : Rat) : Prop := a ≤ u ∧ u ≤ b
theorem small_zero (x C : Rat) (h : ∀ N : Nat, x * ((N : Rat) + 1) ≤ C) : x ≤ 0 := by
  apply Classical.byContradiction
  intro hx
  have hx : 0 < x := by grind
  obtain ⟨n, hn⟩ : ∃ n : Nat, C * x⁻¹ < (n : Rat) + 1 := by
    refine ⟨(C * x⁻¹).floor.toNat, ?_⟩
    have h1 := Rat.lt_floor_add_one (C * x⁻¹)
    have h2 : ((C * x⁻¹).floor : Rat) ≤ (((C * x⁻¹).floor.toNat : Nat) : Rat) := by
      rw [← Rat.intCast_natCast]
      exact Rat.intCast_le_intCast.2 (by omega)
    rw [Rat.intCast_add, Rat.intCast_one] at h1
    grind
  have h3 := h n
  have h4 := Rat.mul_lt_mul_of_pos_left hn hx
  have h5 := Rat.mul_inv_cancel x (by grind)
  have h6 : x * (C * x⁻¹) = C := by
    generalize x⁻¹ = y at *
    clear h h3 h4 hn
    grind
  rw [h6] at h4
  exact absurd h4 (Rat.not_lt.2 h3)
theorem between (a b u v T : Rat) (hu : Iv a b u) (hv : Iv a b v) (h3 : 0 ≤ T) (h4 : T ≤ 1) : Iv a b (u + T * (v - u)) := by
  obtain ⟨u1, u2⟩ := hu
  obtain ⟨v1, v2⟩ := hv
  have e1 := Rat.mul_nonneg (a := T) (b := v - a) h3 (by grind)
  have e2 := Rat.mul_nonneg (a := 1 - T) (b := u - a) (by grind) (by grind)
  have e3 := Rat.mul_nonneg (a := T) (b := b - v) h3 (by grind)
  have e4 := Rat.mul_nonneg (a := 1 - T) (b := b - u) (by grind) (by grind)
  constructor <;> grind
theorem part_le (i n : Nat) (I : Rat) (hi : ((n : Rat) + 1) * I = 1) (hip : 0 < I) (hle : i ≤ n + 1) : 0 ≤ (i : Rat) * I ∧ (i : Rat) * I ≤ 1 := by
  have h1 : (0 : Rat) ≤ (i : Rat) := Rat.natCast_nonneg
  have h2 : (i : Rat) ≤ (n : Rat) + 1 := by
    have := Rat.natCast_le_natCast.2 hle
    rw [Rat.natCast_add] at this
    exact this
  generalize (i : Rat) = j at *
  generalize (n : Rat) + 1 = m at *
  have h3 : 0 ≤ j * I := Rat.mul_nonneg h1 (by grind)
  have h4 := Rat.mul_nonneg (a := m - j) (b := I) (by grind) (by grind)
  exact ⟨h3, by grind⟩
theorem parts_all (n I M H K : Rat) (hi : n * I = 1) : (n * (M * (I * H) + K * (I * H) * (I * H))) * n = M * H * n + K * H * H := by
  have e : (n * (M * (I * H) + K * (I * H) * (I * H))) * n = (n * I) * (M * H * n) + (n * I) * (n * I) * (K * H * H) := by clear hi; grind
  rw [e, hi]
  grind
set_option maxHeartbeats 1000000 in
/-- A slope of at most M: the way is at most M times as long. -/
theorem Nc.mean {f g : Rat → Rat} {a b : Rat} (M : Rat) (h : Nc f g (Iv a b)) (hg : ∀ u, Iv a b u → Ab (g u) M) (u v H : Rat) (hu : Iv a b u) (hv : Iv a b v) (hH : Ab (v - u) H) : Ab (f v - f u) (M * H) := by
  obtain ⟨K, hK, h⟩ := h
  have hH0 := hH.nn
  have key : ∀ N : Nat, Ab ((f v - f u) * ((N : Rat) + 1)) (M * H * ((N : Rat) + 1) + K * H * H) := by
    intro N
    have hN : (0 : Rat) < (N : Rat) + 1 := by have : (0 : Rat) ≤ (N : Rat) := Rat.natCast_nonneg; grind
    have hi := Rat.mul_inv_cancel ((N : Rat) + 1) (by grind)
    have hip := Rat.inv_pos.2 hN
    generalize hI : ((N : Rat) + 1)⁻¹ = I at hi hip
    have hin : ∀ i : Nat, i ≤ N + 1 → Iv a b (u + (i : Rat) * (I * (v - u))) := by
      intro i hle
      have hp := part_le i N I hi hip hle
      rw [← Rat.mul_assoc]
      exact between a b u v _ hu hv hp.1 hp.2
    have step : ∀ i : Nat, i ≤ N + 1 → Ab (f (u + (i : Rat) * (I * (v - u))) - f u) ((i : Rat) * (M * (I * H) + K * (I * H) * (I * H))) := by
      intro i
      induction i with
      | zero => intro _; constructor <;> simp <;> grind
      | succ i ih =>
        intro hle
        have h1 := ih (by omega)
        have p1 := hin i (by omega)
        have p2 := hin (i + 1) hle
        rw [Rat.natCast_add, show ((1 : Nat) : Rat) = 1 from rfl] at p2 ⊢
        have hd : Ab ((u + ((i : Rat) + 1) * (I * (v - u))) - (u + (i : Rat) * (I * (v - u)))) (I * H) := by
          have hI2 : Ab I I := by constructor <;> grind
          exact (hI2.mul hH).eq (by grind)
        obtain ⟨_, _, _, q⟩ := h _ _ _ p1 p2 hd
        have q2 := (hd.mul (hg _ p1))
        generalize u + ((i : Rat) + 1) * (I * (v - u)) = y at *
        generalize u + (i : Rat) * (I * (v - u)) = x at *
        exact (((h1.add q).add q2).eq (by grind)).mono (by grind)
    have hl := step (N + 1) (Nat.le_refl _)
    rw [Rat.natCast_add, show ((1 : Nat) : Rat) = 1 from rfl] at hl
    have e : u + ((N : Rat) + 1) * (I * (v - u)) = v := by grind
    rw [e] at hl
    have hn : Ab ((N : Rat) + 1) ((N : Rat) + 1) := by constructor <;> grind
    have hl2 := hl.mul hn
    rw [parts_all _ _ _ _ _ hi] at hl2
    exact hl2
  have hc : 0 ≤ K * H * H := Rat.mul_nonneg (Rat.mul_nonneg hK hH0) hH0
  have h1 := small_zero (f v - f u - M * H) (K * H * H) (fun N => by have := (key N).2; grind)
  have h2 := small_zero (-(f v - f u) - M * H) (K * H * H) (fun N => by have := (key N).1; grind)
  constructor <;> grind
end Go.Proofs.Ytfjfpplemgjcmab.An
