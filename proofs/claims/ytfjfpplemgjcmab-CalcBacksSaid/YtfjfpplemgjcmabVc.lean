import Derived.Test.YtfjfpplemgjcmabVb
namespace Go.Proofs.Ytfjfpplemgjcmab.An
/-- How far one rounding goes: by the size, and at least. -/
def ep : Rat := 1 / 4503599627370496
def et : Rat := 1 / 2 ^ 200
theorem ep_facts : 0 ≤ et ∧ et * 1000 ≤ ep ∧ ep * 1000000 ≤ 1 := by refine ⟨?_, ?_, ?_⟩ <;> decide +kernel
/-- r is z, rounded. -/
def Rd (z r : Rat) : Prop := ∃ d e, r = z * (1 + d) + e ∧ Ab d ep ∧ Ab e et
theorem Rd.ab {z r Z : Rat} (h : Rd z r) (hz : Ab z Z) : Ab (r - z) (Z * ep + et) := by
  obtain ⟨d, e, rfl, hd, he⟩ := h
  exact ((hz.mul hd).add he).eq (by grind)
/-- The steps of the power's series, without rounding. -/
def exH (r : Rat) : Nat → Rat
  | 0 => 1
  | n + 1 => 1 + r * exH r n * ((14 - n : Nat) : Rat)⁻¹
theorem exH_es (r : Rat) : ∀ n a : Nat, n + a = 14 → Es a r + ic a * r ^ a * exH r n = Es 15 r
  | 0, a, h => by
    obtain rfl : a = 14 := by omega
    show Es 14 r + ic 14 * r ^ 14 * 1 = Es 14 r + ic 14 * r ^ 14
    grind
  | n + 1, a, h => by
    have h1 := exH_es r n (a + 1) (by omega)
    rw [← h1]
    show Es a r + ic a * r ^ a * (1 + r * exH r n * ((14 - n : Nat) : Rat)⁻¹) = Es a r + ic a * r ^ a + ic a * ((a : Rat) + 1)⁻¹ * r ^ (a + 1) * exH r n
    have e : ((14 - n : Nat) : Rat) = (a : Rat) + 1 := by rw [show 14 - n = a + 1 by omega, Rat.natCast_add]; rfl
    rw [e, Rat.pow_succ]
    generalize ((a : Rat) + 1)⁻¹ = y
    generalize exH r n = x
    generalize Es a r = E
    generalize r ^ a = p
    grind
theorem exH_end (r : Rat) : exH r 14 = Es 15 r := by
  rw [← exH_es r 14 0 rfl]
  show exH r 14 = 0 + 1 * r ^ 0 * exH r 14
  rw [Rat.pow_zero]
  generalize exH r 14 = x
  grind
theorem inv1 (n : Nat) (h : 0 < n) : Ab ((n : Rat))⁻¹ 1 := by
  have h1 : (1 : Rat) ≤ (n : Rat) := Rat.natCast_le_natCast.2 h
  exact (inv_ab _ 1 (by decide +kernel) h1).mono (by decide +kernel)
theorem exp_one (r s S j p q t : Rat) (hr : Ab r (7 / 20)) (hs : Ab (s - S) (6 * ep)) (hS : Ab S (16 / 10)) (hj : Ab j 1) (h1 : Rd (r * s) p) (h2 : Rd (p * j) q) (h3 : Rd (1 + q) t) :
    Ab (t - (1 + r * S * j)) (6 * ep) ∧ Ab (1 + r * S * j) (16 / 10) := by
  obtain ⟨e1, e2, e3⟩ := ep_facts
  have hs2 : Ab s (161 / 100) := ((hs.add hS).eq (by grind)).mono (by grind)
  have k1 := hr.mul hs2
  have k2 := h1.ab k1
  have k3 := hr.mul hs
  have k4 : Ab (p - r * S) (27 / 10 * ep) := ((k2.add k3).eq (by grind)).mono (by grind)
  have k5 : Ab p (57 / 100) := ((k2.add k1).eq (by grind)).mono (by grind)
  have k6 := k5.mul hj
  have k7 := h2.ab k6
  have k8 := k4.mul hj
  have k9 : Ab (q - r * S * j) (33 / 10 * ep) := ((k7.add k8).eq (by grind)).mono (by grind)
  have l1 := (hr.mul hS).mul hj
  have l2 : Ab (1 : Rat) 1 := by constructor <;> decide +kernel
  have l3 : Ab (1 + q) (158 / 100) := (((k9.add l1).add l2).eq (by grind)).mono (by grind)
  have l4 := h3.ab l3
  exact ⟨((l4.add k9).eq (by grind)).mono (by grind), (l2.add l1).mono (by grind)⟩
/-- The steps of the logarithm's series, without rounding. -/
def lnH (z : Rat) : Nat → Rat
  | 0 => 0
  | n + 1 => z * (((2 * (12 - n) + 1 : Nat) : Rat)⁻¹ + lnH z n)
theorem lnH_lp (s : Rat) : ∀ n a : Nat, n + a = 12 → Lp (a + 1) s + 2 * s ^ (2 * a + 1) * lnH (s * s) n = Lp 13 s
  | 0, a, h => by
    obtain rfl : a = 12 := by omega
    show Lp 13 s + 2 * s ^ 25 * 0 = Lp 13 s
    generalize Lp 13 s = x
    grind
  | n + 1, a, h => by
    have h1 := lnH_lp s n (a + 1) (by omega)
    rw [← h1]
    show Lp (a + 1) s + 2 * s ^ (2 * a + 1) * (s * s * (((2 * (12 - n) + 1 : Nat) : Rat)⁻¹ + lnH (s * s) n)) = Lp (a + 1) s + 2 * (2 * ((a + 1 : Nat) : Rat) + 1)⁻¹ * s ^ (2 * (a + 1) + 1) + 2 * s ^ (2 * (a + 1) + 1) * lnH (s * s) n
    have e : ((2 * (12 - n) + 1 : Nat) : Rat) = 2 * ((a + 1 : Nat) : Rat) + 1 := by rw [show 12 - n = a + 1 by omega, Rat.natCast_add, Rat.natCast_mul]; rfl
    rw [e, show 2 * (a + 1) + 1 = 2 * a + 1 + 1 + 1 by omega, Rat.pow_succ s (2 * a + 1 + 1), Rat.pow_succ s (2 * a + 1)]
    generalize (2 * ((a + 1 : Nat) : Rat) + 1)⁻¹ = y
    generalize lnH (s * s) n = x
    generalize Lp (a + 1) s = E
    generalize s ^ (2 * a + 1) = p
    grind
theorem lnH_end (s : Rat) : 2 * s + 2 * s * lnH (s * s) 12 = Lp 13 s := by
  rw [← lnH_lp s 12 0 rfl]
  show _ = 0 + 2 * (2 * ((0 : Nat) : Rat) + 1)⁻¹ * s ^ (2 * 0 + 1) + 2 * s ^ (2 * 0 + 1) * lnH (s * s) 12
  rw [show (2 * ((0 : Nat) : Rat) + 1)⁻¹ = 1 by decide +kernel, Rat.pow_succ, Rat.pow_zero]
  generalize lnH (s * s) 12 = x
  grind
theorem inv3 (n : Nat) (h : 3 ≤ n) : Ab ((n : Rat))⁻¹ (34 / 100) := by
  have h1 : (3 : Rat) ≤ (n : Rat) := Rat.natCast_le_natCast.2 h
  exact (inv_ab _ 3 (by decide +kernel) h1).mono (by decide +kernel)
theorem ln_one (z z0 p P j c a p' : Rat) (hz : Ab (z - z0) ep) (hz0 : Ab z0 (7 / 100)) (hp : Ab (p - P) ep) (hP : Ab P (1 / 10)) (hj : Ab j (34 / 100)) (h1 : Rd j c) (h2 : Rd (c + p) a) (h3 : Rd (z * a) p') :
    Ab (p' - z0 * (j + P)) ep ∧ Ab (z0 * (j + P)) (1 / 10) := by
  obtain ⟨e1, e2, e3⟩ := ep_facts
  have k1 := h1.ab hj
  have k2 : Ab (c + p) (1 / 2) := (((((k1.add hp).add hj).add hP)).eq (by grind)).mono (by grind)
  have k3 := h2.ab k2
  have k4 : Ab (a - (j + P)) (2 * ep) := (((k3.add k1).add hp).eq (by grind)).mono (by grind)
  have k5 : Ab a (51 / 100) := ((k3.add k2).eq (by grind)).mono (by grind)
  have k6 := hz.mul k5
  have k7 := hz0.mul k4
  have k8 : Ab z (8 / 100) := ((hz.add hz0).eq (by grind)).mono (by grind)
  have k9 := k8.mul k5
  have l1 := h3.ab k9
  exact ⟨(((l1.add k6).add k7).eq (by grind)).mono (by grind), (hz0.mul (hj.add hP)).mono (by grind)⟩
/-- The logarithm near one: its head. -/
theorem ln_head (m t D s z w : Rat) (hm : Iv (7 / 10) (142 / 100) m) (h1 : Rd (m - 1) t) (h2 : Rd (2 + t) D) (h3 : Rd (t * D⁻¹) s) (h4 : Rd (s * s) z) (h5 : Rd (2 * s) w) :
    Ab (z - sg m * sg m) ep ∧ Ab (sg m * sg m) (7 / 100) ∧ Ab (w - 2 * sg m) (4 * ep) ∧ Ab (sg m) (25 / 100) ∧ D ≠ 0 := by
  obtain ⟨e1, e2, e3⟩ := ep_facts
  obtain ⟨m1, m2⟩ := hm
  have k0 : Ab (m - 1) (42 / 100) := by constructor <;> grind
  have k1 := h1.ab k0
  have k2 : Ab t (43 / 100) := ((k1.add k0).eq (by grind)).mono (by grind)
  have k3 : Ab (2 + t) (243 / 100) := (Ab.add (x := 2) (A := 2) (by constructor <;> decide +kernel) k2).mono (by grind)
  have k4 := h2.ab k3
  have k5 : Ab (D - (m + 1)) (3 * ep) := ((k4.add k1).eq (by grind)).mono (by grind)
  have hD : 169 / 100 ≤ D := by have := k5.1; grind
  have hDi := inv_c D (by grind)
  have hDa := inv_ab D (169 / 100) (by decide +kernel) hD
  have hDb : Ab D⁻¹ (6 / 10) := hDa.mono (by decide +kernel)
  have hs := (sg_ab m (17 / 10) (42 / 100) k0 (by decide +kernel) (by grind)).mono (B := 25 / 100) (by decide +kernel)
  have hmi := inv_c (m + 1) (by grind)
  have hsg : sg m * (m + 1) = m - 1 := by
    unfold sg
    generalize (m + 1)⁻¹ = y at *
    grind
  generalize sg m = S at *
  have q1 := ((k1.sub (hs.mul k5)).mul hDb)
  have q2 : t * D⁻¹ - S = (t - (m - 1) - S * (D - (m + 1))) * D⁻¹ := by
    generalize D⁻¹ = y at *
    have e : (t - (m - 1) - S * (D - (m + 1))) * y = t * y - S * (D * y) + (S * (m + 1) - (m - 1)) * y := by clear hDi hsg; grind
    rw [e, hDi, hsg]
    grind
  have q3 : Ab (t * D⁻¹ - S) (8 / 10 * ep) := (q1.eq q2).mono (by grind)
  have q4 : Ab (t * D⁻¹) (26 / 100) := ((q3.add hs).eq (by grind)).mono (by grind)
  have q5 := h3.ab q4
  have q6 : Ab (s - S) (12 / 10 * ep) := ((q5.add q3).eq (by grind)).mono (by grind)
  have q7 : Ab s (26 / 100) := ((q6.add hs).eq (by grind)).mono (by grind)
  have q8 := h4.ab (q7.mul q7)
  have q9 := (q6.mul q7).add (hs.mul q6)
  have w1 : Ab (2 * s) (52 / 100) := (Ab.mul (x := 2) (A := 2) (by constructor <;> decide +kernel) q7).mono (by grind)
  have w2 := h5.ab w1
  have w3 := Ab.mul (x := 2) (A := 2) (by constructor <;> decide +kernel) q6
  exact ⟨((q8.add q9).eq (by grind)).mono (by grind), (hs.mul hs).mono (by grind), ((w2.add w3).eq (by grind)).mono (by grind), hs, by grind⟩
/-- And its end. -/
theorem ln_tail (S w p P x y : Rat) (hs : Ab S (25 / 100)) (hw : Ab (w - 2 * S) (4 * ep)) (hp : Ab (p - P) ep) (hP : Ab P (1 / 10)) (h1 : Rd (w * p) x) (h2 : Rd (w + x) y) : Ab (y - (2 * S + 2 * S * P)) (8 * ep) ∧ Ab (2 * S + 2 * S * P) 1 := by
  obtain ⟨e1, e2, e3⟩ := ep_facts
  have k0 : Ab (2 * S) (1 / 2) := (Ab.mul (x := 2) (A := 2) (by constructor <;> decide +kernel) hs).mono (by grind)
  have k1 : Ab w (51 / 100) := ((hw.add k0).eq (by grind)).mono (by grind)
  have k2 : Ab p (11 / 100) := ((hp.add hP).eq (by grind)).mono (by grind)
  have k3 := h1.ab (k1.mul k2)
  have k4 := (hw.mul k2).add (k0.mul hp)
  have k5 : Ab (x - 2 * S * P) (2 * ep) := ((k3.add k4).eq (by grind)).mono (by grind)
  have k6 := k0.mul hP
  have k7 : Ab (w + x) 1 := (((hw.add k5).add (k0.add k6)).eq (by grind)).mono (by grind)
  have k8 := h2.ab k7
  exact ⟨(((k8.add hw).add k5).eq (by grind)).mono (by grind), (k0.add k6).mono (by grind)⟩
end Go.Proofs.Ytfjfpplemgjcmab.An
