import Derived.Test.YtfjfpplemgjcmabVc
namespace Go.Proofs.Ytfjfpplemgjcmab.An
def vInv : Rat := 3248660424278399 / 2251799813685248
theorem l_facts : Ab lHi (6932 / 10000) ∧ Ab lLo (1 / 1000000000) ∧ Ab vInv (14427 / 10000) ∧ Ab (lHi + lLo) (69315 / 100000) ∧ Ab (1 - vInv * (lHi + lLo)) (1 / 100000000000000) ∧ Ab (lHi + lLo) (69315 / 100000) ∧ 69314 / 100000 ≤ lHi + lLo := by
  refine ⟨⟨?_, ?_⟩, ⟨?_, ?_⟩, ⟨?_, ?_⟩, ⟨?_, ?_⟩, ⟨?_, ?_⟩, ⟨?_, ?_⟩, ?_⟩ <;> decide +kernel
/-- Exp's reduction. -/
theorem red (x X K a1 a2 b1 b2 b3 r : Rat) (hx : Ab x X) (hX : X ≤ 700) (h1 : Rd (x * vInv) a1) (h2 : Rd (a1 + 1 / 2) a2) (hK1 : K ≤ a2) (hK2 : a2 ≤ K + 1)
    (h3 : Rd (K * lHi) b1) (h4 : Rd (x - b1) b2) (h5 : Rd (K * lLo) b3) (h6 : Rd (b2 - b3) r) :
    Ab r (7 / 20) ∧ Ab (r - (x - K * (lHi + lLo))) (6 * (1 + X) * ep) ∧ Ab K (145 / 100 * X + 1) := by
  obtain ⟨e1, e2, e3⟩ := ep_facts
  obtain ⟨q1, q2, q3, q4, q5, -, -⟩ := l_facts
  have hX0 := hx.nn
  have hXe : 0 ≤ X * ep := Rat.mul_nonneg hX0 (by grind -mbtc)
  have hXl : X * ep ≤ 700 * ep := by have := Rat.mul_nonneg (a := 700 - X) (b := ep) (by grind -mbtc) (by grind -mbtc); grind
  have e4 : ep ≤ 1 / 1000000000000000 := by decide +kernel
  have k1 := hx.mul q3
  have k2 := h1.ab k1
  have k3 : Ab (a1 + 1 / 2) (15 / 10 * X + 1) := (((k2.add k1).add (y := 1 / 2) (B := 1 / 2) (by constructor <;> decide +kernel)).eq (by grind -mbtc)).mono (by grind -mbtc)
  have k4 := h2.ab k3
  have k5 : Ab (a2 - (x * vInv + 1 / 2)) (4 * (1 + X) * ep) := ((k4.add k2).eq (by grind -mbtc)).mono (by grind -mbtc)
  have k6 : Ab (x * vInv - K) (1 / 2 + 1 / 100000000000) := by
    obtain ⟨u1, u2⟩ := k5
    constructor <;> grind -mbtc
  have hK : Ab K (145 / 100 * X + 1) := ((k1.sub k6).eq (by grind -mbtc)).mono (by grind -mbtc)
  have k7 : Ab (x - K * (lHi + lLo)) (3467 / 10000) := by
    have p1 := hx.mul q5
    have p2 := k6.mul q4
    have p3 : X * (1 / 100000000000000) ≤ 1 / 10000000000 := by grind -mbtc
    refine ((p1.add p2).eq ?_).mono (by grind -mbtc)
    generalize lHi + lLo = l
    grind
  have k8 := hK.mul q1
  have k9 := h3.ab k8
  have m1 : Ab (x - b1) (22 / 10 * X + 1) := ((hx.sub (k9.add k8)).eq (by grind -mbtc)).mono (by grind -mbtc)
  have m2 := h4.ab m1
  have m3 := hK.mul q2
  have m4 := h5.ab m3
  have m5 : Ab (b2 - b3) (23 / 10 * X + 2) := (((m2.add m1).sub (m4.add m3)).eq (by grind -mbtc)).mono (by grind -mbtc)
  have m6 := h6.ab m5
  have m7 : Ab (r - (x - K * (lHi + lLo))) (6 * (1 + X) * ep) := ((((m6.add m2).sub k9).sub m4).eq (by grind -mbtc)).mono (by grind -mbtc)
  exact ⟨((m7.add k7).eq (by grind -mbtc)).mono (by grind -mbtc), m7, hK⟩
/-- Ln's end. -/
theorem ln_put (X e M L c1 c2 c3 y : Rat) (he : Ab e (145 / 100 * X + 2)) (hX0 : 0 ≤ X) (hX : X ≤ 700) (hL : Ab (L - M) (8 * ep)) (hM : Ab M 1) (h1 : Rd (e * lHi) c1) (h2 : Rd (e * lLo) c2) (h3 : Rd (L + c2) c3) (h4 : Rd (c1 + c3) y) :
    Ab (y - (e * (lHi + lLo) + M)) (20 * (1 + X) * ep) := by
  obtain ⟨e1, e2, e3⟩ := ep_facts
  obtain ⟨q1, q2, q3, q4, q5, -, -⟩ := l_facts
  have hXe : 0 ≤ X * ep := Rat.mul_nonneg hX0 (by grind -mbtc)
  have hXl : X * ep ≤ 700 * ep := by have := Rat.mul_nonneg (a := 700 - X) (b := ep) (by grind -mbtc) (by grind -mbtc); grind
  have k1 := he.mul q1
  have k2 := h1.ab k1
  have k3 := he.mul q2
  have k4 := h2.ab k3
  have k5 : Ab (L + c2) 2 := ((((hL.add hM).add k4).add k3).eq (by grind -mbtc)).mono (by grind -mbtc)
  have k6 := h3.ab k5
  have k7 : Ab (c1 + c3) (11 / 10 * X + 5) := ((((k2.add k1).add k6).add k5).eq (by grind -mbtc)).mono (by grind -mbtc)
  have k8 := h4.ab k7
  exact (((((k8.add k2).add k6).add hL).add k4).eq (by grind -mbtc)).mono (by grind -mbtc)
/-- Where a number's parts differ from Exp's by one. -/
theorem lg_way (s m K e : Rat) (hs : Iv (57 / 100) (143 / 100) s) (hm : Iv (7071 / 10000) (14143 / 10000) m) (h : (e = K ∧ m = s) ∨ (e = K + 1 ∧ m = 1 / 2 * s) ∨ (e = K - 1 ∧ s = 1 / 2 * m)) (hl : e = K + 1 → s ≤ 142 / 100) (hr : e = K - 1 → 14 / 10 ≤ m) :
    Ab (e * (lHi + lLo) + Lg m - (K * (lHi + lLo) + Lg s)) (1 / 1000000000000000) := by
  obtain ⟨m1, m2⟩ := hm
  rcases h with ⟨rfl, rfl⟩ | ⟨rfl, rfl⟩ | ⟨rfl, rfl⟩
  · generalize lHi + lLo = l
    generalize Lg m = g
    constructor <;> grind -mbtc
  · have h := lg_half s ⟨by grind -mbtc, hl rfl⟩
    refine h.eq ?_
    generalize lHi + lLo = l
    grind
  · have h := lg_half m ⟨hr rfl, by grind -mbtc⟩
    refine h.neg.eq ?_
    generalize lHi + lLo = l
    grind
theorem all_put (x X K e r s m y : Rat) (hx : Ab x X) (hr : Ab r (7 / 20)) (hr2 : Ab (r - (x - K * (lHi + lLo))) (6 * (1 + X) * ep)) (hs : Ab (s - Es 15 r) (6 * ep)) (hw : Ab (e * (lHi + lLo) + Lg m - (K * (lHi + lLo) + Lg s)) (1 / 1000000000000000)) (hy : Ab (y - (e * (lHi + lLo) + Lg m)) (20 * (1 + X) * ep)) : Ab (y - x) (75 * (1 + X) * ep) := by
  obtain ⟨e1, e2, e3⟩ := ep_facts
  have hX0 := hx.nn
  have hXe : 0 ≤ X * ep := Rat.mul_nonneg hX0 (by grind -mbtc)
  have e5 : 1 / 1000000000000000 ≤ 5 * ep := by decide +kernel
  have hE := es_bd r hr
  have hv : Iv (55 / 100) (165 / 100) (Es 15 r) := by obtain ⟨a, b⟩ := hE; constructor <;> grind -mbtc
  have hu : Iv (55 / 100) (165 / 100) s := by obtain ⟨a, b⟩ := hE; obtain ⟨c, d⟩ := hs; constructor <;> grind -mbtc
  have k1 := lg_lip _ _ _ hv hu hs
  have k2 := back_ab r hr
  exact (((((hy.add hw).add k1).add k2).add hr2).eq (by grind -mbtc)).mono (by grind -mbtc)
def v13 : Rat := 3961408125713217 / 39614081257132168796771975168
theorem goal_put (x X y d g1 g2 : Rat) (hx : Ab x X) (hX : X ≤ 700) (hy : Ab (y - x) (75 * (1 + X) * ep)) (h1 : Rd (y - x) d) (h2 : Rd (1 + X) g1) (h3 : Rd (v13 * g1) g2) : d ≤ g2 ∧ -d ≤ g2 := by
  obtain ⟨e1, e2, e3⟩ := ep_facts
  have hX0 := hx.nn
  have hXe : 0 ≤ X * ep := Rat.mul_nonneg hX0 (by grind -mbtc)
  have hXl : X * ep ≤ 700 * ep := by have := Rat.mul_nonneg (a := 700 - X) (b := ep) (by grind -mbtc) (by grind -mbtc); grind
  have k1 := h1.ab hy
  have k2 : Ab (75 * (1 + X) * ep) 1 := by constructor <;> grind -mbtc
  have k3 := k2.mul (x := 75 * (1 + X) * ep) (y := ep) (B := ep) (by constructor <;> grind -mbtc)
  have kd : Ab d (77 * (1 + X) * ep) := ((k1.add hy).eq (by grind -mbtc)).mono (by have := k3.2; grind -mbtc)
  have k4 : Ab (1 + X) (1 + X) := by constructor <;> grind -mbtc
  have k5 := h2.ab k4
  have k6 : 9 / 10 * (1 + X) ≤ g1 ∧ Ab g1 (2 * (1 + X)) := ⟨by have := k5.1; grind, ((k5.add k4).eq (by grind -mbtc)).mono (by grind -mbtc)⟩
  have hv : 400 * ep ≤ v13 ∧ Ab v13 (500 * ep) := ⟨by decide +kernel, by constructor <;> decide +kernel⟩
  have k7 := h3.ab (hv.2.mul k6.2)
  have k8 : 400 * ep * (9 / 10 * (1 + X)) ≤ v13 * g1 := mul_mono (by grind -mbtc) (by grind -mbtc) hv.1 k6.1
  have k9 : Ab (500 * ep * (2 * (1 + X)) * ep) ep := by
    have p : Ab (500 * ep * (2 * (1 + X))) 1 := by constructor <;> grind -mbtc
    exact (p.mul (y := ep) (B := ep) (by constructor <;> grind -mbtc)).mono (by grind -mbtc)
  obtain ⟨d1, d2⟩ := kd
  obtain ⟨g3, g4⟩ := k7
  have k10 := k9.2
  constructor <;> grind -mbtc
end Go.Proofs.Ytfjfpplemgjcmab.An
