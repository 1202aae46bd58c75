import Derived.Test.YtfjfpplemgjcmabVa
namespace Go.Proofs.Ytfjfpplemgjcmab.An
/-- One by the product of the first n numbers. -/
def ic : Nat → Rat
  | 0 => 1
  | n + 1 => ic n * ((n : Rat) + 1)⁻¹
/-- The series of e to the power r, its first n terms. -/
def Es : Nat → Rat → Rat
  | 0, _ => 0
  | n + 1, r => Es n r + ic n * r ^ n
theorem ic_step (n : Nat) : ic (n + 1) * ((n : Rat) + 1) = ic n := by
  have hN : (0 : Rat) < (n : Rat) + 1 := by have : (0 : Rat) ≤ (n : Rat) := Rat.natCast_nonneg; grind
  have hi := Rat.mul_inv_cancel ((n : Rat) + 1) (by grind)
  show ic n * ((n : Rat) + 1)⁻¹ * ((n : Rat) + 1) = ic n
  generalize ((n : Rat) + 1)⁻¹ = y at *
  grind
theorem es_nc (B : Rat) (S : Rat → Prop) (hS : ∀ u, S u → Ab u B) : ∀ n : Nat, Nc (Es (n + 1)) (Es n) S
  | 0 => (Nc.const 1 S).congr (fun u _ => by show Es 0 u + ic 0 * u ^ 0 = 1; simp [Es, ic]; grind) (fun u _ => rfl)
  | n + 1 => ((es_nc B S hS n).add (((Nc.id B S hS).pow n).scale (ic (n + 1)))).congr (fun u _ => rfl) (fun u _ => by
      show Es n u + ic n * u ^ n = _
      have h := ic_step n
      generalize u ^ n = y at *
      generalize ic (n + 1) = z at *
      rw [← h]
      grind)
theorem ic_nn : ∀ n, 0 ≤ ic n
  | 0 => by decide +kernel
  | n + 1 => by
    have hN : (0 : Rat) < (n : Rat) + 1 := by have : (0 : Rat) ≤ (n : Rat) := Rat.natCast_nonneg; grind
    exact Rat.mul_nonneg (ic_nn n) (by have := Rat.inv_pos.2 hN; grind)
theorem es_ab (r A : Rat) (h : Ab r A) : ∀ n, Ab (Es (n + 1) r - 1) (Es (n + 1) A - 1)
  | 0 => by constructor <;> simp [Es, ic] <;> grind
  | n + 1 => by
    have h1 := es_ab r A h n
    have h2 : Ab (ic (n + 1)) (ic (n + 1)) := by have := ic_nn (n + 1); constructor <;> grind
    have h3 := h2.mul (h.pow (n + 1))
    show Ab (Es (n + 1) r + ic (n + 1) * r ^ (n + 1) - 1) (Es (n + 1) A + ic (n + 1) * A ^ (n + 1) - 1)
    exact ((h1.add h3).eq (by grind)).mono (by grind)
/-- The logarithm's series in s: its first n terms. -/
def Lp : Nat → Rat → Rat
  | 0, _ => 0
  | n + 1, s => Lp n s + 2 * (2 * (n : Rat) + 1)⁻¹ * s ^ (2 * n + 1)
def Gs : Nat → Rat → Rat
  | 0, _ => 0
  | n + 1, s => Gs n s + s ^ (2 * n)
theorem lp_nc {s t : Rat → Rat} {S : Rat → Prop} (h : Nc s t S) : ∀ n : Nat, Nc (fun u => Lp n (s u)) (fun u => 2 * Gs n (s u) * t u) S
  | 0 => (Nc.const 0 S).congr (fun u _ => rfl) (fun u _ => by show 2 * 0 * t u = 0; grind)
  | n + 1 => ((lp_nc h n).add ((h.pow (2 * n)).scale (2 * (2 * (n : Rat) + 1)⁻¹))).congr (fun u _ => rfl) (fun u _ => by
      show 2 * (Gs n (s u) + s u ^ (2 * n)) * t u = _
      have hN : (0 : Rat) < 2 * (n : Rat) + 1 := by have : (0 : Rat) ≤ (n : Rat) := Rat.natCast_nonneg; grind
      have hi := Rat.mul_inv_cancel (2 * (n : Rat) + 1) (by grind)
      have e : ((2 * n : Nat) : Rat) = 2 * (n : Rat) := by rw [Rat.natCast_mul]; rfl
      rw [e]
      generalize (2 * (n : Rat) + 1)⁻¹ = y at *
      generalize s u ^ (2 * n) = p at *
      generalize 2 * (n : Rat) + 1 = m at *
      have e2 : 2 * y * (m * p * t u) = 2 * (m * y) * p * t u := by clear hi e; grind
      rw [e2, hi]
      clear e2 hi
      grind)
theorem gs_sum (s : Rat) : ∀ n : Nat, (1 - s * s) * Gs n s = 1 - s ^ (2 * n)
  | 0 => by simp [Gs]; grind
  | n + 1 => by
    have h := gs_sum s n
    show (1 - s * s) * (Gs n s + s ^ (2 * n)) = _
    rw [show 2 * (n + 1) = 2 * n + 1 + 1 by omega, Rat.pow_succ, Rat.pow_succ]
    generalize s ^ (2 * n) = p at *
    grind
/-- s of x. -/
def sg (x : Rat) : Rat := (x - 1) * (x + 1)⁻¹
def Lg (x : Rat) : Rat := Lp 13 (sg x)
theorem inv_c (x : Rat) (h : x ≠ 0) : x * x⁻¹ = 1 := Rat.mul_inv_cancel x h
theorem lg_nc {f g : Rat → Rat} {S : Rat → Prop} (c : Rat) (hc : 0 < c) (h : Nc f g S) (hf : ∀ u, S u → c ≤ f u) : Nc (fun u => Lg (f u)) (fun u => (1 - sg (f u) ^ 26) * (f u)⁻¹ * g u) S := by
  have h1 := h.add (Nc.const (-1) S)
  have h2 := h.add (Nc.const 1 S)
  have h3 := h1.mul (h2.inv (c + 1) (by grind) (fun u hu => by have := hf u hu; grind))
  have h4 : Nc (fun u => sg (f u)) (fun u => 2 * g u * (f u + 1)⁻¹ * (f u + 1)⁻¹) S := h3.congr (fun u _ => by show (f u - 1) * _ = _; grind) (fun u hu => by
    have hp := hf u hu
    have hi := inv_c (f u + 1) (by grind)
    generalize (f u + 1)⁻¹ = y at *
    grind)
  refine (lp_nc h4 13).congr (fun u _ => rfl) (fun u hu => ?_)
  have hp := hf u hu
  have hi := inv_c (f u + 1) (by grind)
  have hj := inv_c (f u) (by grind)
  have hG := gs_sum (sg (f u)) 13
  have hS : sg (f u) = (f u - 1) * (f u + 1)⁻¹ := rfl
  rw [show 2 * 13 = 26 by decide] at hG
  rw [← hG]
  generalize Gs 13 (sg (f u)) = G at *
  generalize sg (f u) = s at *
  generalize (f u + 1)⁻¹ = y at *
  generalize (f u)⁻¹ = z at *
  generalize f u = x at *
  have e : 1 - s * s = 4 * x * y * y := by
    rw [hS]
    clear hG hS
    grind
  rw [e]
  have e2 : 4 * x * y * y * G * z * g u = (x * z) * (4 * y * y * G * g u) := by clear e hG hS hi hj; grind
  rw [e2, hj]
  clear e e2 hG hS hi hj
  grind
theorem sg_ab (x c d : Rat) (h : Ab (x - 1) d) (hc : 0 < c) (hx : c ≤ x + 1) : Ab (sg x) (d * c⁻¹) := by
  have h2 : 0 < x + 1 := by grind
  have h3 := Rat.inv_pos.2 h2
  have h4 := Rat.inv_pos.2 hc
  have h5 := inv_c (x + 1) (by grind)
  have h6 := inv_c c (by grind)
  have h7 : 0 ≤ (x + 1 - c) * ((x + 1)⁻¹ * c⁻¹) := Rat.mul_nonneg (by grind) (Rat.mul_nonneg (by grind) (by grind))
  refine h.mul ?_
  generalize (x + 1)⁻¹ = F at *
  generalize c⁻¹ = C at *
  generalize x + 1 = z at *
  have h8 : (z - c) * (F * C) = C - F := by grind
  constructor <;> grind
theorem inv_ab (x c : Rat) (hc : 0 < c) (hx : c ≤ x) : Ab x⁻¹ c⁻¹ := by
  have h2 : 0 < x := by grind
  have h3 := Rat.inv_pos.2 h2
  have h4 := Rat.inv_pos.2 hc
  have h5 := inv_c x (by grind)
  have h6 := inv_c c (by grind)
  have h7 : 0 ≤ (x - c) * (x⁻¹ * c⁻¹) := Rat.mul_nonneg (by grind) (Rat.mul_nonneg (by grind) (by grind))
  generalize x⁻¹ = F at *
  generalize c⁻¹ = C at *
  have h8 : (x - c) * (F * C) = C - F := by grind
  constructor <;> grind
theorem es_bd (r : Rat) (h : Ab r (7 / 20)) : Ab (Es 15 r - 1) (42 / 100) := (es_ab r _ h 14).mono (by decide +kernel)
/-- The logarithm's series takes back the power's. -/
theorem back_ab (r : Rat) (h : Ab r (7 / 20)) : Ab (Lg (Es 15 r) - r) (2 / 1000000000000000) := by
  have hn : Nc (fun u => Lg (Es 15 u) + -1 * u) (fun u => (1 - sg (Es 15 u) ^ 26) * (Es 15 u)⁻¹ * Es 14 u + -1 * 1) (Iv (-(7 / 20)) (7 / 20)) :=
    (lg_nc (58 / 100) (by decide +kernel) (es_nc (7 / 20) _ (fun u hu => hu) 14) (fun u hu => by have := (es_bd u hu).1; grind)).add ((Nc.id (7 / 20) _ (fun u hu => hu)).scale (-1))
  have hm := hn.mean (4 / 1000000000000000) (fun u hu => by
    have h1 := es_bd u hu
    have h2 := sg_ab (Es 15 u) (158 / 100) (42 / 100) h1 (by decide +kernel) (by have := h1.1; grind)
    have h3 := h2.pow 26
    have h4 := inv_ab (Es 15 u) (58 / 100) (by decide +kernel) (by have := h1.1; grind)
    have h5 : Ab (ic 14 * u ^ 14) (ic 14 * (7 / 20) ^ 14) := Ab.mul (by constructor <;> decide +kernel) ((show Ab u (7 / 20) from hu).pow 14)
    have h6 := inv_c (Es 15 u) (by have := h1.1; grind)
    have e : Es 14 u = Es 15 u - ic 14 * u ^ 14 := by show _ = Es 14 u + ic 14 * u ^ 14 - _; grind
    have k1 : Ab (1 - sg (Es 15 u) ^ 26) 2 := (Ab.sub (x := 1) (A := 1) (by constructor <;> decide +kernel) h3).mono (by decide +kernel)
    have k2 := (k1.mul h4).mul h5
    have k3 := h3.mono (B := 2 / 1000000000000000) (by decide +kernel)
    have k4 := k2.mono (B := 2 / 1000000000000000) (by decide +kernel)
    rw [e]
    clear h5 h4 h3 h2 h1 k1 k2 e
    generalize sg (Es 15 u) ^ 26 = p at *
    generalize (Es 15 u)⁻¹ = y at *
    generalize Es 15 u = x at *
    generalize ic 14 * u ^ 14 = q at *
    have e3 : (1 - p) * y * (x - q) + -1 * 1 = (1 - p) * (x * y) - 1 - (1 - p) * y * q := by clear h6 k3 k4; grind
    rw [e3, h6]
    unfold Ab at *
    constructor <;> grind) 0 r (7 / 20) (by constructor <;> decide +kernel) h (by have h1 := h.1; have h2 := h.2; constructor <;> grind)
  have h0 : Lg (Es 15 0) + -1 * 0 = 0 := by decide +kernel
  refine (hm.eq (y := Lg (Es 15 r) - r) (by show _ = Lg (Es 15 r) + -1 * r - (Lg (Es 15 0) + -1 * 0); rw [h0]; grind)).mono (by decide +kernel)
/-- How fast the logarithm goes. -/
theorem lg_lip (u v H : Rat) (hu : Iv (55 / 100) (165 / 100) u) (hv : Iv (55 / 100) (165 / 100) v) (h : Ab (v - u) H) : Ab (Lg v - Lg u) (4 * H) := by
  have hn := lg_nc (55 / 100) (by decide +kernel) (Nc.id 2 (Iv (55 / 100) (165 / 100)) (fun u hu => by obtain ⟨a, b⟩ := hu; constructor <;> grind)) (fun u hu => hu.1)
  refine hn.mean 4 (fun x hx => ?_) u v H hu hv h
  obtain ⟨x1, x2⟩ := hx
  have h2 := sg_ab x (155 / 100) (65 / 100) (by constructor <;> grind) (by decide +kernel) (by grind)
  have h3 := h2.pow 26
  have h4 := inv_ab x (55 / 100) (by decide +kernel) (by grind)
  have k1 : Ab (1 - sg x ^ 26) (11 / 10) := (Ab.sub (x := 1) (A := 1) (by constructor <;> decide +kernel) h3).mono (by decide +kernel)
  have k2 := (k1.mul h4).mul (y := 1) (B := 1) (by constructor <;> decide +kernel)
  exact k2.mono (by decide +kernel)
def lHi : Rat := 5954088943 / 8589934592
def lLo : Rat := 5756898648422637 / 77371252455336267181195264
/-- Half of a number: the logarithm of two less. -/
theorem lg_half (S : Rat) (h : Iv (14 / 10) (142 / 100) S) : Ab (Lg (1 / 2 * S) - Lg S + (lHi + lLo)) (1 / 1000000000000000) := by
  have hid := Nc.id 2 (Iv (14 / 10) (142 / 100)) (fun u hu => by obtain ⟨a, b⟩ := hu; constructor <;> grind)
  have n1 := lg_nc (7 / 10) (by decide +kernel) (hid.scale (1 / 2)) (fun u hu => by obtain ⟨a, b⟩ := hu; grind)
  have n2 := lg_nc (14 / 10) (by decide +kernel) hid (fun u hu => hu.1)
  have hn := n1.add (n2.scale (-1))
  have hm := hn.mean (1 / 100000000000000) (fun x hx => by
    obtain ⟨x1, x2⟩ := hx
    have h2 := (sg_ab x (24 / 10) (42 / 100) (by constructor <;> grind) (by decide +kernel) (by grind)).pow 26
    have h3 := (sg_ab (1 / 2 * x) (17 / 10) (3 / 10) (by constructor <;> grind) (by decide +kernel) (by grind)).pow 26
    have h4 := inv_ab x (14 / 10) (by decide +kernel) (by grind)
    have h6 := inv_c x (by grind)
    have h7 := inv_c (1 / 2 * x) (by grind)
    have k3 := (h2.sub h3).mul h4
    have k4 := k3.mono (B := 1 / 100000000000000) (by decide +kernel)
    refine k4.eq ?_
    clear k3 k4 h2 h3 h4
    show (1 - sg (1 / 2 * x) ^ 26) * (1 / 2 * x)⁻¹ * (1 / 2 * 1) + -1 * ((1 - sg x ^ 26) * x⁻¹ * 1) = _
    generalize sg (1 / 2 * x) ^ 26 = p at *
    generalize sg x ^ 26 = q at *
    generalize (1 / 2 * x)⁻¹ = y at *
    generalize x⁻¹ = z at *
    have e : y = 2 * z := by
      have e1 : y = y * (x * z) := by rw [h6]; grind
      have e2 : y * (x * z) = 2 * z * (1 / 2 * x * y) := by clear h6 h7 e1; grind
      rw [e1, e2, h7]
      grind
    rw [e]
    grind) (99 / 70) S (2 / 100) (by constructor <;> decide +kernel) h (by obtain ⟨a, b⟩ := h; constructor <;> grind)
  have h0 : Ab (Lg (1 / 2 * (99 / 70)) + -1 * Lg (99 / 70) + (lHi + lLo)) (1 / 10000000000000000) := by constructor <;> decide +kernel
  refine ((hm.add h0).eq ?_).mono (by decide +kernel)
  show _ = Lg (1 / 2 * S) + -1 * Lg S - (Lg (1 / 2 * (99 / 70)) + -1 * Lg (99 / 70)) + (Lg (1 / 2 * (99 / 70)) + -1 * Lg (99 / 70) + (lHi + lLo))
  generalize Lg (1 / 2 * (99 / 70)) = a
  generalize Lg (99 / 70) = b
  generalize lHi + lLo = c
  grind
end Go.Proofs.Ytfjfpplemgjcmab.An
