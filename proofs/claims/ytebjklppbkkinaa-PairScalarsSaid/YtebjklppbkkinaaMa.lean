/- Remainders of floats: words of whole numbers of units. -/
import Derived.Test.YtebjklppbkkinaaPx
namespace Go.Proofs.Ytebjklppbkkinaa
open Go.RowKit Ieee

/-- The word of V units. -/
def vw (V : Nat) : Nat := Ieee.double.nearest false V (-1074)
/-- V units are a float. -/
def Rp (V : Nat) : Prop := ∃ m e, V = m * 2 ^ e ∧ m < 2 ^ 53 ∧ e ≤ 2045
theorem near_pos (m : Nat) (p : Int) : Ieee.double.nearest false m p < 2 ^ 63 := by
  by_cases h : m = 0
  · subst h
    rw [nearest_zero, word_pos]; decide
  · rw [nearest_rung false m p h, word_pos, rung_eq]
    exact Nat.lt_of_le_of_lt (Nat.min_le_right _ _) (by decide)
theorem vw_shift (m e : Nat) : vw (m * 2 ^ e) = Ieee.double.nearest false m (-1074 + e) := by
  unfold vw
  rw [← Nat.shiftLeft_eq, nearest_shift]
theorem log2_le52 (m : Nat) (h : m < 2 ^ 53) : m.log2 ≤ 52 := by
  by_cases h0 : m = 0
  · subst h0; decide
  · have := (Nat.log2_lt h0).2 h
    omega
theorem vw_ok (V : Nat) (h : Rp V) : vw V < 0x7ff0000000000000 ∧ uv (vw V) = V := by
  obtain ⟨m, e, hV, hm, he⟩ := h
  by_cases h0 : m = 0
  · have : V = 0 := by rw [hV, h0, Nat.zero_mul]
    subst this
    unfold vw
    rw [nearest_zero, word_pos]
    exact ⟨by decide, rfl⟩
  · have hlog := log2_le52 m hm
    obtain ⟨k, hk, hr, hl⟩ := read_near false m (-1074 + e) h0 hm (by omega) (by omega)
    have hp := near_pos m (-1074 + e)
    rw [hV, vw_shift]
    generalize Ieee.double.nearest false m (-1074 + (e : Int)) = x at *
    rw [Nat.mod_eq_of_lt hp] at hl
    refine ⟨hl, ?_⟩
    have hu := read_uv x _ _ _ hr
    rw [Nat.mod_eq_of_lt hp] at hu
    rw [← hu, Nat.shiftLeft_eq, Nat.mul_assoc, ← Nat.pow_add]
    congr 2
    omega
def um (r : Nat) : Nat := if r < 2 ^ 52 then r else 2 ^ 52 + r % 2 ^ 52
def ue (r : Nat) : Nat := r / 2 ^ 52 - 1
theorem uv_parts (r : Nat) : uv r = um r * 2 ^ ue r := by
  unfold uv um ue
  by_cases h : r < 2 ^ 52
  · rw [if_pos h, if_pos h, Nat.div_eq_of_lt h]
    simp
  · rw [if_neg h, if_neg h]
theorem um_lt (r : Nat) : um r < 2 ^ 53 := by
  unfold um
  split
  · omega
  · have := Nat.mod_lt r (show 2 ^ 52 > 0 by decide)
    omega
theorem um_ge (r : Nat) (h : ue r ≠ 0) : 2 ^ 52 ≤ um r := by
  unfold um
  unfold ue at h
  split
  · rename_i hl
    rw [Nat.div_eq_of_lt hl] at h
    omega
  · omega
theorem ue_le (r : Nat) (h : r < 0x7ff0000000000000) : ue r ≤ 2045 := by
  unfold ue
  omega
theorem uv_rp (x : Nat) (h : x < 0x7ff0000000000000) : Rp (uv x) := ⟨um x, ue x, uv_parts x, um_lt x, ue_le x h⟩
theorem uv_inj (a b : Nat) (h : uv a = uv b) : a = b := by
  rcases Nat.lt_trichotomy a b with c | c | c
  · have := uv_strict _ _ c; omega
  · exact c
  · have := uv_strict _ _ c; omega
theorem vw_uv (x : Nat) (h : x < 0x7ff0000000000000) : vw (uv x) = x := uv_inj _ _ (vw_ok _ (uv_rp x h)).2
theorem uv_le_iff (a b : Nat) : uv a ≤ uv b ↔ a ≤ b := by
  constructor
  · intro h
    by_cases c : a ≤ b
    · exact c
    · have := uv_strict b a (by omega); omega
  · exact uv_mono a b
theorem uv_zero (x : Nat) (h : x ≠ 0) : uv x ≠ 0 := by
  have := uv_strict 0 x (by omega)
  omega
/-- Of two that stand near together the difference is exact. -/
theorem sub_exact (a b : Nat) (ha : a < 0x7ff0000000000000) (hle : b ≤ a) (h2 : uv a < 2 * uv b) : Rp (uv a - uv b) := by
  have hb : b < 0x7ff0000000000000 := by omega
  have hEa := ue_le a ha
  have hmono : ue b ≤ ue a := by unfold ue; omega
  have pa := uv_parts a
  have pb := uv_parts b
  obtain ⟨d, hd⟩ : ∃ d, ue a = d + ue b := ⟨ue a - ue b, by omega⟩
  have e : uv a - uv b = (um a * 2 ^ d - um b) * 2 ^ ue b := by
    rw [pa, pb, hd, Nat.pow_add, ← Nat.mul_assoc, Nat.sub_mul]
  refine ⟨_, _, e, ?_, by omega⟩
  have hb53 := um_lt b
  have hlt : (um a * 2 ^ d - um b) * 2 ^ ue b < um b * 2 ^ ue b := by
    rw [← e, ← pb]; omega
  have := Nat.lt_of_mul_lt_mul_right hlt
  omega
theorem sub_words (a b : Nat) (ha : a < 0x7ff0000000000000) (hle : b ≤ a) : floatBits .sub .f64 a b = some (vw (uv a - uv b)) := by
  have hb : b < 0x7ff0000000000000 := by omega
  obtain ⟨m, i, hr, hu⟩ := read_pos a ha
  obtain ⟨n, j, hr2, hu2⟩ := read_pos b hb
  rw [sub_fin a b false false m n i j hr hr2, hu, hu2]
  have hm := uv_mono b a hle
  have e : ((uv a : Int) - (uv b : Int)) = ((uv a - uv b : Nat) : Int) := by omega
  rw [e]
  unfold wr vw
  congr 1
  by_cases h0 : ((uv a - uv b : Nat) : Int) = 0
  · rw [if_pos h0]
    rfl
  · rw [if_neg h0, decide_eq_false (show ¬ ((uv a - uv b : Nat) : Int) < 0 by omega)]
    rfl
/-- Scaled up to 53 digits. -/
theorem nm_scaled (x M : Nat) (P : Int) (hx : x < 0x7ff0000000000000) (h : Nm x M P) : uv x * 2 ^ 52 = M * 2 ^ (P + 1126).toNat := by
  obtain ⟨h1, h2, h3, h4, m, i, k, hr, hm, hM, hP, hi⟩ := h
  have hu := read_uv x _ _ _ hr
  rw [Nat.mod_eq_of_lt (show x < 2 ^ 63 by omega)] at hu
  rw [← hu, hM, Nat.shiftLeft_eq, Nat.mul_assoc, Nat.mul_assoc, ← Nat.pow_add, ← Nat.pow_add]
  congr 2
  omega
theorem nm_up (x M : Nat) (P : Int) (hx : x < 0x7ff0000000000000) (h : Nm x M P) (k : Nat) : Ieee.double.nearest false M (P + k) = vw (uv x * 2 ^ k) := by
  obtain ⟨m, i, hr, hm0, hm, hi, hn⟩ := h.near
  have hu := read_uv x _ _ _ hr
  rw [Nat.mod_eq_of_lt (show x < 2 ^ 63 by omega)] at hu
  rw [← hn, ← hu, Nat.mul_assoc, ← Nat.pow_add, vw_shift]
  congr 1
  omega
theorem nm_ex (x : Nat) (h0 : x ≠ 0) (hx : x < 0x7ff0000000000000) : ∃ M P, Nm x M P := by
  by_cases h : x < 2 ^ 52
  · obtain ⟨M, P, h, _⟩ := nm_sub x h0 h
    exact ⟨M, P, h⟩
  · exact ⟨_, _, nm_normal x (by omega) hx⟩
/-- How often y goes, by the parts. -/
def kk (M N : Nat) (P Q : Int) : Int := if M < N then P - Q - 1 else P - Q
theorem goes (x y M N : Nat) (P Q : Int) (hx : x < 0x7ff0000000000000) (hy : y < 0x7ff0000000000000) (h : Nm x M P) (h' : Nm y N Q) (hle : y ≤ x) :
    ∃ k : Nat, kk M N P Q = k ∧ uv y * 2 ^ k ≤ uv x ∧ uv x < 2 * (uv y * 2 ^ k) := by
  have e1 := nm_scaled x M P hx h
  have e2 := nm_scaled y N Q hy h'
  have hv := uv_mono y x hle
  have hM1 := h.1
  have hM2 := h.2.1
  have hN1 := h'.1
  have hN2 := h'.2.1
  have hP := h.2.2.2.1
  have hQ := h'.2.2.2.1
  obtain ⟨a, ha⟩ : ∃ a, (P + 1126).toNat = a := ⟨_, rfl⟩
  obtain ⟨b, hb⟩ : ∃ b, (Q + 1126).toNat = b := ⟨_, rfl⟩
  rw [ha] at e1
  rw [hb] at e2
  generalize uv x = X at *
  generalize uv y = Y at *
  have hlow : ∀ s, M * 2 ^ a < 2 ^ 52 * 2 ^ (a + 1) * 2 ^ s := fun s => by
    have p1 : 0 < 2 ^ a := Nat.two_pow_pos _
    have p2 : 1 ≤ 2 ^ s := Nat.two_pow_pos _
    calc M * 2 ^ a < 2 ^ 53 * 2 ^ a := Nat.mul_lt_mul_of_pos_right hM2 p1
      _ = 2 ^ 52 * 2 ^ (a + 1) := by rw [Nat.pow_succ]; omega
      _ ≤ _ := Nat.le_mul_of_pos_right _ p2
  have hab : b ≤ a := by
    refine Decidable.byContradiction fun hc => ?_
    obtain ⟨s, hs⟩ : ∃ s, b = a + 1 + s := ⟨b - a - 1, by omega⟩
    have h3 := hlow s
    have h4 : 2 ^ 52 * 2 ^ b ≤ N * 2 ^ b := Nat.mul_le_mul_right _ hN1
    rw [hs, Nat.pow_add, ← Nat.mul_assoc] at h4
    rw [hs, Nat.pow_add] at e2
    rw [← Nat.mul_assoc] at e2
    have h5 : N * 2 ^ (a + 1) * 2 ^ s ≤ M * 2 ^ a := by rw [← e1, ← e2]; exact Nat.mul_le_mul_right _ hv
    rw [← Nat.mul_assoc] at h4
    omega
  unfold kk
  by_cases hc : M < N
  · rw [if_pos hc]
    have hne : b ≠ a := by
      intro he
      rw [he] at e2
      have : M * 2 ^ a < N * 2 ^ a := Nat.mul_lt_mul_of_pos_right hc (Nat.two_pow_pos _)
      omega
    obtain ⟨k, hk⟩ : ∃ k, a = b + k + 1 := ⟨a - b - 1, by omega⟩
    refine ⟨k, by omega, ?_, ?_⟩
    · refine Nat.le_of_mul_le_mul_right (c := 2 ^ 52) ?_ (by decide)
      rw [Nat.mul_right_comm, e2, e1, hk, Nat.mul_assoc, ← Nat.pow_add, Nat.pow_succ]
      have : N * 2 ^ (b + k) < 2 ^ 53 * 2 ^ (b + k) := Nat.mul_lt_mul_of_pos_right hN2 (Nat.two_pow_pos _)
      have h6 : 2 ^ 52 * 2 ^ (b + k) ≤ M * 2 ^ (b + k) := Nat.mul_le_mul_right _ hM1
      rw [← Nat.mul_assoc]
      omega
    · refine Nat.lt_of_mul_lt_mul_right (a := 2 ^ 52) ?_
      rw [Nat.mul_assoc, Nat.mul_right_comm, e2, e1, hk, Nat.mul_assoc N, ← Nat.pow_add, Nat.pow_succ, ← Nat.mul_assoc M]
      have : M * 2 ^ (b + k) < N * 2 ^ (b + k) := Nat.mul_lt_mul_of_pos_right hc (Nat.two_pow_pos _)
      omega
  · rw [if_neg hc]
    obtain ⟨k, hk⟩ : ∃ k, a = b + k := ⟨a - b, by omega⟩
    refine ⟨k, by omega, ?_, ?_⟩
    · refine Nat.le_of_mul_le_mul_right (c := 2 ^ 52) ?_ (by decide)
      rw [Nat.mul_right_comm, e2, e1, hk, Nat.mul_assoc, ← Nat.pow_add]
      exact Nat.mul_le_mul_right _ (by omega)
    · refine Nat.lt_of_mul_lt_mul_right (a := 2 ^ 52) ?_
      rw [Nat.mul_assoc, Nat.mul_right_comm, e2, e1, hk, Nat.mul_assoc N, ← Nat.pow_add]
      have h7 : M * 2 ^ (b + k) < 2 ^ 53 * 2 ^ (b + k) := Nat.mul_lt_mul_of_pos_right hM2 (Nat.two_pow_pos _)
      have h8 : 2 ^ 52 * 2 ^ (b + k) ≤ N * 2 ^ (b + k) := Nat.mul_le_mul_right _ hN1
      omega
/-- One round. -/
theorem round_mod (X Y k : Nat) (h : Y * 2 ^ k ≤ X) : (X - Y * 2 ^ k) % Y = X % Y := by
  conv => rhs; rw [show X = X - Y * 2 ^ k + Y * 2 ^ k by omega]
  rw [Nat.add_mul_mod_self_left]
end Go.Proofs.Ytebjklppbkkinaa
