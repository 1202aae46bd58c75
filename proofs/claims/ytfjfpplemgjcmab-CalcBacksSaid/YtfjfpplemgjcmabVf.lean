/- The operations of floats, as rational numbers. -/
import Derived.Test.YtfjfpplemgjcmabVe
namespace Go.Proofs.Ytfjfpplemgjcmab
open Go.RowKit Ieee An

theorem V.uniq {x : Nat} {a b : Rat} (h : V x a) (h' : V x b) : a = b := by
  obtain ⟨s, m, i, hr, rfl⟩ := h
  obtain ⟨t, n, j, hr', rfl⟩ := h'
  rw [hr] at hr'
  cases hr'
  rfl
theorem vl_size (s : Bool) (mag : Nat) (place : Int) (Z : Rat) (h : Ab (vl s mag place) Z) : (mag : Rat) * tw place ≤ Z := by
  have h1 := (sv_ab s).mul h
  have e : sv s * vl s mag place = (mag : Rat) * tw place := by
    unfold vl
    rw [← Rat.mul_assoc, sv_sq]
    grind
  rw [e] at h1
  have := h1.2
  grind
theorem big_of (s : Bool) (mag : Nat) (place : Int) (h : Ab (vl s mag place) 2000000) : mag ≠ 0 → place + (mag.log2 : Int) ≤ 1000 := by
  intro h0
  have h1 := vl_size s mag place _ h
  apply tw_le
  rw [tw_add, tw_nat]
  have h2 : ((2 ^ mag.log2 : Nat) : Rat) ≤ (mag : Rat) := Rat.natCast_le_natCast.2 (Nat.log2_self_le h0)
  have h3 := tw_pos place
  have h4 := Rat.mul_nonneg (a := (mag : Rat) - ((2 ^ mag.log2 : Nat) : Rat)) (b := tw place) (by grind) (by grind)
  have h5 : (2000000 : Rat) ≤ tw 1000 := by decide +kernel
  grind
theorem near_ok (s : Bool) (mag : Nat) (place : Int) (h : Ab (vl s mag place) 2000000) : ∃ q, V (Ieee.double.nearest s mag place) q ∧ Hf (vl s mag place) q := near_rd s mag place (big_of s mag place h)
theorem vl_mul (s t : Bool) (m n : Nat) (i j : Int) : vl (s ^^ t) (m * n) (i + j) = vl s m i * vl t n j := by
  unfold vl
  rw [sv_xor, tw_add, Rat.natCast_mul]
  grind
theorem mul_v {x y : Nat} {a b : Rat} (hx : V x a) (hy : V y b) (hb : Ab (a * b) 1000000) : ∃ r q, fb .mul (some x) (some y) = some r ∧ V r q ∧ Rd (a * b) q := by
  obtain ⟨s, m, i, hr, rfl⟩ := hx
  obtain ⟨t, n, j, hr', rfl⟩ := hy
  have e : fb .mul (some x) (some y) = ((Ieee.double.read x).product (Ieee.double.read y)).map Ieee.double.write := rfl
  rw [← vl_mul] at hb ⊢
  obtain ⟨q, h1, h2⟩ := near_ok _ _ _ (hb.mono (by decide +kernel))
  exact ⟨_, q, by rw [e, hr, hr']; rfl, h1, h2.rd⟩
theorem wr_vl (z : Int) (b : Bool) : vl (if z = 0 then b else decide (z < 0)) z.natAbs (-1074) = (z : Rat) * tw (-1074) := by
  by_cases h : z = 0
  · subst h
    rw [if_pos rfl]
    unfold vl
    show _ * (0 * _) = 0 * _
    grind
  · rw [if_neg h]
    unfold vl
    by_cases hn : z < 0
    · rw [decide_eq_true hn]
      have e : (z : Rat) = -((z.natAbs : Nat) : Rat) := by
        rw [← Rat.intCast_natCast, ← Rat.intCast_neg]
        congr 1
        omega
      rw [e]
      show -1 * _ = _
      grind
    · rw [decide_eq_false hn]
      have e : (z : Rat) = ((z.natAbs : Nat) : Rat) := by
        rw [← Rat.intCast_natCast]
        congr 1
        omega
      rw [e]
      show 1 * _ = _
      grind
theorem add_v {x y : Nat} {a b : Rat} (hx : V x a) (hy : V y b) (hb : Ab (a + b) 1000000) : ∃ r q, fb .add (some x) (some y) = some r ∧ V r q ∧ Rd (a + b) q := by
  obtain ⟨s, m, i, hr, rfl⟩ := hx
  obtain ⟨t, n, j, hr', rfl⟩ := hy
  have e : vl (if un s m i + un t n j = 0 then (s && t) else decide (un s m i + un t n j < 0)) (un s m i + un t n j).natAbs (-1074) = vl s m i + vl t n j := by
    rw [wr_vl, Rat.intCast_add, Rat.add_mul, un_vl s m i (read_place _ _ _ _ hr).1, un_vl t n j (read_place _ _ _ _ hr').1]
  rw [← e] at hb ⊢
  obtain ⟨q, h1, h2⟩ := near_ok _ _ _ (hb.mono (by decide +kernel))
  exact ⟨_, q, add_fin x y s t m n i j hr hr', h1, h2.rd⟩
theorem sub_v {x y : Nat} {a b : Rat} (hx : V x a) (hy : V y b) (hb : Ab (a - b) 1000000) : ∃ r q, fb .sub (some x) (some y) = some r ∧ V r q ∧ Rd (a - b) q := by
  obtain ⟨s, m, i, hr, rfl⟩ := hx
  obtain ⟨t, n, j, hr', rfl⟩ := hy
  have e : vl (if un s m i - un t n j = 0 then (s && !t) else decide (un s m i - un t n j < 0)) (un s m i - un t n j).natAbs (-1074) = vl s m i - vl t n j := by
    rw [wr_vl, Rat.intCast_sub, ← un_vl s m i (read_place _ _ _ _ hr).1, ← un_vl t n j (read_place _ _ _ _ hr').1]
    grind
  rw [← e] at hb ⊢
  obtain ⟨q, h1, h2⟩ := near_ok _ _ _ (hb.mono (by decide +kernel))
  exact ⟨_, q, sub_fin x y s t m n i j hr hr', h1, h2.rd⟩
theorem Hf.comp {z z' r d : Rat} (h : Hf z' r) (e : z' = z * (1 + d)) (hd : Ab d (ep / 4)) : Rd z r := by
  obtain ⟨e1, e2, e3⟩ := ep_facts
  rcases h with ⟨c, hq, hc⟩ | h
  · have h1 := hc.mul hd
    have h2 : ep / 2 * (ep / 4) ≤ ep / 8 := by
      have := Rat.mul_nonneg (a := ep) (b := 1 - ep) (by grind) (by grind)
      grind
    exact ⟨c + d + c * d, 0, by rw [hq, e]; grind, ((hc.add hd).add (h1.mono h2)).mono (by grind), ⟨by grind, by grind⟩⟩
  · exact ⟨d, r - z', by rw [← e]; grind, hd.mono (by grind), h⟩
/-- A quotient's digits: how far they are from it. -/
theorem quo_near (m n more : Nat) (i j : Int) (hm : m ≠ 0) (hn : n ≠ 0) (hmore : more = 54 + n.log2 - m.log2) (hm53 : m.log2 ≤ 52) (Z : Rat) (hZ : (n : Rat) * tw j * Z = (m : Rat) * tw i) :
    ∃ d, ((2 * (m * 2 ^ more / n) + (m * 2 ^ more % n != 0).toNat : Nat) : Rat) * tw (i - j - more - 1) = Z * (1 + d) ∧ Ab d (ep / 4) := by
  have hd := Nat.div_add_mod (m * 2 ^ more) n
  have hlt := Nat.mod_lt (m * 2 ^ more) (Nat.pos_of_ne_zero hn)
  have hbig : 2 ^ 53 * n ≤ m * 2 ^ more := by
    have h1 := Nat.log2_self_le hm
    have h2 := Nat.lt_log2_self (n := n)
    have h3 : 2 ^ m.log2 * 2 ^ more ≤ m * 2 ^ more := Nat.mul_le_mul_right _ h1
    rw [← Nat.pow_add, show m.log2 + more = 53 + (n.log2 + 1) by omega, Nat.pow_add] at h3
    have h4 : 2 ^ 53 * n ≤ 2 ^ 53 * 2 ^ (n.log2 + 1) := Nat.mul_le_mul_left _ (Nat.le_of_lt h2)
    omega
  obtain ⟨st, hst⟩ : ∃ st, (m * 2 ^ more % n != 0).toNat = st := ⟨_, rfl⟩
  have hst2 : n * st ≤ 2 * (m * 2 ^ more % n) + n ∧ 2 * (m * 2 ^ more % n) ≤ n * st + n := by
    rw [← hst]
    by_cases h : m * 2 ^ more % n = 0
    · rw [h]; simp
    · have : (m * 2 ^ more % n != 0) = true := by simpa using h
      rw [this]
      simp
      omega
  rw [hst]
  have ei : tw i = tw j * (((2 ^ more : Nat) : Rat) * (2 * tw (i - j - more - 1))) := by
    rw [show (2 : Rat) = tw 1 by decide +kernel, ← tw_nat, ← tw_add, ← tw_add, ← tw_add]
    congr 1
    omega
  have hp := tw_pos (i - j - more - 1)
  have hj := tw_pos j
  rw [ei] at hZ
  generalize tw (i - j - more - 1) = p at *
  generalize tw j = c at *
  have hN : (0 : Rat) < (n : Rat) := Rat.natCast_pos.2 (by omega)
  have hd' : ((m * 2 ^ more : Nat) : Rat) = (n : Rat) * ((m * 2 ^ more / n : Nat) : Rat) + ((m * 2 ^ more % n : Nat) : Rat) := by rw [← Rat.natCast_mul, ← Rat.natCast_add, hd]
  have hb' : (((2 ^ 53 * n : Nat)) : Rat) ≤ ((m * 2 ^ more : Nat) : Rat) := Rat.natCast_le_natCast.2 hbig
  have s1 := Rat.natCast_le_natCast.2 hst2.1
  have s2 := Rat.natCast_le_natCast.2 hst2.2
  have eq1 : (n : Rat) * Z = ((m * 2 ^ more : Nat) : Rat) * (2 * p) := by
    have h1 : c * ((n : Rat) * Z) = c * (((m * 2 ^ more : Nat) : Rat) * (2 * p)) := by
      rw [Rat.natCast_mul]
      grind
    have hc := inv_c c (by grind)
    generalize c⁻¹ = y at hc
    have h2 : (c * y) * ((n : Rat) * Z) = (c * y) * (((m * 2 ^ more : Nat) : Rat) * (2 * p)) := by grind
    rw [hc] at h2
    grind
  generalize m * 2 ^ more / n = q at *
  generalize m * 2 ^ more % n = t at *
  generalize m * 2 ^ more = D at *
  simp only [Rat.natCast_add, Rat.natCast_mul] at *
  rw [show ((2 : Nat) : Rat) = 2 from rfl] at *
  rw [show ((2 ^ 53 : Nat) : Rat) = 9007199254740992 from by decide +kernel] at hb'
  generalize (q : Rat) = q at *
  generalize (t : Rat) = t at *
  generalize (st : Rat) = st at *
  generalize (D : Rat) = D at *
  generalize (n : Rat) = n at *
  have hni := inv_c n (by grind)
  have hnp := Rat.inv_pos.2 hN
  have hZ1 : 18014398509481984 * p ≤ Z := by
    have h1 := Rat.mul_nonneg (a := D - 9007199254740992 * n) (b := 2 * p) (by grind) (by grind)
    have h2 : 0 ≤ n * (Z - 18014398509481984 * p) := by grind
    have h3 := Rat.mul_nonneg (Rat.le_of_lt hnp) h2
    generalize n⁻¹ = y at *
    have e : y * (n * (Z - 18014398509481984 * p)) = (n * y) * (Z - 18014398509481984 * p) := by clear hni; grind
    rw [e, hni] at h3
    grind
  have hZp : 0 < Z := by grind
  have hdiff : Ab ((2 * q + st) * p - Z) p := by
    have h1 : n * ((2 * q + st) * p - Z) = (n * st - 2 * t) * p := by grind
    have h2 : Ab (n * st - 2 * t) n := by constructor <;> grind
    have h3 := (h2.mul (y := p) (B := p) (by constructor <;> grind)).mul (y := n⁻¹) (B := n⁻¹) (by constructor <;> grind)
    rw [← h1] at h3
    generalize n⁻¹ = y at *
    have e1 : n * ((2 * q + st) * p - Z) * y = (n * y) * ((2 * q + st) * p - Z) := by clear hni h1; grind
    have e2 : n * p * y = (n * y) * p := by clear hni h1; grind
    rw [e1, e2, hni] at h3
    exact (h3.eq (by grind)).mono (by grind)
  have hi := inv_c Z (by grind)
  have hip := Rat.inv_pos.2 hZp
  refine ⟨((2 * q + st) * p - Z) * Z⁻¹, ?_, ?_⟩
  · generalize Z⁻¹ = y at *
    generalize (2 * q + st) * p = w at *
    have e : Z * (1 + (w - Z) * y) = Z + (w - Z) * (Z * y) := by clear hi; grind
    rw [e, hi]
    grind
  · have h1 : Ab ((2 * q + st) * p - Z) (ep / 4 * Z) := hdiff.mono (by
      rw [show ep / 4 = 1 / 18014398509481984 by decide +kernel]
      grind)
    have h2 := h1.mul (y := Z⁻¹) (B := Z⁻¹) (by constructor <;> grind)
    generalize Z⁻¹ = y at *
    rw [Rat.mul_assoc (ep / 4), hi] at h2
    exact h2.mono (by grind)
end Go.Proofs.Ytfjfpplemgjcmab
