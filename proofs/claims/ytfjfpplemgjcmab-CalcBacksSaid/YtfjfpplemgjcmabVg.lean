/- Quotients, floors, whole numbers and constants; both series as they are reckoned. -/
import Derived.Test.YtfjfpplemgjcmabVf
namespace Go.Proofs.Ytfjfpplemgjcmab
open Go.RowKit Ieee An

theorem quo_v {x y : Nat} {a b : Rat} (hx : V x a) (hy : V y b) (hb0 : b ≠ 0) (hb : Ab (a * b⁻¹) 1000000) : ∃ r q, fb .quo (some x) (some y) = some r ∧ V r q ∧ Rd (a * b⁻¹) q := by
  obtain ⟨s, m, i, hr, rfl⟩ := hx
  obtain ⟨t, n, j, hr', rfl⟩ := hy
  have e : fb .quo (some x) (some y) = ((Ieee.double.read x).quotient 54 (Ieee.double.read y)).map Ieee.double.write := rfl
  have hn : n ≠ 0 := by
    intro h
    apply hb0
    rw [h]
    unfold vl
    show _ * (0 * _) = _
    grind
  have e2 : ((Datum.number s m i).quotient 54 (.number t n j)).map Ieee.double.write = some (Ieee.double.nearest (s ^^ t) (2 * (m <<< (54 + n.log2 - m.log2) / n) + (m <<< (54 + n.log2 - m.log2) % n != 0).toNat) (i - j - (54 + n.log2 - m.log2 : Nat) - 1)) := by
    unfold Datum.quotient
    simp only
    rw [if_neg hn]
    rfl
  rw [e, hr, hr', e2, Nat.shiftLeft_eq]
  have hm53 : m.log2 ≤ 52 := by
    by_cases h0 : m = 0
    · subst h0; decide
    · have := (Nat.log2_lt h0).2 (read_place _ _ _ _ hr).2
      omega
  generalize hmore : 54 + n.log2 - m.log2 = more
  by_cases h0 : m = 0
  · subst h0
    have ez : vl s 0 i * (vl t n j)⁻¹ = 0 := by
      unfold vl
      show _ * (0 * _) * _ = _
      grind
    rw [Nat.zero_mul, Nat.zero_div, Nat.zero_mod, ez]
    have e3 : vl (s ^^ t) (2 * 0 + (0 != 0).toNat) (i - j - more - 1) = 0 := by
      unfold vl
      show _ * (0 * _) = _
      grind
    obtain ⟨q, h1, h2⟩ := near_ok (s ^^ t) (2 * 0 + (0 != 0).toNat) (i - j - more - 1) (by rw [e3]; constructor <;> decide +kernel)
    rw [e3] at h2
    exact ⟨_, q, rfl, h1, h2.rd⟩
  · have hN : (0 : Rat) < (n : Rat) * tw j := Rat.mul_pos (Rat.natCast_pos.2 (by omega)) (tw_pos j)
    have hNi := inv_c _ (show (n : Rat) * tw j ≠ 0 by grind)
    obtain ⟨d, h1, h2⟩ := quo_near m n more i j h0 hn hmore.symm hm53 ((m : Rat) * tw i * ((n : Rat) * tw j)⁻¹) (by
      generalize ((n : Rat) * tw j)⁻¹ = y at *
      generalize (n : Rat) * tw j = B at *
      grind)
    have eb : (vl t n j)⁻¹ = sv t * ((n : Rat) * tw j)⁻¹ := by
      apply Rat.inv_eq_of_mul_eq_one
      unfold vl
      have ht := sv_sq t
      generalize ((n : Rat) * tw j)⁻¹ = y at *
      generalize (n : Rat) * tw j = B at *
      have e5 : sv t * B * (sv t * y) = (sv t * sv t) * (B * y) := by clear hNi ht; grind
      rw [e5, ht, hNi]
      decide +kernel
    have ea : vl s m i * (vl t n j)⁻¹ = sv (s ^^ t) * ((m : Rat) * tw i * ((n : Rat) * tw j)⁻¹) := by
      rw [eb, sv_xor]
      unfold vl
      grind
    generalize hQ : 2 * (m * 2 ^ more / n) + (m * 2 ^ more % n != 0).toNat = Q at *
    have ev : vl (s ^^ t) Q (i - j - more - 1) = vl s m i * (vl t n j)⁻¹ * (1 + d) := by
      rw [ea]
      unfold vl
      rw [h1]
      grind
    have hd2 : Ab (1 + d) 2 := by
      obtain ⟨e1, e2, e3⟩ := ep_facts
      obtain ⟨a, b⟩ := h2
      constructor <;> grind
    obtain ⟨q, h3, h4⟩ := near_ok (s ^^ t) Q (i - j - more - 1) (by rw [ev]; exact (hb.mul hd2).mono (by decide +kernel))
    exact ⟨_, q, rfl, h3, h4.comp ev h2⟩
/-- A number of few digits is written as it is. -/
theorem near_exact (s : Bool) (m : Nat) (i : Int) (hm : m < 2 ^ 53) (hp : -1074 ≤ i) (ht : m ≠ 0 → i + (m.log2 : Int) ≤ 1023) : V (Ieee.double.nearest s m i) (vl s m i) := by
  by_cases h0 : m = 0
  · subst h0
    rw [nearest_zero]
    refine ⟨s, 0, -1074, read_zero s, ?_⟩
    unfold vl
    show _ * (0 * _) = _ * (0 * _)
    grind
  · obtain ⟨k, hk, hr, _⟩ := read_near s m i h0 hm hp (ht h0)
    refine ⟨s, _, _, hr, ?_⟩
    unfold vl
    have e : tw i = ((2 ^ k : Nat) : Rat) * tw (i - k) := by rw [← tw_nat, ← tw_add]; congr 1; omega
    rw [e, Nat.shiftLeft_eq, Rat.natCast_mul, Rat.mul_assoc]
theorem down_val (neg : Bool) (n d : Nat) : (neg = false → Toward.down.cut neg n d * 2 ^ d ≤ n ∧ n ≤ Toward.down.cut neg n d * 2 ^ d + 2 ^ d) ∧ (neg = true → n ≤ Toward.down.cut neg n d * 2 ^ d ∧ Toward.down.cut neg n d * 2 ^ d ≤ n + 2 ^ d) := by
  rw [down_form]
  by_cases h : d ≤ n.log2 + 2
  · rw [Nat.min_eq_left h, Nat.shiftLeft_eq, Nat.one_mul]
    have h1 := Nat.div_add_mod n (2 ^ d)
    have h2 := Nat.mod_lt n (Nat.two_pow_pos d)
    rw [Nat.mul_comm] at h1
    generalize n / 2 ^ d = q at *
    generalize n % 2 ^ d = t at *
    generalize 2 ^ d = P at *
    refine ⟨fun hn => ?_, fun hn => ?_⟩
    · subst hn
      simp
      omega
    · subst hn
      by_cases ht : t = 0
      · subst ht; simp; omega
      · have : (t != 0) = true := by simpa using ht
        simp [this, Nat.add_mul]
        omega
  · have e : (1 : Nat) <<< min d (n.log2 + 2) = 2 ^ (n.log2 + 2) := by rw [Nat.min_eq_right (by omega), Nat.shiftLeft_eq, Nat.one_mul]
    have h1 := Nat.lt_log2_self (n := n)
    have h2 : 2 ^ (n.log2 + 1) ≤ 2 ^ (n.log2 + 2) := pow_le _ _ (by omega)
    have h3 : 2 ^ (n.log2 + 2) ≤ 2 ^ d := pow_le _ _ (by omega)
    rw [e, Nat.div_eq_of_lt (show n < 2 ^ (n.log2 + 2) by omega), Nat.mod_eq_of_lt (show n < 2 ^ (n.log2 + 2) by omega)]
    generalize 2 ^ d = P at *
    refine ⟨fun hn => ?_, fun hn => ?_⟩
    · subst hn
      simp
      omega
    · subst hn
      by_cases ht : n = 0
      · subst ht; simp
      · have : (n != 0) = true := by simpa using ht
        simp [this]
        omega
theorem flr_v {y : Nat} {a : Rat} (hy : V y a) (K : Int) (hK : floatToIntVal .f64 (flr y) .i64 = some K) (hb : Ab a 100000) : V (flr y) (K : Rat) ∧ (K : Rat) ≤ a ∧ a ≤ (K : Rat) + 1 := by
  obtain ⟨s, m, i, hr, rfl⟩ := hy
  have hi := (read_place y s m i hr).1
  obtain ⟨c, hc⟩ : ∃ c, Toward.down.cut s (m <<< i.toNat) (-i).toNat = c := ⟨_, rfl⟩
  have hdv := down_val s (m <<< i.toNat) (-i).toNat
  rw [hc, Nat.shiftLeft_eq] at hdv
  have hsz := vl_size s m i _ hb
  have hpos := tw_pos (min i 0)
  have ei : tw i = ((2 ^ i.toNat : Nat) : Rat) * tw (min i 0) := by rw [← tw_nat, ← tw_add]; congr 1; omega
  have e1 : ((2 ^ (-i).toNat : Nat) : Rat) * tw (min i 0) = 1 := by
    rw [← tw_nat, ← tw_add, show (((-i).toNat : Nat) : Int) + min i 0 = 0 by omega]
    decide +kernel
  have key : (s = false → (c : Rat) ≤ (m : Rat) * tw i ∧ (m : Rat) * tw i ≤ (c : Rat) + 1) ∧ (s = true → (m : Rat) * tw i ≤ (c : Rat) ∧ (c : Rat) ≤ (m : Rat) * tw i + 1) := by
    rw [ei]
    refine ⟨fun hs => ?_, fun hs => ?_⟩
    · obtain ⟨a1, a2⟩ := hdv.1 hs
      have x1 := Rat.mul_le_mul_of_nonneg_right (Rat.natCast_le_natCast.2 a1) (Rat.le_of_lt hpos)
      have x2 := Rat.mul_le_mul_of_nonneg_right (Rat.natCast_le_natCast.2 a2) (Rat.le_of_lt hpos)
      simp only [Rat.natCast_add, Rat.natCast_mul] at x1 x2
      generalize ((2 ^ (-i).toNat : Nat) : Rat) = P at *
      generalize ((2 ^ i.toNat : Nat) : Rat) = R at *
      generalize tw (min i 0) = w at *
      rw [Rat.mul_assoc (c : Rat) P w, e1, Rat.mul_assoc] at x1
      rw [Rat.add_mul, Rat.mul_assoc (c : Rat) P w, e1, Rat.mul_assoc] at x2
      generalize (m : Rat) * (R * w) = g at *
      clear hdv ei hsz hb hK
      constructor <;> grind
    · obtain ⟨a1, a2⟩ := hdv.2 hs
      have x1 := Rat.mul_le_mul_of_nonneg_right (Rat.natCast_le_natCast.2 a1) (Rat.le_of_lt hpos)
      have x2 := Rat.mul_le_mul_of_nonneg_right (Rat.natCast_le_natCast.2 a2) (Rat.le_of_lt hpos)
      simp only [Rat.natCast_add, Rat.natCast_mul] at x1 x2
      generalize ((2 ^ (-i).toNat : Nat) : Rat) = P at *
      generalize ((2 ^ i.toNat : Nat) : Rat) = R at *
      generalize tw (min i 0) = w at *
      rw [Rat.mul_assoc (c : Rat) P w, e1, Rat.mul_assoc] at x1
      rw [Rat.add_mul, Rat.mul_assoc (c : Rat) P w, e1, Rat.mul_assoc] at x2
      generalize (m : Rat) * (R * w) = g at *
      clear hdv ei hsz hb hK
      constructor <;> grind
  have hcb : c ≤ 100001 := by
    apply Rat.natCast_le_natCast.1
    cases s
    · have := (key.1 rfl).1
      show _ ≤ (100001 : Rat)
      grind
    · have := (key.2 rfl).2
      show _ ≤ (100001 : Rat)
      grind
  have hf : flr y = Ieee.double.nearest s c 0 := by
    unfold flr
    rw [hr]
    show Ieee.double.nearest s (Toward.down.cut s (m <<< i.toNat) (-i).toNat) 0 = _
    rw [hc]
  have hlog : c ≠ 0 → (0 : Int) + (c.log2 : Int) ≤ 1023 := fun h0 => by
    have := (Nat.log2_lt h0).2 (show c < 2 ^ 53 by omega)
    omega
  have hkey : (FloatKind.f64.decode (flr y)).toInt .zero = some (Ieee.signed s c 0) := by
    show (Ieee.double.read (flr y)).toInt .zero = _
    rw [hf]
    by_cases h0 : c = 0
    · subst h0
      rw [nearest_zero, read_zero]
      rfl
    · obtain ⟨k, hk, hr2, _⟩ := read_near s c 0 h0 (by omega) (by decide) (hlog h0)
      rw [hr2]
      simp only [Datum.toInt, Datum.integral]
      rw [show ((0 : Int) - (k : Int)).toNat = 0 by omega, show (-((0 : Int) - (k : Int))).toNat = k by omega, Nat.shiftLeft_zero, zero_exact]
  have hKe : K = Ieee.signed s c 0 := by
    unfold floatToIntVal at hK
    rw [hkey] at hK
    simp only at hK
    split at hK
    · exact (Option.some.inj hK).symm
    · cases hK
  have hKv : (K : Rat) = vl s c 0 := by
    rw [hKe, signed_eq, Nat.pow_zero, Nat.mul_one]
    unfold vl sv
    rw [show tw 0 = 1 by decide +kernel]
    cases s
    · rw [if_neg (by decide), if_neg (by decide), Rat.intCast_mul, Rat.intCast_natCast]
      show (1 : Rat) * _ = _
      grind
    · rw [if_pos rfl, if_pos rfl, Rat.intCast_mul, Rat.intCast_natCast]
      show (-1 : Rat) * _ = _
      grind
  refine ⟨by rw [hf, hKv]; exact near_exact s c 0 (by omega) (by decide) hlog, ?_⟩
  rw [hKv]
  unfold vl
  rw [show tw 0 = 1 by decide +kernel]
  cases s
  · have := key.1 rfl
    show 1 * _ ≤ 1 * _ ∧ 1 * _ ≤ 1 * _ + 1
    grind
  · have := key.2 rfl
    show -1 * _ ≤ -1 * _ ∧ -1 * _ ≤ -1 * _ + 1
    grind
theorem tw_back (k : Nat) (N : Nat) (hN : N = 2 ^ k) : (N : Rat) * tw (-(k : Int)) = 1 := by
  rw [hN, ← tw_nat, ← tw_add, show (k : Int) + -(k : Int) = 0 by omega]
  decide +kernel
theorem iw_v (n : Int) (hl : -9007199254740992 ≤ n) (hu : n ≤ 9007199254740992) : V (iw n) (n : Rat) := by
  obtain ⟨m, i, h1, h2, _⟩ := iw_read n hl hu
  refine ⟨_, m, i, h1, ?_⟩
  have hb := tw_back 1074 _ rfl
  generalize 2 ^ 1074 = N at *
  rw [← un_vl _ _ _ (read_place _ _ _ _ h1).1, h2, Rat.intCast_mul, Rat.intCast_natCast, Rat.mul_assoc]
  have e : tw (-((1074 : Nat) : Int)) = tw (-1074) := rfl
  rw [← e, hb]
  grind
theorem v_one : V 4607182418800017408 1 := ⟨false, _, _, rdOne, by decide +kernel⟩
theorem v_two : V 4611686018427387904 2 := ⟨false, _, _, rdTwo, by decide +kernel⟩
theorem v_half : V 4602678819172646912 (1 / 2) := ⟨false, _, _, rdHalf, by decide +kernel⟩
theorem v_inv : V 4609176140021203710 vInv := ⟨false, _, _, rdInv, by decide +kernel⟩
theorem v_hi : V 4604418534312771584 lHi := ⟨false, 6243314767495168, -53, by decide +kernel, by decide +kernel⟩
theorem v_lo : V 4455313330490472685 lLo := ⟨false, 5756898648422637, -86, by decide +kernel, by decide +kernel⟩
theorem v_13 : V 4412443251819771522 v13 := ⟨false, 7922816251426434, -96, by decide +kernel, by decide +kernel⟩
theorem v_zero : V 0 0 := ⟨false, 0, -1074, by decide +kernel, by decide +kernel⟩
end Go.Proofs.Ytfjfpplemgjcmab
