/- A bundle of texts. -/
import Derived.Test.YtmjenemjbpimcaaBe14
/- Quotients of floats keep order. -/
namespace Go.Proofs.Ytmjenemjbpimcaa
open Go.RowKit Ieee

/-- A quotient, doubled, with one digit for what is left over. -/
def St (n V : Nat) : Nat := 2 * (V / n) + (if V % n = 0 then 0 else 1)
theorem St_mono (n a b : Nat) (h : a ≤ b) : St n a ≤ St n b := by
  unfold St
  have h1 : a / n ≤ b / n := Nat.div_le_div_right h
  by_cases e : a / n = b / n
  · have ha := Nat.div_add_mod a n
    have hb := Nat.div_add_mod b n
    rw [e] at ha ⊢
    have : a % n ≤ b % n := by omega
    split <;> split <;> omega
  · split <;> split <;> omega
/-- Rounding a number that lies strictly between two even ones. -/
theorem rn_between (A N k d : Nat) (hd : 2 ≤ d) (h1 : 2 * A * 2 ^ k < N) (h2 : N < (2 * A + 2) * 2 ^ k) : rn N (d + k) = rn (2 * A + 1) d := by
  obtain ⟨e, rfl⟩ : ∃ e, d = e + 2 := ⟨d - 2, by omega⟩
  have pk : 0 < 2 ^ k := Nat.two_pow_pos k
  have pe : 0 < 2 ^ e := Nat.two_pow_pos e
  have e1 : 2 ^ (e + 2) = 4 * 2 ^ e := by rw [Nat.pow_add]; omega
  have e2 : 2 ^ (e + 2 + k) = 4 * 2 ^ e * 2 ^ k := by rw [Nat.pow_add, e1]
  have hA := Nat.div_add_mod A (2 * 2 ^ e)
  have hr := Nat.mod_lt A (show 0 < 2 * 2 ^ e by omega)
  obtain ⟨Q, hQ⟩ : ∃ Q, A / (2 * 2 ^ e) = Q := ⟨_, rfl⟩
  obtain ⟨r, hr0⟩ : ∃ r, A % (2 * 2 ^ e) = r := ⟨_, rfl⟩
  rw [hQ, hr0] at hA
  rw [hr0] at hr
  have hA2 : 2 * A + 1 = Q * (4 * 2 ^ e) + (2 * r + 1) := by
    have h6 : 2 * A = 2 * (2 * 2 ^ e * Q) + 2 * r := by omega
    have h7 : Q * (4 * 2 ^ e) = 2 * (2 * 2 ^ e * Q) := by
      rw [Nat.mul_comm Q, ← Nat.mul_assoc, ← Nat.mul_assoc]
    omega
  obtain ⟨y, hy⟩ : ∃ y, N = Q * (4 * 2 ^ e * 2 ^ k) + y := by
    refine ⟨N - Q * (4 * 2 ^ e * 2 ^ k), ?_⟩
    have : Q * (4 * 2 ^ e * 2 ^ k) ≤ 2 * A * 2 ^ k := by
      rw [← Nat.mul_assoc]
      refine Nat.mul_le_mul_right _ ?_
      omega
    omega
  have h3 : 2 * A * 2 ^ k = Q * (4 * 2 ^ e * 2 ^ k) + 2 * r * 2 ^ k := by
    have : 2 * A = Q * (4 * 2 ^ e) + 2 * r := by omega
    rw [this, Nat.add_mul, Nat.mul_assoc]
  have h4 : (2 * A + 2) * 2 ^ k = Q * (4 * 2 ^ e * 2 ^ k) + (2 * r + 2) * 2 ^ k := by
    have : 2 * A + 2 = Q * (4 * 2 ^ e) + (2 * r + 2) := by omega
    rw [this, Nat.add_mul, Nat.mul_assoc]
  have y1 : 2 * r * 2 ^ k < y := by omega
  have y2 : y < (2 * r + 2) * 2 ^ k := by omega
  have y3 : y < 4 * 2 ^ e * 2 ^ k := Nat.lt_of_lt_of_le y2 (Nat.mul_le_mul_right _ (by omega))
  have d1 : N / 2 ^ (e + 2 + k) = Q := by
    rw [hy, e2, Nat.mul_comm Q, Nat.mul_add_div (by omega), Nat.div_eq_of_lt y3, Nat.add_zero]
  have m1 : N % 2 ^ (e + 2 + k) = y := by
    rw [hy, e2, Nat.mul_comm Q, Nat.mul_add_mod, Nat.mod_eq_of_lt y3]
  have d2 : (2 * A + 1) / 2 ^ (e + 2) = Q := by
    rw [hA2, e1, Nat.mul_comm Q, Nat.mul_add_div (by omega), Nat.div_eq_of_lt (by omega), Nat.add_zero]
  have m2 : (2 * A + 1) % 2 ^ (e + 2) = 2 * r + 1 := by
    rw [hA2, e1, Nat.mul_comm Q, Nat.mul_add_mod, Nat.mod_eq_of_lt (by omega)]
  unfold rn
  rw [d1, m1, d2, m2, e1, e2]
  by_cases hc : 2 ^ e ≤ r
  · have : 2 * 2 ^ e * 2 ^ k ≤ 2 * r * 2 ^ k := Nat.mul_le_mul_right _ (by omega)
    rw [if_pos (.inl (by
      have h5 : 4 * 2 ^ e * 2 ^ k = 2 * (2 * 2 ^ e * 2 ^ k) := by rw [← Nat.mul_assoc, ← Nat.mul_assoc]
      omega)), if_pos (.inl (by omega))]
  · have : (2 * r + 2) * 2 ^ k ≤ 2 * 2 ^ e * 2 ^ k := Nat.mul_le_mul_right _ (by omega)
    have h5 : 4 * 2 ^ e * 2 ^ k = 2 * (2 * 2 ^ e * 2 ^ k) := by rw [← Nat.mul_assoc, ← Nat.mul_assoc]
    rw [if_neg (by omega), if_neg (by omega)]
theorem log2_between (A N k : Nat) (hA : 0 < A) (h1 : 2 * A * 2 ^ k < N) (h2 : N < (2 * A + 2) * 2 ^ k) : N.log2 = (2 * A + 1).log2 + k := by
  have hN : N ≠ 0 := by omega
  have l1 := Nat.log2_self_le (n := 2 * A + 1) (by omega)
  have l2 := Nat.lt_log2_self (n := 2 * A + 1)
  have hl : (2 * A + 1).log2 ≠ 0 := fun h => by rw [h] at l2; omega
  obtain ⟨t, ht⟩ : ∃ t, (2 * A + 1).log2 = t + 1 := ⟨(2 * A + 1).log2 - 1, by omega⟩
  rw [ht] at l1 l2 ⊢
  rw [Nat.pow_succ] at l1
  rw [Nat.pow_succ, Nat.pow_succ] at l2
  refine (Nat.log2_eq_iff hN).2 ⟨?_, ?_⟩
  · rw [Nat.pow_add, Nat.pow_succ]
    have : 2 ^ t * 2 ≤ 2 * A := by omega
    exact Nat.le_trans (Nat.mul_le_mul_right _ this) (Nat.le_of_lt h1)
  · rw [show t + 1 + k + 1 = t + 1 + 1 + k by omega, Nat.pow_add, Nat.pow_succ, Nat.pow_succ]
    have : 2 * A + 2 ≤ 2 ^ t * 2 * 2 := by omega
    exact Nat.lt_of_lt_of_le h2 (Nat.mul_le_mul_right _ this)
/-- More digits of a quotient change nothing. -/
theorem sticky (n V k : Nat) (p : Int) (hn : 0 < n) (hV : 2 ^ 54 ≤ St n V) : rung (St n (V * 2 ^ k)) (p - k) = rung (St n V) p := by
  by_cases h0 : V % n = 0
  · have hdv : V = n * (V / n) := by have := Nat.div_add_mod V n; omega
    have e : St n (V * 2 ^ k) = St n V <<< k := by
      unfold St
      have h1 : V * 2 ^ k = n * (V / n * 2 ^ k) := by rw [← Nat.mul_assoc, ← hdv]
      rw [h1, Nat.mul_mod_right, if_pos rfl, Nat.mul_div_cancel_left _ hn, if_pos h0, Nat.shiftLeft_eq]
      simp only [Nat.add_zero]
      rw [Nat.mul_assoc]
    rw [e, rung_shift _ _ _ (by omega)]
    congr 1
    omega
  · have hS : St n V = 2 * (V / n) + 1 := by unfold St; rw [if_neg h0]
    obtain ⟨A, hA⟩ : ∃ A, V / n = A := ⟨_, rfl⟩
    rw [hA] at hS
    have hVd := Nat.div_add_mod V n
    rw [hA] at hVd
    have hVm := Nat.mod_lt V hn
    have pk : 0 < 2 ^ k := Nat.two_pow_pos k
    -- what the longer one lies between
    have hb : 2 * A * 2 ^ k < St n (V * 2 ^ k) ∧ St n (V * 2 ^ k) < (2 * A + 2) * 2 ^ k := by
      have hB1 : A * 2 ^ k ≤ V * 2 ^ k / n := by
        rw [Nat.le_div_iff_mul_le hn]
        rw [Nat.mul_right_comm]
        exact Nat.mul_le_mul_right _ (by rw [Nat.mul_comm]; omega)
      have hB2 : V * 2 ^ k / n < (A + 1) * 2 ^ k := by
        rw [Nat.div_lt_iff_lt_mul hn]
        rw [Nat.mul_right_comm]
        refine Nat.mul_lt_mul_of_pos_right ?_ pk
        rw [Nat.add_mul, Nat.one_mul, Nat.mul_comm A]
        omega
      have e2 : 2 * A * 2 ^ k = 2 * (A * 2 ^ k) := Nat.mul_assoc _ _ _
      have e3 : (2 * A + 2) * 2 ^ k = 2 * ((A + 1) * 2 ^ k) := by rw [← Nat.mul_assoc, Nat.mul_add]
      unfold St
      rw [e2, e3]
      constructor
      · by_cases hc : V * 2 ^ k % n = 0
        · rw [if_pos hc]
          have hd2 := Nat.div_add_mod (V * 2 ^ k) n
          rw [hc] at hd2
          rcases Nat.lt_or_ge (A * 2 ^ k) (V * 2 ^ k / n) with h | h
          · omega
          · exfalso
            have h3 : V * 2 ^ k / n = A * 2 ^ k := by omega
            rw [h3, Nat.add_zero, ← Nat.mul_assoc] at hd2
            have h4 := Nat.eq_of_mul_eq_mul_right pk hd2
            rw [← hVd] at h4
            omega
        · rw [if_neg hc]; omega
      · split <;> omega
    have hA0 : 0 < A := by
      have : (2 : Nat) ^ 54 = 18014398509481984 := rfl
      omega
    have hlog := log2_between A _ k hA0 hb.1 hb.2
    rw [hS]
    have hlo : 54 ≤ (2 * A + 1).log2 := by
      rw [hS] at hV
      exact (Nat.le_log2 (by omega)).2 hV
    rw [rung_eq, rung_eq]
    have hl1 := lst_eq (2 * A + 1) p
    have hl2 : lst (St n (V * 2 ^ k)) (p - k) = lst (2 * A + 1) p := by
      rw [lst_eq, lst_eq, hlog]
      congr 1
      omega
    rw [hl2]
    generalize lst (2 * A + 1) p = l at *
    have hl3 : p + 2 ≤ l := by omega
    rw [show (p - (k : Int) - l).toNat = 0 by omega, show (p - l).toNat = 0 by omega, Nat.shiftLeft_zero, Nat.shiftLeft_zero]
    obtain ⟨d, hd⟩ : ∃ d, (l - p).toNat = d := ⟨_, rfl⟩
    rw [show (l - (p - (k : Int))).toNat = d + k by omega, hd, rn_between A _ k d (by omega) hb.1 hb.2]
theorem log2_le52' (m : Nat) (h : m < 2 ^ 53) : m.log2 ≤ 52 := by
  by_cases h0 : m = 0
  · subst h0; decide
  · have := (Nat.log2_lt h0).2 h
    omega
/-- A quotient's rung. -/
theorem quo_ky (x c : Nat) (hx : x % 2 ^ 63 < 0x7ff0000000000000) (hx0 : 0 ≤ ky x) (n : Nat) (j : Int) (hc : Ieee.double.read c = .number false n j) (hn : n ≠ 0) :
    ∃ z, floatBits .quo .f64 x c = some z ∧ ky z = (R (-j - 1075 - ((54 + n.log2 : Nat) : Int)) (St n (uv (x % 2 ^ 63) * 2 ^ (54 + n.log2))) : Int) := by
  obtain ⟨s, m, i, hr, hu, hi, hm53, hsm, _⟩ := pos_read x hx hx0
  have e0 : floatBits .quo .f64 x c = some (Ieee.double.nearest s (2 * ((m <<< (54 + n.log2 - m.log2)) / n) + ((m <<< (54 + n.log2 - m.log2)) % n != 0).toNat) (i - j - ((54 + n.log2 - m.log2 : Nat) : Int) - 1)) := by
    show ((Ieee.double.read x).quotient 54 (Ieee.double.read c)).map Ieee.double.write = _
    rw [hr, hc]
    simp only [Datum.quotient]
    rw [if_neg hn]
    show some (Ieee.double.nearest (s ^^ false) _ _) = _
    rw [Bool.xor_false]
  have e1 : ∀ V, 2 * (V / n) + (V % n != 0).toNat = St n V := fun V => by
    unfold St
    by_cases h : V % n = 0
    · rw [if_pos h, h]; rfl
    · rw [if_neg h]
      have : (V % n != 0) = true := bne_iff_ne.2 h
      rw [this]; rfl
  rw [e1] at e0
  refine ⟨_, e0, ?_⟩
  by_cases hm : m = 0
  · subst hm
    rw [← hu, Nat.zero_shiftLeft, Nat.zero_mul, Nat.zero_mul]
    have h0 : St n 0 = 0 := by unfold St; simp
    rw [h0, ky_near]
    have : ∀ p, R p 0 = 0 := fun p => if_pos rfl
    rw [this, this, sv_zero]; rfl
  · rw [hsm hm, near_sv _ _ _ (fun _ => rfl)]
    congr 1
    have hml := log2_le52' m hm53
    obtain ⟨a, ha⟩ : ∃ a, 54 + n.log2 - m.log2 = a := ⟨_, rfl⟩
    obtain ⟨k, hk⟩ : ∃ k, (i + 1074).toNat + (54 + n.log2) = a + k := ⟨(i + 1074).toNat + (54 + n.log2) - a, by omega⟩
    have hV : uv (x % 2 ^ 63) * 2 ^ (54 + n.log2) = (m <<< a) * 2 ^ k := by
      rw [← hu, Nat.shiftLeft_eq, Nat.mul_assoc, Nat.mul_assoc, ← Nat.pow_add, ← Nat.pow_add, hk]
    have hbig : 2 ^ 54 ≤ St n (m <<< a) := by
      have h1 : 2 ^ 53 ≤ (m <<< a) / n := by
        rw [Nat.le_div_iff_mul_le (by omega), Nat.shiftLeft_eq]
        have l1 := Nat.log2_self_le hm
        have l2 := Nat.lt_log2_self (n := n)
        calc 2 ^ 53 * n ≤ 2 ^ 53 * 2 ^ (n.log2 + 1) := Nat.mul_le_mul_left _ (Nat.le_of_lt l2)
          _ = 2 ^ m.log2 * 2 ^ a := by rw [← Nat.pow_add, ← Nat.pow_add]; congr 1; omega
          _ ≤ m * 2 ^ a := Nat.mul_le_mul_right _ l1
      unfold St
      have : (2 : Nat) ^ 54 = 2 * 2 ^ 53 := rfl
      split <;> omega
    have hne : St n (m <<< a) ≠ 0 := by
      have : (0 : Nat) < 2 ^ 54 := by decide
      omega
    have hst := sticky n (m <<< a) k (i - j - (a : Int) - 1) (by omega) hbig
    have hne2 : St n (m <<< a * 2 ^ k) ≠ 0 := by
      have h1 := St_mono n (m <<< a) (m <<< a * 2 ^ k) (Nat.le_mul_of_pos_right _ (Nat.two_pow_pos k))
      omega
    rw [ha, hV]
    unfold R
    rw [if_neg hne, if_neg hne2, ← hst]
    congr 1
    omega
theorem quo_mono (x x' c : Nat) (hx : x % 2 ^ 63 < 0x7ff0000000000000) (hx' : x' % 2 ^ 63 < 0x7ff0000000000000) (hx0 : 0 ≤ ky x) (h : ky x ≤ ky x') (n : Nat) (j : Int) (hc : Ieee.double.read c = .number false n j) (hn : n ≠ 0) :
    ∃ z z', floatBits .quo .f64 x c = some z ∧ floatBits .quo .f64 x' c = some z' ∧ ky z ≤ ky z' ∧ 0 ≤ ky z := by
  obtain ⟨z, h1, h2⟩ := quo_ky x c hx hx0 n j hc hn
  obtain ⟨z', h1', h2'⟩ := quo_ky x' c hx' (by omega) n j hc hn
  refine ⟨z, z', h1, h1', ?_, by omega⟩
  obtain ⟨_, _, _, _, _, _, _, _, e⟩ := pos_read x hx hx0
  obtain ⟨_, _, _, _, _, _, _, _, e'⟩ := pos_read x' hx' (by omega)
  rw [e, e'] at h
  have hm := uv_mono (x % 2 ^ 63) (x' % 2 ^ 63) (by omega)
  have := R_mono (-j - 1075 - ((54 + n.log2 : Nat) : Int)) _ _ (St_mono n _ _ (Nat.mul_le_mul_right (2 ^ (54 + n.log2)) hm))
  omega
theorem quo_self (x : Nat) (s : Bool) (m : Nat) (i : Int) (hr : Ieee.double.read x = .number s m i) (hm : m ≠ 0) : floatBits .quo .f64 x x = some 4607182418800017408 := by
  show ((Ieee.double.read x).quotient 54 (Ieee.double.read x)).map Ieee.double.write = _
  rw [hr]
  simp only [Datum.quotient]
  rw [if_neg hm, Nat.add_sub_cancel, Nat.shiftLeft_eq, Nat.mul_div_cancel_left _ (Nat.pos_of_ne_zero hm), Nat.mul_mod_right]
  show some (Ieee.double.nearest (s ^^ s) (2 * 2 ^ 54 + 0) (i - i - 54 - 1)) = _
  rw [Bool.xor_self, Int.sub_self]
  decide
end Go.Proofs.Ytmjenemjbpimcaa
/- A straight line between whole numbers keeps order and stays between its ends. -/
namespace Go.Proofs.Ytmjenemjbpimcaa
open Go.RowKit Ieee

theorem pow_posI (e : Nat) : (0 : Int) < ((2 ^ e : Nat) : Int) := Int.natCast_pos.2 (Nat.two_pow_pos e)
theorem near_gen (m d e : Nat) (i : Int) (hi : -(e : Int) ≤ i) (h : ((m * 2 ^ (i + e).toNat : Nat) : Int) = (d : Int) * ((2 ^ e : Nat) : Int)) : Ieee.double.nearest false m i = Ieee.double.nearest false d 0 := by
  have hn : m * 2 ^ (i + e).toNat = d * 2 ^ e := by
    rw [← Int.natCast_mul] at h
    exact Int.natCast_inj.1 h
  have e1 : Ieee.double.nearest false (m <<< (i + e).toNat) (-(e : Int)) = Ieee.double.nearest false m i := by
    rw [nearest_shift]; congr 1; omega
  have e2 : Ieee.double.nearest false (d <<< e) (-(e : Int)) = Ieee.double.nearest false d 0 := by
    rw [nearest_shift]; congr 1; omega
  rw [← e1, ← e2, Nat.shiftLeft_eq, Nat.shiftLeft_eq, hn]
theorem mul_le_iff (a b P : Int) (hp : 0 < P) : a * P ≤ b * P ↔ a ≤ b := ⟨fun h => Int.le_of_mul_le_mul_right h hp, fun h => Int.mul_le_mul_of_nonneg_right h (Int.le_of_lt hp)⟩
theorem zero_mul_pos (D P : Int) (hp : 0 < P) (h : 0 < D) : 0 < D * P := Int.mul_pos h hp
theorem iw_facts (a : Int) (h1 : -9007199254740992 ≤ a) (h2 : a ≤ 9007199254740992) : iw a % 2 ^ 63 < 0x7ff0000000000000 ∧ vx (iw a) = a * ((2 ^ 1074 : Nat) : Int) ∧ cl (iw a) = some (iw a) := by
  obtain ⟨m, i, hr, hu, hf⟩ := iw_read a h1 h2
  obtain ⟨s, m', i', hr', hu', _⟩ := read_vx (iw a) hf
  rw [hr] at hr'
  injection hr' with e1 e2 e3
  subst e1 e2 e3
  exact ⟨hf, by rw [← hu', hu], cl_num (ky_fin _ hf).1⟩
theorem iw_ky (a b : Int) (ha1 : -9007199254740992 ≤ a) (ha2 : a ≤ 9007199254740992) (hb1 : -9007199254740992 ≤ b) (hb2 : b ≤ 9007199254740992) : ky (iw a) ≤ ky (iw b) ↔ a ≤ b := by
  obtain ⟨f1, v1, _⟩ := iw_facts a ha1 ha2
  obtain ⟨f2, v2, _⟩ := iw_facts b hb1 hb2
  rw [vx_le _ _ f1 f2, v1, v2]
  exact mul_le_iff a b _ (pow_posI 1074)
theorem ky_iw0 : ky (iw 0) = 0 := by rw [iw0]; decide
theorem ky_bound (a : Int) (h1 : -9007199254740992 ≤ a) (h2 : a ≤ 9007199254740992) : -(0x7ff0000000000000 : Int) < ky (iw a) ∧ ky (iw a) < 0x7ff0000000000000 := by
  have hf := (iw_facts a h1 h2).1
  have hk := (ky_fin _ hf).2
  rw [hk]
  unfold sv
  split <;> omega
theorem fin_of (z : Nat) (h1 : -(0x7ff0000000000000 : Int) < ky z) (h2 : ky z < 0x7ff0000000000000) : z % 2 ^ 63 < 0x7ff0000000000000 := by
  cases hn : nanB z
  · have hk : ky z = sv (sgn z) (z % 2 ^ 63) := if_neg (by rw [hn]; decide)
    rw [hk] at h1 h2
    cases hs : sgn z
    · rw [hs] at h1 h2
      have e : sv false (z % 2 ^ 63) = ((z % 2 ^ 63 : Nat) : Int) := rfl
      omega
    · rw [hs] at h1 h2
      have e : sv true (z % 2 ^ 63) = -((z % 2 ^ 63 : Nat) : Int) := rfl
      omega
  · rw [ky_nan z hn] at h1
    omega
theorem iw_near (D : Int) (h1 : 0 ≤ D) (h2 : D ≤ 9007199254740992) (m : Nat) (i : Int) (hr : Ieee.double.read (iw D) = .number false m i) : Ieee.double.nearest false m i = iw D := by
  have hp := (read_place _ _ _ _ hr).1
  obtain ⟨m', i', hr', hu, _⟩ := iw_read D (by omega) h2
  have hd : decide (D < 0) = false := decide_eq_false (by omega)
  rw [hd] at hr' hu
  rw [hr] at hr'
  injection hr' with _ e2 e3
  subst e2 e3
  unfold un at hu
  rw [signed_eq, if_neg (by decide), Int.one_mul] at hu
  obtain ⟨d, rfl⟩ : ∃ d : Nat, D = d := ⟨D.toNat, by omega⟩
  rw [near_gen m d 1074 i hp hu, iw_eq, decide_eq_false (by omega), Int.natAbs_natCast]
theorem iw_pos (D : Int) (h1 : 0 < D) (h2 : D ≤ 9007199254740992) : ∃ m i, Ieee.double.read (iw D) = .number false m i ∧ m ≠ 0 := by
  obtain ⟨m, i, hr, hu, _⟩ := iw_read D (by omega) h2
  rw [decide_eq_false (show ¬ D < 0 by omega)] at hr hu
  refine ⟨m, i, hr, fun h => ?_⟩
  subst h
  unfold un at hu
  rw [signed_eq, Nat.zero_mul] at hu
  have hz := zero_mul_pos D _ (pow_posI 1074) h1
  rw [← hu] at hz
  simp at hz
theorem rdOne' : Ieee.double.read 4607182418800017408 = .number false (2 ^ 52) (-52) := rdOne
theorem mul_one (D : Int) (h1 : 0 < D) (h2 : D ≤ 9007199254740992) : floatBits .mul .f64 (iw D) 4607182418800017408 = some (iw D) := by
  obtain ⟨m, i, hr, _⟩ := iw_pos D h1 h2
  have e : (4607182418800017408 : Nat) = p2 0 := by decide
  rw [e, mul_p2 (iw D) false m i 0 hr (by decide) (by decide), Int.add_zero, iw_near D (by omega) h2 m i hr]
theorem ky_one : ky 4607182418800017408 = 4607182418800017408 := by decide
end Go.Proofs.Ytmjenemjbpimcaa
