/- Finite floats as whole numbers of units of 2 ^ -1074: sums and differences. -/
import Derived.Test.YtebjklppbkkinaaFl
namespace Go.Proofs.Ytebjklppbkkinaa
open Ieee

theorem cut0 (way : Toward) (neg : Bool) (n : Nat) : way.cut neg n 0 = n := by
  unfold Toward.cut
  simp only [Nat.zero_min, Nat.shiftLeft_zero, Nat.div_one, Nat.mod_one]
  cases way <;> simp

theorem log2_shl (n k : Nat) (hn : n ≠ 0) : (n <<< k).log2 = n.log2 + k := by
  rw [Nat.shiftLeft_eq]
  have h1 := Nat.log2_self_le hn
  have h2 := Nat.lt_log2_self (n := n)
  have hp : 0 < 2 ^ k := Nat.two_pow_pos k
  refine (Nat.log2_eq_iff (Nat.mul_ne_zero hn (by omega))).2 ⟨?_, ?_⟩
  · rw [Nat.pow_add]
    exact Nat.mul_le_mul_right _ h1
  · rw [show n.log2 + k + 1 = (n.log2 + 1) + k by omega, Nat.pow_add]
    exact Nat.mul_lt_mul_of_pos_right h2 hp

theorem cut_scale (neg : Bool) (n drop k : Nat) (hn : n ≠ 0) : Toward.even.cut neg (n <<< k) (drop + k) = Toward.even.cut neg n drop := by
  unfold Toward.cut
  have hp : 0 < 2 ^ k := Nat.two_pow_pos k
  have e1 : min (drop + k) ((n <<< k).log2 + 2) = min drop (n.log2 + 2) + k := by rw [log2_shl n k hn]; omega
  simp only [e1]
  generalize min drop (n.log2 + 2) = d
  have e2 : (1 : Nat) <<< (d + k) = (1 <<< d) * 2 ^ k := by rw [Nat.shiftLeft_eq, Nat.shiftLeft_eq, Nat.pow_add, Nat.mul_assoc]
  have e3 : (n <<< k) / (1 <<< (d + k)) = n / 1 <<< d := by
    rw [e2, Nat.shiftLeft_eq, Nat.mul_div_mul_right _ _ hp]
  have e4 : (n <<< k) % (1 <<< (d + k)) = (n % 1 <<< d) * 2 ^ k := by
    rw [e2, Nat.shiftLeft_eq, Nat.mul_mod_mul_right]
  rw [e3, e4, e2]
  generalize 1 <<< d = gap
  generalize n % gap = rest
  have e5 : decide (gap * 2 ^ k < 2 * (rest * 2 ^ k)) = decide (gap < 2 * rest) := by
    rw [← Nat.mul_assoc]
    exact decide_eq_decide.2 (Nat.mul_lt_mul_right hp)
  have e6 : (gap * 2 ^ k == 2 * (rest * 2 ^ k)) = (gap == 2 * rest) := by
    rw [← Nat.mul_assoc]
    apply Bool.eq_iff_iff.2
    simp only [beq_iff_eq]
    exact Nat.mul_left_inj (by omega)
  rw [e5, e6]

theorem cut_exact (neg : Bool) (n k : Nat) (hn : n ≠ 0) : Toward.even.cut neg (n <<< k) k = n := by
  have := cut_scale neg n 0 k hn
  rw [Nat.zero_add, cut0] at this
  exact this

/-- A number written with other digits is the same number. -/
theorem nearest_shift (neg : Bool) (mag k : Nat) (place : Int) : Ieee.double.nearest neg (mag <<< k) place = Ieee.double.nearest neg mag (place + k) := by
  unfold Format.nearest
  by_cases hm : mag = 0
  · subst hm
    rw [Nat.zero_shiftLeft, if_pos rfl, if_pos rfl]
  have hs : mag <<< k ≠ 0 := by
    rw [Nat.shiftLeft_eq]
    exact Nat.mul_ne_zero hm (Nat.ne_of_gt (Nat.two_pow_pos k))
  rw [if_neg hm, if_neg hs]
  have e1 : place + ((mag <<< k).log2 : Int) = place + k + (mag.log2 : Int) := by rw [log2_shl mag k hm]; omega
  simp only [e1]
  generalize max (place + k + (mag.log2 : Int) - (Ieee.double.fractionBits : Int)) Ieee.double.leastPlace = last
  have key : Toward.even.cut neg ((mag <<< k) <<< (place - last).toNat) (last - place).toNat = Toward.even.cut neg (mag <<< (place + k - last).toNat) (last - (place + k)).toNat := by
    rw [← Nat.shiftLeft_add]
    by_cases h1 : last ≤ place
    · rw [show (last - place).toNat = 0 by omega, show (last - (place + k)).toNat = 0 by omega, cut0, cut0]
      congr 1; omega
    · by_cases h2 : last ≤ place + k
      · rw [show (last - (place + k)).toNat = 0 by omega, cut0]
        rw [show k + (place - last).toNat = (place + k - last).toNat + (last - place).toNat by omega, Nat.shiftLeft_add]
        apply cut_exact
        rw [Nat.shiftLeft_eq]
        exact Nat.mul_ne_zero hm (Nat.ne_of_gt (Nat.two_pow_pos _))
      · rw [show (place + k - last).toNat = 0 by omega, Nat.shiftLeft_zero, show k + (place - last).toNat = k by omega,
          show (last - place).toNat = (last - (place + k)).toNat + k by omega]
        exact cut_scale neg mag _ k hm
  rw [key]

/-- The word nearest to z units. -/
def wr (z : Int) (s : Bool) : Nat := Ieee.double.nearest (if z = 0 then s else decide (z < 0)) z.natAbs (-1074)

theorem signed_eq (s : Bool) (m k : Nat) : Ieee.signed s m k = (if s = true then -1 else 1) * ((m * 2 ^ k : Nat) : Int) := by
  unfold Ieee.signed
  rw [Nat.shiftLeft_eq]
  cases s <;> simp
theorem signed_add (s : Bool) (m a k : Nat) : Ieee.signed s m (a + k) = Ieee.signed s m a * ((2 ^ k : Nat) : Int) := by
  rw [signed_eq, signed_eq, Nat.pow_add, ← Nat.mul_assoc, Int.natCast_mul, Int.mul_assoc]
theorem signed_not (s : Bool) (m k : Nat) : Ieee.signed (!s) m k = -Ieee.signed s m k := by
  rw [signed_eq, signed_eq]
  cases s <;> simp

/-- How many units a finite float is. -/
def un (s : Bool) (m : Nat) (i : Int) : Int := Ieee.signed s m (i + 1074).toNat

theorem sum_fin (s t : Bool) (m n : Nat) (i j : Int) (hi : -1074 ≤ i) (hj : -1074 ≤ j) :
    ((Datum.number s m i).sum (.number t n j)).map Ieee.double.write = some (wr (un s m i + un t n j) (s && t)) := by
  simp only [Datum.sum, Option.map_some, Option.some.injEq]
  show Ieee.double.nearest _ _ _ = _
  unfold wr un
  obtain ⟨b, hb⟩ : ∃ b, b = min i j := ⟨_, rfl⟩
  rw [← hb]
  obtain ⟨k, hk⟩ : ∃ k, k = (b + 1074).toNat := ⟨_, rfl⟩
  have hp : (0 : Int) < ((2 ^ k : Nat) : Int) := by have := Nat.two_pow_pos k; omega
  have e1 : Ieee.signed s m (i + 1074).toNat = Ieee.signed s m (i - b).toNat * ((2 ^ k : Nat) : Int) := by
    rw [← signed_add]; congr 1; omega
  have e2 : Ieee.signed t n (j + 1074).toNat = Ieee.signed t n (j - b).toNat * ((2 ^ k : Nat) : Int) := by
    rw [← signed_add]; congr 1; omega
  rw [e1, e2, ← Int.add_mul]
  generalize Ieee.signed s m (i - b).toNat + Ieee.signed t n (j - b).toNat = total
  have e3 : (total * ((2 ^ k : Nat) : Int)).natAbs = total.natAbs <<< k := by
    rw [Int.natAbs_mul, Nat.shiftLeft_eq]; rfl
  have e4 : (if total * ((2 ^ k : Nat) : Int) = 0 then s && t else decide (total * ((2 ^ k : Nat) : Int) < 0)) = (if total = 0 then s && t else decide (total < 0)) := by
    by_cases h : total = 0
    · rw [h, Int.zero_mul]
    · rw [if_neg h, if_neg (Int.mul_ne_zero h (by omega))]
      apply decide_eq_decide.2
      constructor
      · intro h'
        rcases Int.lt_trichotomy total 0 with h1 | h1 | h1
        · exact h1
        · exact absurd h1 h
        · have := Int.mul_pos h1 hp; omega
      · intro h'
        exact Int.mul_neg_of_neg_of_pos h' hp
  rw [e3, e4, nearest_shift]
  congr 1
  omega

/-- Reading a word that is no NaN and no infinity. -/
theorem read_place (x : Nat) (s : Bool) (m : Nat) (i : Int) (h : Ieee.double.read x = .number s m i) : -1074 ≤ i ∧ m < 2 ^ 53 := by
  unfold Ieee.Format.read at h
  have hb : Ieee.double.binade = 2 ^ 52 := rfl
  have hl : Ieee.double.leastPlace = -1074 := by decide
  simp only [hb, hl] at h
  split at h
  · rename_i hlt; cases h; omega
  · split at h
    · cases h
      have : x % Ieee.double.signWeight % 2 ^ 52 < 2 ^ 52 := Nat.mod_lt _ (by decide)
      omega
    · split at h <;> cases h

theorem add_fin (x y : Nat) (s t : Bool) (m n : Nat) (i j : Int) (hx : Ieee.double.read x = .number s m i) (hy : Ieee.double.read y = .number t n j) :
    floatBits .add .f64 x y = some (wr (un s m i + un t n j) (s && t)) := by
  show ((Ieee.double.read x).sum (Ieee.double.read y)).map Ieee.double.write = _
  rw [hx, hy]
  exact sum_fin s t m n i j (read_place x s m i hx).1 (read_place y t n j hy).1
theorem sub_fin (x y : Nat) (s t : Bool) (m n : Nat) (i j : Int) (hx : Ieee.double.read x = .number s m i) (hy : Ieee.double.read y = .number t n j) :
    floatBits .sub .f64 x y = some (wr (un s m i - un t n j) (s && !t)) := by
  show ((Ieee.double.read x).sum (Ieee.double.read y).opposite).map Ieee.double.write = _
  rw [hx, hy]
  show ((Datum.number s m i).sum (.number (!t) n j)).map Ieee.double.write = _
  rw [sum_fin s (!t) m n i j (read_place x s m i hx).1 (read_place y t n j hy).1]
  unfold un
  rw [signed_not, Int.sub_eq_add_neg]

/-- A number of at most 53 digits, not too great, is read back as it was written. -/
theorem read_nearest (neg : Bool) (mag : Nat) (place : Int) (h0 : mag ≠ 0) (hm : mag < 2 ^ 53) (hp : -1074 ≤ place) (ht : place ≤ 900) :
    ∃ k : Nat, (k : Int) ≤ place + 1074 ∧ Ieee.double.read (Ieee.double.nearest neg mag place) = .number neg (mag <<< k) (place - k) ∧ (Ieee.double.nearest neg mag place) % 2 ^ 63 < 0x7ff0000000000000 := by
  have hb : Ieee.double.binade = 2 ^ 52 := rfl
  have hl : Ieee.double.leastPlace = -1074 := by decide
  have hf : (Ieee.double.fractionBits : Int) = 52 := rfl
  have hi : Ieee.double.infRung = 0x7ff0000000000000 := by decide
  have hsw : Ieee.double.signWeight = 2 ^ 63 := rfl
  have hlog : mag.log2 ≤ 52 := by
    have := (Nat.log2_lt h0).2 hm
    omega
  unfold Format.nearest
  rw [if_neg h0]
  simp only [hb, hl, hf, hi]
  obtain ⟨last, hlast⟩ : ∃ last, last = max (place + (mag.log2 : Int) - 52) (-1074) := ⟨_, rfl⟩
  rw [← hlast]
  have h1 : last ≤ place := by omega
  obtain ⟨k, hk⟩ : ∃ k : Nat, k = (place - last).toNat := ⟨_, rfl⟩
  rw [show (last - place).toNat = 0 by omega, cut0, ← hk]
  refine ⟨k, by omega, ?_⟩
  have hlk : (mag <<< k).log2 = mag.log2 + k := log2_shl mag k h0
  have hks : mag <<< k ≠ 0 := by
    rw [Nat.shiftLeft_eq]
    exact Nat.mul_ne_zero h0 (Nat.ne_of_gt (Nat.two_pow_pos k))
  have hlt : mag <<< k < 2 ^ 53 := (Nat.log2_lt hks).1 (by rw [hlk]; omega)
  have hge : last ≠ -1074 → 2 ^ 52 ≤ mag <<< k := fun hne => by
    have h3 : (mag <<< k).log2 = 52 := by rw [hlk]; omega
    have := Nat.log2_self_le hks
    rw [h3] at this
    exact this
  have hpl : place - (k : Int) = last := by omega
  rw [hpl]
  generalize mag <<< k = q at *
  obtain ⟨u, hu⟩ : ∃ u : Nat, u = (last - -1074).toNat := ⟨_, rfl⟩
  rw [← hu]
  have hu2 : u ≤ 1974 := by omega
  rw [Nat.min_eq_left (by omega)]
  have hr : (Ieee.double.word neg (u * 2 ^ 52 + q)) % 2 ^ 63 = u * 2 ^ 52 + q := by
    unfold Format.word
    rw [hsw]
    cases neg <;> simp <;> omega
  have hn : ((Ieee.double.word neg (u * 2 ^ 52 + q)) / 2 ^ 63 % 2 == 1) = neg := by
    unfold Format.word
    rw [hsw]
    cases neg
    · simp; omega
    · have : (2 ^ 63 + (u * 2 ^ 52 + q)) / 2 ^ 63 = 1 := by omega
      simp [this]
  refine ⟨?_, by rw [hr]; omega⟩
  unfold Format.read
  simp only [hsw, hr, hn, hb, hl, hi]
  by_cases hsub : u * 2 ^ 52 + q < 2 ^ 52
  · rw [if_pos hsub]
    have hu0 : u = 0 := by
      rcases Nat.eq_zero_or_pos u with h | h
      · exact h
      · have : 1 * 2 ^ 52 ≤ u * 2 ^ 52 := Nat.mul_le_mul_right _ h
        omega
    subst hu0
    have e4 : (-1074 : Int) = last := by omega
    rw [Nat.zero_mul, Nat.zero_add, e4]
  · rw [if_neg hsub, if_pos (by omega)]
    have hq : 2 ^ 52 ≤ q := by
      by_cases h : last = -1074
      · have hu0 : u = 0 := by omega
        subst hu0
        omega
      · exact hge h
    have e1 : (u * 2 ^ 52 + q) % 2 ^ 52 = q - 2 ^ 52 := by omega
    have e2 : (u * 2 ^ 52 + q) / 2 ^ 52 = u + 1 := by omega
    have e3 : 2 ^ 52 + (q - 2 ^ 52) = q := by omega
    have e4 : (-1074 : Int) + ((u + 1 - 1 : Nat) : Int) = last := by omega
    rw [e1, e2, e3, e4]
end Go.Proofs.Ytebjklppbkkinaa
