/- Whole numbers of at most 53 digits as floats: their sums are exact. -/
import Derived.Test.YtebjklppbkkinaaIe
import Derived.Test.YtebjklppbkkinaaSu
namespace Go.Proofs.Ytebjklppbkkinaa
open Ieee

/-- The float of a whole number. -/
def iw (n : Int) : Nat := floatOfInt .f64 n
theorem iw_eq (n : Int) : iw n = Ieee.double.nearest (decide (n < 0)) n.natAbs 0 := rfl
theorem iw_wr (n : Int) (s : Bool) (hs : n = 0 → s = false) : wr (n * ((2 ^ 1074 : Nat) : Int)) s = iw n := by
  have hp : (0 : Int) < ((2 ^ 1074 : Nat) : Int) := by have := Nat.two_pow_pos 1074; omega
  rw [iw_eq]
  unfold wr
  have e : (n * ((2 ^ 1074 : Nat) : Int)).natAbs = n.natAbs <<< 1074 := by
    rw [Int.natAbs_mul, Nat.shiftLeft_eq]; rfl
  rw [e, nearest_shift]
  have e2 : (if n * ((2 ^ 1074 : Nat) : Int) = 0 then s else decide (n * ((2 ^ 1074 : Nat) : Int) < 0)) = decide (n < 0) := by
    by_cases h : n = 0
    · rw [h, Int.zero_mul, if_pos rfl, hs h]; rfl
    · rw [if_neg (Int.mul_ne_zero h (by omega))]
      apply decide_eq_decide.2
      constructor
      · intro h'
        rcases Int.lt_trichotomy n 0 with h1 | h1 | h1
        · exact h1
        · exact absurd h1 h
        · have := Int.mul_pos h1 hp; omega
      · intro h'
        exact Int.mul_neg_of_neg_of_pos h' hp
  rw [e2]
  rfl

theorem un_shift (s : Bool) (m k : Nat) (p : Int) (hk : (k : Int) ≤ p + 1074) : un s (m <<< k) (p - k) = un s m p := by
  unfold un
  rw [signed_eq, signed_eq, Nat.shiftLeft_eq, Nat.mul_assoc, ← Nat.pow_add]
  rw [show k + (p - (k : Int) + 1074).toNat = (p + 1074).toNat by omega]
theorem un_whole (neg : Bool) (mag : Nat) (p : Nat) (n : Int) (h : n = (if neg = true then -1 else 1) * ((mag * 2 ^ p : Nat) : Int)) : un neg mag p = n * ((2 ^ 1074 : Nat) : Int) := by
  unfold un
  rw [signed_eq, h, show ((p : Int) + 1074).toNat = p + 1074 by omega, Nat.pow_add, ← Nat.mul_assoc, Int.natCast_mul, Int.mul_assoc]

theorem iw_read (n : Int) (hl : -9007199254740992 ≤ n) (hu : n ≤ 9007199254740992) :
    ∃ m i, Ieee.double.read (iw n) = .number (decide (n < 0)) m i ∧ un (decide (n < 0)) m i = n * ((2 ^ 1074 : Nat) : Int) ∧ iw n % 2 ^ 63 < 0x7ff0000000000000 := by
  by_cases h0 : n = 0
  · subst h0
    refine ⟨0, -1074, by decide, ?_, by decide⟩
    unfold un
    rw [signed_eq, Nat.zero_mul, Int.zero_mul]
    exact Int.mul_zero _
  · have sgn : ∀ mag p : Nat, mag * 2 ^ p = n.natAbs → n = (if decide (n < 0) = true then -1 else 1) * ((mag * 2 ^ p : Nat) : Int) := fun mag p h => by
      rw [h]
      by_cases hn : n < 0
      · rw [if_pos (by simpa using hn)]; omega
      · rw [if_neg (by simpa using hn)]; omega
    rw [iw_eq]
    by_cases hlt : n.natAbs < 2 ^ 53
    · obtain ⟨k, h1, h2, h3⟩ := read_nearest (decide (n < 0)) n.natAbs 0 (by omega) hlt (by decide) (by decide)
      refine ⟨_, _, h2, ?_, h3⟩
      rw [un_shift _ _ _ _ h1]
      exact un_whole _ _ 0 n (sgn _ 0 (by rw [Nat.pow_zero, Nat.mul_one]))
    · have e : n.natAbs = 1 <<< 53 := by
        rw [show (1 : Nat) <<< 53 = 9007199254740992 from rfl]
        have : (2 : Nat) ^ 53 = 9007199254740992 := rfl
        omega
      rw [e, nearest_shift]
      obtain ⟨k, h1, h2, h3⟩ := read_nearest (decide (n < 0)) 1 (0 + (53 : Nat)) (by omega) (by decide) (by decide) (by decide)
      refine ⟨_, _, h2, ?_, h3⟩
      rw [un_shift _ _ _ _ h1]
      exact un_whole _ _ 53 n (sgn 1 53 (by rw [e]; rfl))

theorem add_iw (a b : Int) (ha : -9007199254740992 ≤ a) (ha' : a ≤ 9007199254740992) (hb : -9007199254740992 ≤ b) (hb' : b ≤ 9007199254740992) : fb .add (some (iw a)) (some (iw b)) = some (iw (a + b)) := by
  obtain ⟨m, i, h1, h2, _⟩ := iw_read a ha ha'
  obtain ⟨n, j, h3, h4, _⟩ := iw_read b hb hb'
  show floatBits .add .f64 (iw a) (iw b) = _
  rw [add_fin _ _ _ _ _ _ _ _ h1 h3, h2, h4, ← Int.add_mul, iw_wr]
  intro h
  by_cases h5 : a < 0
  · have : ¬ b < 0 := by omega
    simp [this]
  · simp [h5]
theorem sub_iw (a b : Int) (ha : -9007199254740992 ≤ a) (ha' : a ≤ 9007199254740992) (hb : -9007199254740992 ≤ b) (hb' : b ≤ 9007199254740992) : fb .sub (some (iw a)) (some (iw b)) = some (iw (a - b)) := by
  obtain ⟨m, i, h1, h2, _⟩ := iw_read a ha ha'
  obtain ⟨n, j, h3, h4, _⟩ := iw_read b hb hb'
  show floatBits .sub .f64 (iw a) (iw b) = _
  rw [sub_fin _ _ _ _ _ _ _ _ h1 h3, h2, h4, ← Int.sub_mul, iw_wr]
  intro h
  obtain rfl : a = b := by omega
  simp

theorem read_top (x : Nat) (h : x % 2 ^ 63 < 0x7ff0000000000000) : ∃ s m i, Ieee.double.read x = .number s m i ∧ i ≤ 971 := by
  have hb : Ieee.double.binade = 2 ^ 52 := rfl
  have hl : Ieee.double.leastPlace = -1074 := by decide
  have hi : Ieee.double.infRung = 0x7ff0000000000000 := by decide
  have hsw : Ieee.double.signWeight = 2 ^ 63 := rfl
  unfold Ieee.Format.read
  simp only [hb, hl, hi, hsw]
  generalize x % 2 ^ 63 = r at *
  split
  · exact ⟨_, _, _, rfl, by decide⟩
  · exact ⟨_, _, _, rfl, by omega⟩
theorem rdMax : Ieee.double.read 9218868437227405311 = .number false (2 ^ 53 - 1) 971 := by decide +kernel
theorem infB_of (x : Nat) (h : x % 2 ^ 63 < 0x7ff0000000000000) : infB (some x) = false := by
  unfold infB ab fo
  simp only [Option.map_some, Option.bind_some]
  have e63 : (9223372036854775808 : Nat) = 2 ^ 63 := rfl
  rw [e63]
  unfold Ieee.Format.order
  obtain ⟨s, m, i, hr, hi⟩ := read_top (x % 2 ^ 63) (by rw [Nat.mod_mod]; exact h)
  rw [hr, rdMax]
  have hm := (read_place _ _ _ _ hr).2
  simp only [Datum.order]
  rw [show min i 971 = i by omega, show (i - i).toNat = 0 by omega]
  have h1 : Ieee.signed s m 0 ≤ (m : Int) := by
    rw [signed_eq]; cases s <;> simp <;> omega
  have h2 : ((2 ^ 53 - 1 : Nat) : Int) ≤ Ieee.signed false (2 ^ 53 - 1) (971 - i).toNat := by
    rw [signed_eq]
    have hp := Nat.two_pow_pos (971 - i).toNat
    have : (2 ^ 53 - 1) * 1 ≤ (2 ^ 53 - 1) * 2 ^ (971 - i).toNat := Nat.mul_le_mul_left _ hp
    simp only [Bool.false_eq_true, if_false, Int.one_mul]
    omega
  have h3 : Ieee.signed s m 0 ≤ Ieee.signed false (2 ^ 53 - 1) (971 - i).toNat := by omega
  generalize Ieee.signed s m 0 = A at *
  generalize Ieee.signed false (2 ^ 53 - 1) (971 - i).toNat = B at *
  have : compare A B ≠ .gt := fun hc => by
    have := Int.compare_eq_gt.1 hc
    omega
  cases hc : compare A B <;> simp_all

theorem iw0 : iw 0 = 0 := by decide +kernel
theorem smStep_iw (S v : Int) (hS : -9007199254740992 ≤ S) (hS' : S ≤ 9007199254740992) (hv : -9007199254740992 ≤ v) (hv' : v ≤ 9007199254740992) (hT : -9007199254740992 ≤ S + v) (hT' : S + v ≤ 9007199254740992) :
    smStep (some (iw S), some 0) (some (iw v)) = (some (iw (S + v)), some 0) := by
  unfold smStep
  obtain ⟨_, _, _, _, h⟩ := iw_read (S + v) hT hT'
  have z : fb .add (some 0) (some (iw 0)) = some 0 := by
    have := add_iw 0 0 (by decide) (by decide) (by decide) (by decide)
    rw [iw0] at this ⊢
    rw [this]
    rw [show (0 : Int) + 0 = 0 from rfl, iw0]
  simp only [add_iw S v hS hS' hv hv', infB_of _ h, Bool.false_eq_true, sub_iw S (S + v) hS hS' hT hT', sub_iw v (S + v) hv hv' hT hT',
    show S - (S + v) = -v by omega, show v - (S + v) = -S by omega, add_iw (-v) v (by omega) (by omega) hv hv', add_iw (-S) S (by omega) (by omega) hS hS', show -v + v = 0 by omega, show -S + S = 0 by omega, z, ite_self]

/-- The sum, and the sum of the sizes, of the first i. -/
def zsum (f : Nat → Int) : Nat → Int
  | 0 => 0
  | i + 1 => zsum f i + f i
def zsize (f : Nat → Int) : Nat → Int
  | 0 => 0
  | i + 1 => zsize f i + max (f i) (-f i)
theorem zsize_le (f : Nat → Int) : ∀ i, zsum f i ≤ zsize f i ∧ -zsum f i ≤ zsize f i ∧ 0 ≤ zsize f i
  | 0 => by simp [zsum, zsize]
  | i + 1 => by
    have := zsize_le f i
    simp only [zsum, zsize]
    omega
theorem zsize_mono (f : Nat → Int) : ∀ (i n : Nat), i ≤ n → zsize f i ≤ zsize f n
  | i, n, h => by
    induction n with
    | zero => obtain rfl : i = 0 := by omega
              exact Int.le_refl _
    | succ n ih =>
      by_cases hi : i = n + 1
      · subst hi; exact Int.le_refl _
      · have := ih (by omega)
        simp only [zsize]
        omega
theorem sums_iw (f : Nat → Int) (n : Nat) (h : zsize f n ≤ 9007199254740992) : ∀ i, i ≤ n → sumS ((List.range i).map fun j => some (iw (f j))) = (some (iw (zsum f i)), some 0) := by
  intro i
  induction i with
  | zero => intro _; rw [show zsum f 0 = 0 from rfl, iw0]; rfl
  | succ i ih =>
    intro hi
    have h1 := ih (by omega)
    have h2 := zsize_le f i
    have h3 := zsize_le f (i + 1)
    have h4 := zsize_mono f (i + 1) n hi
    unfold sumS at h1 ⊢
    rw [List.range_succ, List.map_append, List.foldl_append, h1]
    simp only [List.map_cons, List.map_nil, List.foldl_cons, List.foldl_nil]
    simp only [zsum, zsize] at h3 h4 ⊢
    exact smStep_iw _ _ (by omega) (by omega) (by omega) (by omega) (by omega) (by omega)
theorem sumF_iw (f : Nat → Int) (n : Nat) (h : zsize f n ≤ 9007199254740992) : sumF ((List.range n).map fun j => some (iw (f j))) = some (iw (zsum f n)) := by
  have h2 := zsize_le f n
  unfold sumF
  rw [sums_iw f n h n (Nat.le_refl _)]
  have := add_iw (zsum f n) 0 (by omega) (by omega) (by decide) (by decide)
  rw [iw0, Int.add_zero] at this
  exact this
/-- In the other order. -/
theorem zsum_rev (f : Nat → Int) (n : Nat) : zsum (fun j => f (n - 1 - j)) n = zsum f n ∧ zsize (fun j => f (n - 1 - j)) n = zsize f n := by
  have key : ∀ (g : Nat → Int) (n : Nat), zsum (fun j => g (j + 1)) n + g 0 = zsum g (n + 1) ∧ zsize (fun j => g (j + 1)) n + max (g 0) (-g 0) = zsize g (n + 1) := by
    intro g n
    induction n with
    | zero => simp [zsum, zsize]
    | succ n ih =>
      rw [zsum, zsize]
      have e1 : zsum g (n + 1 + 1) = zsum g (n + 1) + g (n + 1) := rfl
      have e2 : zsize g (n + 1 + 1) = zsize g (n + 1) + max (g (n + 1)) (-g (n + 1)) := rfl
      rw [e1, e2]
      omega
  induction n generalizing f with
  | zero => exact ⟨rfl, rfl⟩
  | succ n ih =>
    have h1 := ih (fun j => f (j + 1))
    have h2 := key f n
    have c1 : ∀ k, k ≤ n → zsum (fun j => f (n + 1 - 1 - j)) k = zsum (fun j => f (n - 1 - j + 1)) k ∧ zsize (fun j => f (n + 1 - 1 - j)) k = zsize (fun j => f (n - 1 - j + 1)) k := by
      intro k
      induction k with
      | zero => intro _; exact ⟨rfl, rfl⟩
      | succ k ihk =>
        intro hk
        obtain ⟨a1, a2⟩ := ihk (by omega)
        simp only [zsum, zsize]
        rw [a1, a2, show n + 1 - 1 - k = n - 1 - k + 1 by omega]
        exact ⟨rfl, rfl⟩
    obtain ⟨d1, d2⟩ := c1 n (Nat.le_refl _)
    rw [zsum, zsize, d1, d2, show n + 1 - 1 - n = 0 by omega]
    rw [h1.1, h1.2]
    exact h2
end Go.Proofs.Ytebjklppbkkinaa
