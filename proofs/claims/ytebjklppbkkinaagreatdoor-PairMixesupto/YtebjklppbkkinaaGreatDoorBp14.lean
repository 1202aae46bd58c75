/- A bundle of texts. -/
import Derived.Test.YtebjklppbkkinaaGreatDoorBp11
import Derived.Test.YtebjklppbkkinaaGreatDoorBp13
import Derived.Test.YtebjklppbkkinaaGreatDoorBp12
/- Whole numbers of at most 53 digits as floats: their sums are exact. -/
namespace Go.Proofs.YtebjklppbkkinaaGreatDoor.F
open Ieee

/-- The float of a whole number. -/
def iw (n : Int) : Nat := floatOfInt .f64 n
theorem iw_eq (n : Int) : iw n = Ieee.double.nearest (decide (n < 0)) n.natAbs 0 := rfl
theorem iw_wr (n : Int) (s : Bool) (hs : n = 0 → s = false) : wr (n * ((2 ^ 1074 : Nat) : Int)) s = iw n := by
  have hp : (0 : Int) < ((2 ^ 1074 : Nat) : Int) := by have := Nat.two_pow_pos 1074; omega
  rw [iw_eq]
  unfold wr
  have e : (n * ((2 ^ 1074 : Nat) : Int)).natAbs = n.natAbs <<< 1074 := by
    rw [Int.natAbs_mul, Nat.shiftLeft_eq]; rfl
  rw [e, nearest_shift]
  have e2 : (if n * ((2 ^ 1074 : Nat) : Int) = 0 then s else decide (n * ((2 ^ 1074 : Nat) : Int) < 0)) = decide (n < 0) := by
    by_cases h : n = 0
    · rw [h, Int.zero_mul, if_pos rfl, hs h]; rfl
    · rw [if_neg (Int.mul_ne_zero h (by omega))]
      apply decide_eq_decide.2
      constructor
      · intro h'
        rcases Int.lt_trichotomy n 0 with h1 | h1 | h1
        · exact h1
        · exact absurd h1 h
        · have := Int.mul_pos h1 hp; omega
      · intro h'
        exact Int.mul_neg_of_neg_of_pos h' hp
  rw [e2]
  rfl

theorem un_shift (s : Bool) (m k : Nat) (p : Int) (hk : (k : Int) ≤ p + 1074) : un s (m <<< k) (p - k) = un s m p := by
  unfold un
  rw [signed_eq, signed_eq, Nat.shiftLeft_eq, Nat.mul_assoc, ← Nat.pow_add]
  rw [show k + (p - (k : Int) + 1074).toNat = (p + 1074).toNat by omega]
theorem un_whole (neg : Bool) (mag : Nat) (p : Nat) (n : Int) (h : n = (if neg = true then -1 else 1) * ((mag * 2 ^ p : Nat) : Int)) : un neg mag p = n * ((2 ^ 1074 : Nat) : Int) := by
  unfold un
  rw [signed_eq, h, show ((p : Int) + 1074).toNat = p + 1074 by omega, Nat.pow_add, ← Nat.mul_assoc, Int.natCast_mul, Int.mul_assoc]

theorem iw_read (n : Int) (hl : -9007199254740992 ≤ n) (hu : n ≤ 9007199254740992) :
    ∃ m i, Ieee.double.read (iw n) = .number (decide (n < 0)) m i ∧ un (decide (n < 0)) m i = n * ((2 ^ 1074 : Nat) : Int) ∧ iw n % 2 ^ 63 < 0x7ff0000000000000 := by
  by_cases h0 : n = 0
  · subst h0
    refine ⟨0, -1074, by decide, ?_, by decide⟩
    unfold un
    rw [signed_eq, Nat.zero_mul, Int.zero_mul]
    exact Int.mul_zero _
  · have sgn : ∀ mag p : Nat, mag * 2 ^ p = n.natAbs → n = (if decide (n < 0) = true then -1 else 1) * ((mag * 2 ^ p : Nat) : Int) := fun mag p h => by
      rw [h]
      by_cases hn : n < 0
      · rw [if_pos (by simpa using hn)]; omega
      · rw [if_neg (by simpa using hn)]; omega
    rw [iw_eq]
    by_cases hlt : n.natAbs < 2 ^ 53
    · obtain ⟨k, h1, h2, h3⟩ := read_nearest (decide (n < 0)) n.natAbs 0 (by omega) hlt (by decide) (by decide)
      refine ⟨_, _, h2, ?_, h3⟩
      rw [un_shift _ _ _ _ h1]
      exact un_whole _ _ 0 n (sgn _ 0 (by rw [Nat.pow_zero, Nat.mul_one]))
    · have e : n.natAbs = 1 <<< 53 := by
        rw [show (1 : Nat) <<< 53 = 9007199254740992 from rfl]
        have : (2 : Nat) ^ 53 = 9007199254740992 := rfl
        omega
      rw [e, nearest_shift]
      obtain ⟨k, h1, h2, h3⟩ := read_nearest (decide (n < 0)) 1 (0 + (53 : Nat)) (by omega) (by decide) (by decide) (by decide)
      refine ⟨_, _, h2, ?_, h3⟩
      rw [un_shift _ _ _ _ h1]
      exact un_whole _ _ 53 n (sgn 1 53 (by rw [e]; rfl))

theorem add_iw (a b : Int) (ha : -9007199254740992 ≤ a) (ha' : a ≤ 9007199254740992) (hb : -9007199254740992 ≤ b) (hb' : b ≤ 9007199254740992) : fb .add (some (iw a)) (some (iw b)) = some (iw (a + b)) := by
  obtain ⟨m, i, h1, h2, _⟩ := iw_read a ha ha'
  obtain ⟨n, j, h3, h4, _⟩ := iw_read b hb hb'
  show floatBits .add .f64 (iw a) (iw b) = _
  rw [add_fin _ _ _ _ _ _ _ _ h1 h3, h2, h4, ← Int.add_mul, iw_wr]
  intro h
  by_cases h5 : a < 0
  · have : ¬ b < 0 := by omega
    simp [this]
  · simp [h5]
theorem sub_iw (a b : Int) (ha : -9007199254740992 ≤ a) (ha' : a ≤ 9007199254740992) (hb : -9007199254740992 ≤ b) (hb' : b ≤ 9007199254740992) : fb .sub (some (iw a)) (some (iw b)) = some (iw (a - b)) := by
  obtain ⟨m, i, h1, h2, _⟩ := iw_read a ha ha'
  obtain ⟨n, j, h3, h4, _⟩ := iw_read b hb hb'
  show floatBits .sub .f64 (iw a) (iw b) = _
  rw [sub_fin _ _ _ _ _ _ _ _ h1 h3, h2, h4, ← Int.sub_mul, iw_wr]
  intro h
  obtain rfl : a = b := by omega
  simp

theorem read_top (x : Nat) (h : x % 2 ^ 63 < 0x7ff0000000000000) : ∃ s m i, Ieee.double.read x = .number s m i ∧ i ≤ 971 := by
  have hb : Ieee.double.binade = 2 ^ 52 := rfl
  have hl : Ieee.double.leastPlace = -1074 := by decide
  have hi : Ieee.double.infRung = 0x7ff0000000000000 := by decide
  have hsw : Ieee.double.signWeight = 2 ^ 63 := rfl
  unfold Ieee.Format.read
  simp only [hb, hl, hi, hsw]
  generalize x % 2 ^ 63 = r at *
  split
  · exact ⟨_, _, _, rfl, by decide⟩
  · exact ⟨_, _, _, rfl, by omega⟩
theorem rdMax : Ieee.double.read 9218868437227405311 = .number false (2 ^ 53 - 1) 971 := by decide +kernel
theorem infB_of (x : Nat) (h : x % 2 ^ 63 < 0x7ff0000000000000) : infB (some x) = false := by
  unfold infB ab fo
  simp only [Option.map_some, Option.bind_some]
  have e63 : (9223372036854775808 : Nat) = 2 ^ 63 := rfl
  rw [e63]
  unfold Ieee.Format.order
  obtain ⟨s, m, i, hr, hi⟩ := read_top (x % 2 ^ 63) (by rw [Nat.mod_mod]; exact h)
  rw [hr, rdMax]
  have hm := (read_place _ _ _ _ hr).2
  simp only [Datum.order]
  rw [show min i 971 = i by omega, show (i - i).toNat = 0 by omega]
  have h1 : Ieee.signed s m 0 ≤ (m : Int) := by
    rw [signed_eq]; cases s <;> simp <;> omega
  have h2 : ((2 ^ 53 - 1 : Nat) : Int) ≤ Ieee.signed false (2 ^ 53 - 1) (971 - i).toNat := by
    rw [signed_eq]
    have hp := Nat.two_pow_pos (971 - i).toNat
    have : (2 ^ 53 - 1) * 1 ≤ (2 ^ 53 - 1) * 2 ^ (971 - i).toNat := Nat.mul_le_mul_left _ hp
    simp only [Bool.false_eq_true, if_false, Int.one_mul]
    omega
  have h3 : Ieee.signed s m 0 ≤ Ieee.signed false (2 ^ 53 - 1) (971 - i).toNat := by omega
  generalize Ieee.signed s m 0 = A at *
  generalize Ieee.signed false (2 ^ 53 - 1) (971 - i).toNat = B at *
  have : compare A B ≠ .gt := fun hc => by
    have := Int.compare_eq_gt.1 hc
    omega
  cases hc : compare A B <;> simp_all

theorem iw0 : iw 0 = 0 := by decide +kernel
theorem smStep_iw (S v : Int) (hS : -9007199254740992 ≤ S) (hS' : S ≤ 9007199254740992) (hv : -9007199254740992 ≤ v) (hv' : v ≤ 9007199254740992) (hT : -9007199254740992 ≤ S + v) (hT' : S + v ≤ 9007199254740992) :
    smStep (some (iw S), some 0) (some (iw v)) = (some (iw (S + v)), some 0) := by
  unfold smStep
  obtain ⟨_, _, _, _, h⟩ := iw_read (S + v) hT hT'
  have z : fb .add (some 0) (some (iw 0)) = some 0 := by
    have := add_iw 0 0 (by decide) (by decide) (by decide) (by decide)
    rw [iw0] at this ⊢
    rw [this]
    rw [show (0 : Int) + 0 = 0 from rfl, iw0]
  simp only [add_iw S v hS hS' hv hv', infB_of _ h, Bool.false_eq_true, sub_iw S (S + v) hS hS' hT hT', sub_iw v (S + v) hv hv' hT hT',
    show S - (S + v) = -v by omega, show v - (S + v) = -S by omega, add_iw (-v) v (by omega) (by omega) hv hv', add_iw (-S) S (by omega) (by omega) hS hS', show -v + v = 0 by omega, show -S + S = 0 by omega, z, ite_self]

/-- The sum, and the sum of the sizes, of the first i. -/
def zsum (f : Nat → Int) : Nat → Int
  | 0 => 0
  | i + 1 => zsum f i + f i
def zsize (f : Nat → Int) : Nat → Int
  | 0 => 0
  | i + 1 => zsize f i + max (f i) (-f i)
theorem zsize_le (f : Nat → Int) : ∀ i, zsum f i ≤ zsize f i ∧ -zsum f i ≤ zsize f i ∧ 0 ≤ zsize f i
  | 0 => by simp [zsum, zsize]
  | i + 1 => by
    have := zsize_le f i
    simp only [zsum, zsize]
    omega
theorem zsize_mono (f : Nat → Int) : ∀ (i n : Nat), i ≤ n → zsize f i ≤ zsize f n
  | i, n, h => by
    induction n with
    | zero => obtain rfl : i = 0 := by omega
              exact Int.le_refl _
    | succ n ih =>
      by_cases hi : i = n + 1
      · subst hi; exact Int.le_refl _
      · have := ih (by omega)
        simp only [zsize]
        omega
theorem sums_iw (f : Nat → Int) (n : Nat) (h : zsize f n ≤ 9007199254740992) : ∀ i, i ≤ n → sumS ((List.range i).map fun j => some (iw (f j))) = (some (iw (zsum f i)), some 0) := by
  intro i
  induction i with
  | zero => intro _; rw [show zsum f 0 = 0 from rfl, iw0]; rfl
  | succ i ih =>
    intro hi
    have h1 := ih (by omega)
    have h2 := zsize_le f i
    have h3 := zsize_le f (i + 1)
    have h4 := zsize_mono f (i + 1) n hi
    unfold sumS at h1 ⊢
    rw [List.range_succ, List.map_append, List.foldl_append, h1]
    simp only [List.map_cons, List.map_nil, List.foldl_cons, List.foldl_nil]
    simp only [zsum, zsize] at h3 h4 ⊢
    exact smStep_iw _ _ (by omega) (by omega) (by omega) (by omega) (by omega) (by omega)
theorem sumF_iw (f : Nat → Int) (n : Nat) (h : zsize f n ≤ 9007199254740992) : sumF ((List.range n).map fun j => some (iw (f j))) = some (iw (zsum f n)) := by
  have h2 := zsize_le f n
  unfold sumF
  rw [sums_iw f n h n (Nat.le_refl _)]
  have := add_iw (zsum f n) 0 (by omega) (by omega) (by decide) (by decide)
  rw [iw0, Int.add_zero] at this
  exact this
/-- In the other order. -/
theorem zsum_rev (f : Nat → Int) (n : Nat) : zsum (fun j => f (n - 1 - j)) n = zsum f n ∧ zsize (fun j => f (n - 1 - j)) n = zsize f n := by
  have key : ∀ (g : Nat → Int) (n : Nat), zsum (fun j => g (j + 1)) n + g 0 = zsum g (n + 1) ∧ zsize (fun j => g (j + 1)) n + max (g 0) (-g 0) = zsize g (n + 1) := by
    intro g n
    induction n with
    | zero => simp [zsum, zsize]
    | succ n ih =>
      rw [zsum, zsize]
      have e1 : zsum g (n + 1 + 1) = zsum g (n + 1) + g (n + 1) := rfl
      have e2 : zsize g (n + 1 + 1) = zsize g (n + 1) + max (g (n + 1)) (-g (n + 1)) := rfl
      rw [e1, e2]
      omega
  induction n generalizing f with
  | zero => exact ⟨rfl, rfl⟩
  | succ n ih =>
    have h1 := ih (fun j => f (j + 1))
    have h2 := key f n
    have c1 : ∀ k, k ≤ n → zsum (fun j => f (n + 1 - 1 - j)) k = zsum (fun j => f (n - 1 - j + 1)) k ∧ zsize (fun j => f (n + 1 - 1 - j)) k = zsize (fun j => f (n - 1 - j + 1)) k := by
      intro k
      induction k with
      | zero => intro _; exact ⟨rfl, rfl⟩
      | succ k ihk =>
        intro hk
        obtain ⟨a1, a2⟩ := ihk (by omega)
        simp only [zsum, zsize]
        rw [a1, a2, show n + 1 - 1 - k = n - 1 - k + 1 by omega]
        exact ⟨rfl, rfl⟩
    obtain ⟨d1, d2⟩ := c1 n (Nat.le_refl _)
    rw [zsum, zsize, d1, d2, show n + 1 - 1 - n = 0 by omega]
    rw [h1.1, h1.2]
    exact h2
end Go.Proofs.YtebjklppbkkinaaGreatDoor.F
/- Exp's whole number; scaling. -/
namespace Go.Proofs.YtebjklppbkkinaaGreatDoor.F
open Ieee

theorem pow_parts (e a b A B : Nat) (h : e = a + b) (hA : A = 2 ^ e) (hB : B = 2 ^ a) : A = B * 2 ^ b := by rw [hA, hB, h, Nat.pow_add]
theorem rdHalf : Ieee.double.read 4602678819172646912 = .number false (2 ^ 52) (-53) := by decide +kernel
theorem un_abs (s : Bool) (m : Nat) (i : Int) : (un s m i).natAbs = m * 2 ^ (i + 1074).toNat := by
  unfold un
  rw [signed_eq, Int.natAbs_mul, Int.natAbs_natCast]
  cases s
  · rw [if_neg (by decide)]; exact Nat.one_mul _
  · rw [if_pos rfl]; exact Nat.one_mul _
theorem half_units : (un false (2 ^ 52) (-53)).natAbs ≤ U := by
  rw [un_abs, ← Nat.pow_add]
  exact pow_to _ 1074 U U_eq (by decide)
theorem add_bd (y N : Nat) (hy : Bd y N) (hN : N + 1 < 2 ^ 53) : ∃ z, floatBits .add .f64 y 4602678819172646912 = some z ∧ Bd z (N + 1) := by
  obtain ⟨s, m, i, hr, hb⟩ := hy
  refine ⟨_, add_fin _ _ _ _ _ _ _ _ hr rdHalf, ?_⟩
  unfold wr
  refine near_bd _ _ _ _ (by omega) hN (by decide) ?_
  have h1 := un_abs s m i
  have h2 := half_units
  have h3 : (un s m i + un false (2 ^ 52) (-53)).natAbs ≤ (N + 1) * U := by
    have := Int.natAbs_add_le (un s m i) (un false (2 ^ 52) (-53))
    rw [Nat.add_mul, Nat.one_mul]
    omega
  rw [show ((-1074 : Int) + 2148).toNat = 1074 by decide, ← U_eq, ← Nat.mul_assoc]
  exact Nat.mul_le_mul_right _ h3

/-- A number made whole, downwards. -/
def flr (y : Nat) : Nat := FloatKind.f64.encode ((Ieee.double.read y).integral .down)
theorem flr_num (y : Nat) (h : nanB y = false) : nanB (flr y) = false := by
  unfold nanB at h
  unfold flr
  cases hr : Ieee.double.read y with
  | nan s f => rw [hr] at h; simp [Datum.isNaN] at h
  | infinity s => exact nanB_write_inf s
  | number s m i => exact nanB_write_number _ _ _

theorem down_form (neg : Bool) (n d : Nat) : Toward.down.cut neg n d = n / (1 <<< min d (n.log2 + 2)) + (neg && n % (1 <<< min d (n.log2 + 2)) != 0).toNat := rfl
theorem down_le (neg : Bool) (n d : Nat) : Toward.down.cut neg n d ≤ n / 2 ^ d + 1 := by
  rw [down_form]
  refine Nat.le_trans (Nat.add_le_add_left (Bool.toNat_le _) _) (Nat.add_le_add_right ?_ 1)
  by_cases h : d ≤ n.log2 + 2
  · rw [Nat.min_eq_left h, Nat.shiftLeft_eq, Nat.one_mul]
    exact Nat.le_refl _
  · have e : (1 : Nat) <<< min d (n.log2 + 2) = 2 ^ (n.log2 + 2) := by rw [Nat.min_eq_right (by omega), Nat.shiftLeft_eq, Nat.one_mul]
    have h1 := Nat.lt_log2_self (n := n)
    have h2 : 2 ^ (n.log2 + 1) ≤ 2 ^ (n.log2 + 2) := pow_le _ _ (by omega)
    rw [e, Nat.div_eq_of_lt (show n < 2 ^ (n.log2 + 2) by omega)]
    exact Nat.zero_le _
theorem zero_form (neg : Bool) (n d : Nat) : Toward.zero.cut neg n d = n / (1 <<< min d (n.log2 + 2)) := rfl
theorem zero_exact (neg : Bool) (c k : Nat) : Toward.zero.cut neg (c <<< k) k = c := by
  rw [zero_form]
  by_cases hc : c = 0
  · subst hc
    rw [Nat.zero_shiftLeft, Nat.zero_div]
  · rw [log2_shl c k hc, Nat.min_eq_left (by omega), Nat.shiftLeft_eq, Nat.shiftLeft_eq, Nat.one_mul, Nat.mul_div_cancel _ (Nat.two_pow_pos k)]

theorem floor_bd (z N : Nat) (hz : Bd z N) (hN : N ≤ 100000) : ∃ K, floatToIntVal .f64 (flr z) .i64 = some K ∧ -((N : Int) + 1) ≤ K ∧ K ≤ (N : Int) + 1 := by
  obtain ⟨s, m, i, hr, hb⟩ := hz
  have hi := (read_place z s m i hr).1
  obtain ⟨c, hc⟩ : ∃ c, Toward.down.cut s (m <<< i.toNat) (-i).toNat = c := ⟨_, rfl⟩
  have hcN : c ≤ N + 1 := by
    have h1 := down_le s (m <<< i.toNat) (-i).toNat
    rw [hc] at h1
    refine Nat.le_trans h1 (Nat.add_le_add_right ?_ 1)
    refine Nat.div_le_of_le_mul ?_
    rw [Nat.shiftLeft_eq]
    have hp : 0 < 2 ^ (min i 0 + 1074).toNat := Nat.two_pow_pos _
    refine Nat.le_of_mul_le_mul_right ?_ hp
    have e1 : m * 2 ^ i.toNat * 2 ^ (min i 0 + 1074).toNat = m * 2 ^ (i + 1074).toNat := by
      rw [Nat.mul_assoc, ← Nat.pow_add]
      congr 2
      omega
    have e2 : 2 ^ (-i).toNat * N * 2 ^ (min i 0 + 1074).toNat = N * U := by
      rw [Nat.mul_comm (2 ^ (-i).toNat) N, Nat.mul_assoc, ← Nat.pow_add, U_eq]
      congr 2
      omega
    rw [e1, e2]
    exact hb
  have hf : flr z = Ieee.double.nearest s c 0 := by
    unfold flr
    rw [hr]
    show Ieee.double.nearest s (Toward.down.cut s (m <<< i.toNat) (-i).toNat) 0 = _
    rw [hc]
  have key : (FloatKind.f64.decode (flr z)).toInt .zero = some (Ieee.signed s c 0) := by
    show (Ieee.double.read (flr z)).toInt .zero = _
    rw [hf]
    by_cases h0 : c = 0
    · subst h0
      rw [nearest_zero, read_zero]
      rfl
    · obtain ⟨k, hk, hr2, _⟩ := read_near s c 0 h0 (by omega) (by decide) (by
        have := (Nat.log2_lt h0).2 (show c < 2 ^ 53 by omega)
        omega)
      rw [hr2]
      simp only [Datum.toInt, Datum.integral]
      rw [show ((0 : Int) - (k : Int)).toNat = 0 by omega, show (-((0 : Int) - (k : Int))).toNat = k by omega, Nat.shiftLeft_zero, zero_exact]
  refine ⟨Ieee.signed s c 0, ?_, ?_, ?_⟩
  · unfold floatToIntVal
    rw [key]
    have hx : IntKind.i64.min = -9223372036854775808 := by decide
    have hy : IntKind.i64.max = 9223372036854775807 := by decide
    simp only [hx, hy]
    refine if_pos ?_
    rw [signed_eq]
    cases s <;> simp <;> omega
  · rw [signed_eq]
    cases s <;> simp <;> omega
  · rw [signed_eq]
    cases s <;> simp <;> omega

/-- Not above the one, not below the other. -/
theorem ord_bd (x t : Nat) (s : Bool) (m : Nat) (i : Int) (sT : Bool) (mT : Nat) (iT : Int) (hx : Ieee.double.read x = .number s m i) (ht : Ieee.double.read t = .number sT mT iT) : 
    (FloatKind.f64.format.order x t = some .gt ↔ un sT mT iT < un s m i) ∧ (FloatKind.f64.format.order x t = some .lt ↔ un s m i < un sT mT iT) := by
  have e : FloatKind.f64.format.order x t = (Ieee.double.read x).order (Ieee.double.read t) := rfl
  rw [e, hx, ht]
  simp only [Datum.order, Option.some.injEq]
  have hi := (read_place x s m i hx).1
  have hiT := (read_place t sT mT iT ht).1
  obtain ⟨b, hb⟩ : ∃ b, b = min i iT := ⟨_, rfl⟩
  rw [← hb]
  unfold un
  have hp : (0 : Int) < ((2 ^ (b + 1074).toNat : Nat) : Int) := by have := Nat.two_pow_pos (b + 1074).toNat; omega
  have e1 : Ieee.signed s m (i + 1074).toNat = Ieee.signed s m (i - b).toNat * ((2 ^ (b + 1074).toNat : Nat) : Int) := by
    rw [← signed_add]; congr 1; omega
  have e2 : Ieee.signed sT mT (iT + 1074).toNat = Ieee.signed sT mT (iT - b).toNat * ((2 ^ (b + 1074).toNat : Nat) : Int) := by
    rw [← signed_add]; congr 1; omega
  rw [e1, e2, Int.compare_eq_gt, Int.compare_eq_lt]
  exact ⟨(Int.mul_lt_mul_right hp).symm, (Int.mul_lt_mul_right hp).symm⟩

theorem rdTop : Ieee.double.read 4649454530587146735 = .number false 6243314768165359 (-43) := by decide +kernel
theorem rdLow : Ieee.double.read 13873137513782915154 = .number true 6554261109157970 (-43) := by decide +kernel
/-- What Exp reckons with is of a size below 746. -/
theorem exp_bd (x : Nat) (hn : nanB x = false) (h1 : FloatKind.f64.format.order x 4649454530587146735 ≠ some .gt) (h2 : FloatKind.f64.format.order x 13873137513782915154 ≠ some .lt) : Bd x 746 := by
  cases hx : Ieee.double.read x with
  | nan s f => unfold nanB at hn; rw [hx] at hn; simp [Datum.isNaN] at hn
  | infinity s =>
    exfalso
    cases s
    · apply h1
      show (Ieee.double.read x).order (Ieee.double.read 4649454530587146735) = _
      rw [hx, rdTop]; rfl
    · apply h2
      show (Ieee.double.read x).order (Ieee.double.read 13873137513782915154) = _
      rw [hx, rdLow]; rfl
  | number s m i =>
    refine ⟨s, m, i, hx, ?_⟩
    have k1 := (ord_bd x _ s m i _ _ _ hx rdTop).1
    have k2 := (ord_bd x _ s m i _ _ _ hx rdLow).2
    have g1 : ¬ un false 6243314768165359 (-43) < un s m i := fun h => h1 (k1.2 h)
    have g2 : ¬ un s m i < un true 6554261109157970 (-43) := fun h => h2 (k2.2 h)
    rw [← un_abs s m i]
    obtain ⟨C, hC⟩ : ∃ C : Nat, C = 2 ^ 1031 := ⟨_, rfl⟩
    have hU : U = C * 2 ^ 43 := pow_parts 1074 1031 43 U C (by decide) U_eq hC
    have t1 : un false 6243314768165359 (-43) = (6243314768165359 * C : Nat) := by
      unfold un
      rw [signed_eq, show ((-43 : Int) + 1074).toNat = 1031 by decide, ← hC, if_neg (by decide), Int.one_mul]
    have t2 : un true 6554261109157970 (-43) = -((6554261109157970 * C : Nat) : Int) := by
      unfold un
      rw [signed_eq, show ((-43 : Int) + 1074).toNat = 1031 by decide, ← hC, if_pos rfl]
      omega
    rw [t1] at g1
    rw [t2] at g2
    rw [hU]
    generalize un s m i = v at *
    have h3 : 6554261109157970 * C ≤ 746 * (C * 2 ^ 43) := by
      have : 6554261109157970 * C ≤ (746 * 2 ^ 43) * C := Nat.mul_le_mul_right _ (by decide)
      rw [Nat.mul_comm C, ← Nat.mul_assoc]
      exact this
    have h4 : 6243314768165359 * C ≤ 746 * (C * 2 ^ 43) := by
      have : 6243314768165359 * C ≤ (746 * 2 ^ 43) * C := Nat.mul_le_mul_right _ (by decide)
      rw [Nat.mul_comm C, ← Nat.mul_assoc]
      exact this
    generalize 746 * (C * 2 ^ 43) = Q at *
    generalize 6554261109157970 * C = R at *
    generalize 6243314768165359 * C = T at *
    omega
end Go.Proofs.YtebjklppbkkinaaGreatDoor.F
/- The parts of a float: words of positive numbers stand as their values do. -/
namespace Go.Proofs.YtebjklppbkkinaaGreatDoor.F
open Ieee

theorem log2_52 (M : Nat) (h1 : 2 ^ 52 ≤ M) (h2 : M < 2 ^ 53) : M.log2 = 52 := (Nat.log2_eq_iff (by omega)).2 ⟨h1, h2⟩
theorem near_norm (M : Nat) (Q : Int) (h1 : 2 ^ 52 ≤ M) (h2 : M < 2 ^ 53) (hQ : -1074 ≤ Q) (hQ2 : Q ≤ 971) : Ieee.double.nearest false M Q = (Q + 1075).toNat * 2 ^ 52 + (M - 2 ^ 52) := by
  rw [nearest_rung _ _ _ (by omega), word_pos, rung_eq]
  have hl := lst_eq M Q
  rw [log2_52 M h1 h2] at hl
  have hlQ : lst M Q = Q := by omega
  rw [hlQ, Int.sub_self]
  have hrn : rn (M <<< (0 : Int).toNat) (0 : Int).toNat = M := by
    rw [show (0 : Int).toNat = 0 from rfl, Nat.shiftLeft_zero, ← cut_rn false, cut0]
  rw [hrn]
  obtain ⟨u, hu⟩ : ∃ u : Nat, (Q + 1074).toNat = u := ⟨_, rfl⟩
  rw [hu, show (Q + 1075).toNat = u + 1 by omega]
  have : u ≤ 2045 := by omega
  rw [Nat.min_eq_left (by omega)]
  omega
theorem uv_strict (a b : Nat) (h : a < b) : uv a < uv b := by
  unfold uv
  by_cases ha : a < 2 ^ 52
  · rw [if_pos ha]
    by_cases hb : b < 2 ^ 52
    · rw [if_pos hb]; exact h
    · rw [if_neg hb]
      have : (2 ^ 52 + b % 2 ^ 52) * 1 ≤ (2 ^ 52 + b % 2 ^ 52) * 2 ^ (b / 2 ^ 52 - 1) := Nat.mul_le_mul_left _ (Nat.two_pow_pos _)
      omega
  · rw [if_neg ha, if_neg (by omega)]
    by_cases he : a / 2 ^ 52 = b / 2 ^ 52
    · rw [he]
      exact Nat.mul_lt_mul_of_pos_right (by omega) (Nat.two_pow_pos _)
    · have h2 : (2 ^ 52 + a % 2 ^ 52) * 2 ^ (a / 2 ^ 52 - 1) < 2 ^ 53 * 2 ^ (a / 2 ^ 52 - 1) := Nat.mul_lt_mul_of_pos_right (by omega) (Nat.two_pow_pos _)
      have h3 : 2 ^ 52 * 2 ^ (b / 2 ^ 52 - 1) ≤ (2 ^ 52 + b % 2 ^ 52) * 2 ^ (b / 2 ^ 52 - 1) := Nat.mul_le_mul_right _ (by omega)
      have h4 : 2 ^ 53 * 2 ^ (a / 2 ^ 52 - 1) ≤ 2 ^ 52 * 2 ^ (b / 2 ^ 52 - 1) := by
        rw [← Nat.pow_add, ← Nat.pow_add]
        exact pow_le _ _ (by omega)
      exact Nat.lt_of_lt_of_le h2 (Nat.le_trans h4 h3)
/-- A positive word's number. -/
theorem read_pos (x : Nat) (h : x < 0x7ff0000000000000) : ∃ m i, Ieee.double.read x = .number false m i ∧ un false m i = (uv x : Int) := by
  have hx : x % 2 ^ 63 = x := Nat.mod_eq_of_lt (by omega)
  obtain ⟨s, m, i, hr⟩ := read_fin x (by rw [hx]; exact h)
  have hs : s = false := by
    have hsw : Ieee.double.signWeight = 2 ^ 63 := rfl
    have hneg : (x / 2 ^ 63 % 2 == 1) = false := by
      rw [Nat.div_eq_of_lt (by omega)]; rfl
    have hr' := hr
    unfold Format.read at hr'
    simp only [hsw, hneg] at hr'
    split at hr'
    · cases hr'; rfl
    · split at hr'
      · cases hr'; rfl
      · split at hr' <;> cases hr'
  subst hs
  refine ⟨m, i, hr, ?_⟩
  have := read_uv x _ m i hr
  rw [hx] at this
  rw [← this]
  unfold un
  rw [signed_eq, if_neg (by decide), Int.one_mul]
/-- Positive words stand as numbers do. -/
theorem pos_order (a b : Nat) (ha : a < 0x7ff0000000000000) (hb : b < 0x7ff0000000000000) : FloatKind.f64.format.order a b = some (compare a b) := by
  obtain ⟨ma, ia, hra, hua⟩ := read_pos a ha
  obtain ⟨mb, ib, hrb, hub⟩ := read_pos b hb
  have k := ord_bd a b false ma ia false mb ib hra hrb
  rw [hua, hub] at k
  rcases Nat.lt_trichotomy a b with h | h | h
  · have := uv_strict a b h
    rw [k.2.2 (by omega)]
    congr 1
    exact (Nat.compare_eq_lt.2 h).symm
  · subst h
    rw [fo_self, if_neg]
    · congr 1
      exact (Nat.compare_eq_eq.2 rfl).symm
    · unfold nanB
      rw [hra]
      exact Bool.false_ne_true
  · have := uv_strict b a h
    rw [k.1.2 (by omega)]
    congr 1
    exact (Nat.compare_eq_gt.2 h).symm

/-- A half of a number. -/
theorem rdTwo : Ieee.double.read 4611686018427387904 = .number false (2 ^ 52) (-51) := by decide +kernel
theorem quo_two (x : Nat) (s : Bool) (m : Nat) (i : Int) (hx : Ieee.double.read x = .number s m i) (hm : m < 2 ^ 53) : floatBits .quo .f64 x 4611686018427387904 = some (Ieee.double.nearest s m (i - 1)) := by
  have e : floatBits .quo .f64 x 4611686018427387904 = ((Ieee.double.read x).quotient 54 (Ieee.double.read 4611686018427387904)).map Ieee.double.write := rfl
  rw [e, hx, rdTwo]
  simp only [Datum.quotient]
  rw [if_neg (by decide)]
  have hl : (2 ^ 52 : Nat).log2 = 52 := by decide
  rw [hl]
  have hlm : m.log2 ≤ 52 := by
    by_cases h0 : m = 0
    · subst h0; decide
    · have := (Nat.log2_lt h0).2 hm
      omega
  obtain ⟨k, hk⟩ : ∃ k, 54 + 52 - m.log2 = k + 52 := ⟨54 - m.log2, by omega⟩
  rw [hk]
  have e1 : m <<< (k + 52) / 2 ^ 52 = m <<< k := by
    rw [Nat.shiftLeft_eq, Nat.shiftLeft_eq, Nat.pow_add, ← Nat.mul_assoc, Nat.mul_div_cancel _ (by decide)]
  have e2 : m <<< (k + 52) % 2 ^ 52 = 0 := by
    rw [Nat.shiftLeft_eq, Nat.pow_add, ← Nat.mul_assoc, Nat.mul_mod_left]
  rw [e1, e2]
  show some (Ieee.double.nearest (s ^^ false) (2 * m <<< k + 0) (i - -51 - ((k + 52 : Nat) : Int) - 1)) = _
  rw [Bool.xor_false, Nat.add_zero]
  have e3 : 2 * m <<< k = m <<< (k + 1) := by
    rw [Nat.shiftLeft_eq, Nat.shiftLeft_eq, Nat.pow_succ]
    rw [Nat.mul_comm 2, Nat.mul_assoc]
  rw [e3, nearest_shift]
  congr 2
  omega

/-- x is M times 2 ^ P, M of 53 digits. -/
def Nm (x M : Nat) (P : Int) : Prop := 2 ^ 52 ≤ M ∧ M < 2 ^ 53 ∧ P ≤ 971 ∧ -1126 ≤ P ∧ ∃ m i, ∃ k : Nat, Ieee.double.read x = .number false m i ∧ m < 2 ^ 53 ∧ M = m <<< k ∧ P = i - k ∧ -1074 ≤ i
theorem Nm.near {x M : Nat} {P : Int} (h : Nm x M P) : ∃ m i, Ieee.double.read x = .number false m i ∧ m ≠ 0 ∧ m < 2 ^ 53 ∧ -1074 ≤ i ∧ ∀ j : Int, Ieee.double.nearest false m (i + j) = Ieee.double.nearest false M (P + j) := by
  obtain ⟨h1, h2, _, _, m, i, k, hr, hm, hM, hP, hi⟩ := h
  refine ⟨m, i, hr, fun h0 => ?_, hm, hi, fun j => ?_⟩
  · rw [h0, Nat.zero_shiftLeft] at hM
    omega
  · rw [hM, nearest_shift]
    congr 1
    omega
/-- A normal word. -/
theorem nm_normal (x : Nat) (h1 : 2 ^ 52 ≤ x) (h2 : x < 0x7ff0000000000000) : Nm x (2 ^ 52 + x % 2 ^ 52) ((x / 2 ^ 52 : Nat) - 1075) := by
  have hb : Ieee.double.binade = 2 ^ 52 := rfl
  have hl : Ieee.double.leastPlace = -1074 := by decide
  have hi : Ieee.double.infRung = 0x7ff0000000000000 := by decide
  have hsw : Ieee.double.signWeight = 2 ^ 63 := rfl
  refine ⟨by omega, by omega, by omega, by omega, 2 ^ 52 + x % 2 ^ 52, ((x / 2 ^ 52 : Nat) : Int) - 1075, 0, ?_, by omega, by rw [Nat.shiftLeft_zero], by omega, by omega⟩
  unfold Format.read
  simp only [hb, hl, hi, hsw]
  rw [Nat.mod_eq_of_lt (show x < 2 ^ 63 by omega), Nat.div_eq_of_lt (show x < 2 ^ 63 by omega), if_neg (by omega), if_pos h2]
  rw [show (-1074 : Int) + ((x / 2 ^ 52 - 1 : Nat) : Int) = ((x / 2 ^ 52 : Nat) : Int) - 1075 by omega]
  rfl
/-- A subnormal word. -/
theorem nm_sub (x : Nat) (h0 : x ≠ 0) (h1 : x < 2 ^ 52) : ∃ M P, Nm x M P ∧ P < -1074 := by
  have hb : Ieee.double.binade = 2 ^ 52 := rfl
  have hl : Ieee.double.leastPlace = -1074 := by decide
  have hi : Ieee.double.infRung = 0x7ff0000000000000 := by decide
  have hsw : Ieee.double.signWeight = 2 ^ 63 := rfl
  have hlog : x.log2 ≤ 51 := by
    have := (Nat.log2_lt h0).2 h1
    omega
  have hr : Ieee.double.read x = .number false x (-1074) := by
    unfold Format.read
    simp only [hb, hl, hi, hsw]
    rw [Nat.mod_eq_of_lt (show x < 2 ^ 63 by omega), Nat.div_eq_of_lt (show x < 2 ^ 63 by omega), if_pos h1]
    rfl
  have hlk := log2_shl x (52 - x.log2) h0
  have hnz := nz_shl x (52 - x.log2) h0
  have g1 := Nat.log2_self_le hnz
  have g2 := Nat.lt_log2_self (n := x <<< (52 - x.log2))
  rw [hlk, show x.log2 + (52 - x.log2) = 52 by omega] at g1 g2
  exact ⟨x <<< (52 - x.log2), -1074 - ((52 - x.log2 : Nat) : Int), ⟨g1, g2, by omega, by omega, x, -1074, 52 - x.log2, hr, by omega, rfl, rfl, by decide⟩, by omega⟩

/-- The place of m's last digit. -/
def qs (M : Nat) : Int := if M < 6369051672525773 then -52 else -53
/-- How a word of 53 digits stands to the square root of a half, and to twice it. -/
theorem half_cmp (M : Nat) (Q : Int) (h1 : 2 ^ 52 ≤ M) (h2 : M < 2 ^ 53) (hQ2 : Q ≤ 971) :
    (Ieee.double.nearest false M Q < 4604544271217802189 ↔ Q < qs M) ∧ (Ieee.double.nearest false M Q < 4609047870845172685 ↔ Q < qs M + 1) ∧ Ieee.double.nearest false M Q < 0x7ff0000000000000 := by
  by_cases hQ : -1074 ≤ Q
  · rw [near_norm M Q h1 h2 hQ hQ2]
    obtain ⟨u, hu⟩ : ∃ u : Nat, (Q + 1075).toNat = u := ⟨_, rfl⟩
    have huQ : Q = (u : Int) - 1075 := by omega
    have hu2 : u ≤ 2046 := by omega
    rw [hu, huQ]
    unfold qs
    refine ⟨?_, ?_, by omega⟩
    · split <;> constructor <;> intro h <;> omega
    · split <;> constructor <;> intro h <;> omega
  · have hle : Ieee.double.nearest false M Q ≤ Ieee.double.nearest false M (-1074) := by
      rw [nearest_rung _ _ _ (by omega), nearest_rung _ _ _ (by omega), word_pos, word_pos]
      obtain ⟨k, hk⟩ : ∃ k : Nat, (-1074 : Int) = Q + k := ⟨(-1074 - Q).toNat, by omega⟩
      rw [hk, ← rung_shift M k Q (by omega)]
      refine rung_mono _ _ _ (by omega) ?_
      rw [Nat.shiftLeft_eq]
      exact Nat.le_mul_of_pos_right _ (Nat.two_pow_pos _)
    rw [near_norm M (-1074) h1 h2 (by decide) (by decide)] at hle
    unfold qs
    refine ⟨?_, ?_, by omega⟩
    · split <;> constructor <;> intro h <;> omega
    · split <;> constructor <;> intro h <;> omega
end Go.Proofs.YtebjklppbkkinaaGreatDoor.F
