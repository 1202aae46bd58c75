/- Exp's whole number; scaling. -/
import Derived.Test.YtebjklppbkkinaaPq
import Derived.Test.YtebjklppbkkinaaWi
namespace Go.Proofs.Ytebjklppbkkinaa
open Ieee

theorem pow_parts (e a b A B : Nat) (h : e = a + b) (hA : A = 2 ^ e) (hB : B = 2 ^ a) : A = B * 2 ^ b := by rw [hA, hB, h, Nat.pow_add]
theorem rdHalf : Ieee.double.read 4602678819172646912 = .number false (2 ^ 52) (-53) := by decide +kernel
theorem un_abs (s : Bool) (m : Nat) (i : Int) : (un s m i).natAbs = m * 2 ^ (i + 1074).toNat := by
  unfold un
  rw [signed_eq, Int.natAbs_mul, Int.natAbs_natCast]
  cases s
  · rw [if_neg (by decide)]; exact Nat.one_mul _
  · rw [if_pos rfl]; exact Nat.one_mul _
theorem half_units : (un false (2 ^ 52) (-53)).natAbs ≤ U := by
  rw [un_abs, ← Nat.pow_add]
  exact pow_to _ 1074 U U_eq (by decide)
theorem add_bd (y N : Nat) (hy : Bd y N) (hN : N + 1 < 2 ^ 53) : ∃ z, floatBits .add .f64 y 4602678819172646912 = some z ∧ Bd z (N + 1) := by
  obtain ⟨s, m, i, hr, hb⟩ := hy
  refine ⟨_, add_fin _ _ _ _ _ _ _ _ hr rdHalf, ?_⟩
  unfold wr
  refine near_bd _ _ _ _ (by omega) hN (by decide) ?_
  have h1 := un_abs s m i
  have h2 := half_units
  have h3 : (un s m i + un false (2 ^ 52) (-53)).natAbs ≤ (N + 1) * U := by
    have := Int.natAbs_add_le (un s m i) (un false (2 ^ 52) (-53))
    rw [Nat.add_mul, Nat.one_mul]
    omega
  rw [show ((-1074 : Int) + 2148).toNat = 1074 by decide, ← U_eq, ← Nat.mul_assoc]
  exact Nat.mul_le_mul_right _ h3

/-- A number made whole, downwards. -/
def flr (y : Nat) : Nat := FloatKind.f64.encode ((Ieee.double.read y).integral .down)
theorem flr_num (y : Nat) (h : nanB y = false) : nanB (flr y) = false := by
  unfold nanB at h
  unfold flr
  cases hr : Ieee.double.read y with
  | nan s f => rw [hr] at h; simp [Datum.isNaN] at h
  | infinity s => exact nanB_write_inf s
  | number s m i => exact nanB_write_number _ _ _

theorem down_form (neg : Bool) (n d : Nat) : Toward.down.cut neg n d = n / (1 <<< min d (n.log2 + 2)) + (neg && n % (1 <<< min d (n.log2 + 2)) != 0).toNat := rfl
theorem down_le (neg : Bool) (n d : Nat) : Toward.down.cut neg n d ≤ n / 2 ^ d + 1 := by
  rw [down_form]
  refine Nat.le_trans (Nat.add_le_add_left (Bool.toNat_le _) _) (Nat.add_le_add_right ?_ 1)
  by_cases h : d ≤ n.log2 + 2
  · rw [Nat.min_eq_left h, Nat.shiftLeft_eq, Nat.one_mul]
    exact Nat.le_refl _
  · have e : (1 : Nat) <<< min d (n.log2 + 2) = 2 ^ (n.log2 + 2) := by rw [Nat.min_eq_right (by omega), Nat.shiftLeft_eq, Nat.one_mul]
    have h1 := Nat.lt_log2_self (n := n)
    have h2 : 2 ^ (n.log2 + 1) ≤ 2 ^ (n.log2 + 2) := pow_le _ _ (by omega)
    rw [e, Nat.div_eq_of_lt (show n < 2 ^ (n.log2 + 2) by omega)]
    exact Nat.zero_le _
theorem zero_form (neg : Bool) (n d : Nat) : Toward.zero.cut neg n d = n / (1 <<< min d (n.log2 + 2)) := rfl
theorem zero_exact (neg : Bool) (c k : Nat) : Toward.zero.cut neg (c <<< k) k = c := by
  rw [zero_form]
  by_cases hc : c = 0
  · subst hc
    rw [Nat.zero_shiftLeft, Nat.zero_div]
  · rw [log2_shl c k hc, Nat.min_eq_left (by omega), Nat.shiftLeft_eq, Nat.shiftLeft_eq, Nat.one_mul, Nat.mul_div_cancel _ (Nat.two_pow_pos k)]

theorem floor_bd (z N : Nat) (hz : Bd z N) (hN : N ≤ 100000) : ∃ K, floatToIntVal .f64 (flr z) .i64 = some K ∧ -((N : Int) + 1) ≤ K ∧ K ≤ (N : Int) + 1 := by
  obtain ⟨s, m, i, hr, hb⟩ := hz
  have hi := (read_place z s m i hr).1
  obtain ⟨c, hc⟩ : ∃ c, Toward.down.cut s (m <<< i.toNat) (-i).toNat = c := ⟨_, rfl⟩
  have hcN : c ≤ N + 1 := by
    have h1 := down_le s (m <<< i.toNat) (-i).toNat
    rw [hc] at h1
    refine Nat.le_trans h1 (Nat.add_le_add_right ?_ 1)
    refine Nat.div_le_of_le_mul ?_
    rw [Nat.shiftLeft_eq]
    have hp : 0 < 2 ^ (min i 0 + 1074).toNat := Nat.two_pow_pos _
    refine Nat.le_of_mul_le_mul_right ?_ hp
    have e1 : m * 2 ^ i.toNat * 2 ^ (min i 0 + 1074).toNat = m * 2 ^ (i + 1074).toNat := by
      rw [Nat.mul_assoc, ← Nat.pow_add]
      congr 2
      omega
    have e2 : 2 ^ (-i).toNat * N * 2 ^ (min i 0 + 1074).toNat = N * U := by
      rw [Nat.mul_comm (2 ^ (-i).toNat) N, Nat.mul_assoc, ← Nat.pow_add, U_eq]
      congr 2
      omega
    rw [e1, e2]
    exact hb
  have hf : flr z = Ieee.double.nearest s c 0 := by
    unfold flr
    rw [hr]
    show Ieee.double.nearest s (Toward.down.cut s (m <<< i.toNat) (-i).toNat) 0 = _
    rw [hc]
  have key : (FloatKind.f64.decode (flr z)).toInt .zero = some (Ieee.signed s c 0) := by
    show (Ieee.double.read (flr z)).toInt .zero = _
    rw [hf]
    by_cases h0 : c = 0
    · subst h0
      rw [nearest_zero, read_zero]
      rfl
    · obtain ⟨k, hk, hr2, _⟩ := read_near s c 0 h0 (by omega) (by decide) (by
        have := (Nat.log2_lt h0).2 (show c < 2 ^ 53 by omega)
        omega)
      rw [hr2]
      simp only [Datum.toInt, Datum.integral]
      rw [show ((0 : Int) - (k : Int)).toNat = 0 by omega, show (-((0 : Int) - (k : Int))).toNat = k by omega, Nat.shiftLeft_zero, zero_exact]
  refine ⟨Ieee.signed s c 0, ?_, ?_, ?_⟩
  · unfold floatToIntVal
    rw [key]
    have hx : IntKind.i64.min = -9223372036854775808 := by decide
    have hy : IntKind.i64.max = 9223372036854775807 := by decide
    simp only [hx, hy]
    refine if_pos ?_
    rw [signed_eq]
    cases s <;> simp <;> omega
  · rw [signed_eq]
    cases s <;> simp <;> omega
  · rw [signed_eq]
    cases s <;> simp <;> omega

/-- Not above the one, not below the other. -/
theorem ord_bd (x t : Nat) (s : Bool) (m : Nat) (i : Int) (sT : Bool) (mT : Nat) (iT : Int) (hx : Ieee.double.read x = .number s m i) (ht : Ieee.double.read t = .number sT mT iT) : 
    (FloatKind.f64.format.order x t = some .gt ↔ un sT mT iT < un s m i) ∧ (FloatKind.f64.format.order x t = some .lt ↔ un s m i < un sT mT iT) := by
  have e : FloatKind.f64.format.order x t = (Ieee.double.read x).order (Ieee.double.read t) := rfl
  rw [e, hx, ht]
  simp only [Datum.order, Option.some.injEq]
  have hi := (read_place x s m i hx).1
  have hiT := (read_place t sT mT iT ht).1
  obtain ⟨b, hb⟩ : ∃ b, b = min i iT := ⟨_, rfl⟩
  rw [← hb]
  unfold un
  have hp : (0 : Int) < ((2 ^ (b + 1074).toNat : Nat) : Int) := by have := Nat.two_pow_pos (b + 1074).toNat; omega
  have e1 : Ieee.signed s m (i + 1074).toNat = Ieee.signed s m (i - b).toNat * ((2 ^ (b + 1074).toNat : Nat) : Int) := by
    rw [← signed_add]; congr 1; omega
  have e2 : Ieee.signed sT mT (iT + 1074).toNat = Ieee.signed sT mT (iT - b).toNat * ((2 ^ (b + 1074).toNat : Nat) : Int) := by
    rw [← signed_add]; congr 1; omega
  rw [e1, e2, Int.compare_eq_gt, Int.compare_eq_lt]
  exact ⟨(Int.mul_lt_mul_right hp).symm, (Int.mul_lt_mul_right hp).symm⟩

theorem rdTop : Ieee.double.read 4649454530587146735 = .number false 6243314768165359 (-43) := by decide +kernel
theorem rdLow : Ieee.double.read 13873137513782915154 = .number true 6554261109157970 (-43) := by decide +kernel
/-- What Exp reckons with is of a size below 746. -/
theorem exp_bd (x : Nat) (hn : nanB x = false) (h1 : FloatKind.f64.format.order x 4649454530587146735 ≠ some .gt) (h2 : FloatKind.f64.format.order x 13873137513782915154 ≠ some .lt) : Bd x 746 := by
  cases hx : Ieee.double.read x with
  | nan s f => unfold nanB at hn; rw [hx] at hn; simp [Datum.isNaN] at hn
  | infinity s =>
    exfalso
    cases s
    · apply h1
      show (Ieee.double.read x).order (Ieee.double.read 4649454530587146735) = _
      rw [hx, rdTop]; rfl
    · apply h2
      show (Ieee.double.read x).order (Ieee.double.read 13873137513782915154) = _
      rw [hx, rdLow]; rfl
  | number s m i =>
    refine ⟨s, m, i, hx, ?_⟩
    have k1 := (ord_bd x _ s m i _ _ _ hx rdTop).1
    have k2 := (ord_bd x _ s m i _ _ _ hx rdLow).2
    have g1 : ¬ un false 6243314768165359 (-43) < un s m i := fun h => h1 (k1.2 h)
    have g2 : ¬ un s m i < un true 6554261109157970 (-43) := fun h => h2 (k2.2 h)
    rw [← un_abs s m i]
    obtain ⟨C, hC⟩ : ∃ C : Nat, C = 2 ^ 1031 := ⟨_, rfl⟩
    have hU : U = C * 2 ^ 43 := pow_parts 1074 1031 43 U C (by decide) U_eq hC
    have t1 : un false 6243314768165359 (-43) = (6243314768165359 * C : Nat) := by
      unfold un
      rw [signed_eq, show ((-43 : Int) + 1074).toNat = 1031 by decide, ← hC, if_neg (by decide), Int.one_mul]
    have t2 : un true 6554261109157970 (-43) = -((6554261109157970 * C : Nat) : Int) := by
      unfold un
      rw [signed_eq, show ((-43 : Int) + 1074).toNat = 1031 by decide, ← hC, if_pos rfl]
      omega
    rw [t1] at g1
    rw [t2] at g2
    rw [hU]
    generalize un s m i = v at *
    have h3 : 6554261109157970 * C ≤ 746 * (C * 2 ^ 43) := by
      have : 6554261109157970 * C ≤ (746 * 2 ^ 43) * C := Nat.mul_le_mul_right _ (by decide)
      rw [Nat.mul_comm C, ← Nat.mul_assoc]
      exact this
    have h4 : 6243314768165359 * C ≤ 746 * (C * 2 ^ 43) := by
      have : 6243314768165359 * C ≤ (746 * 2 ^ 43) * C := Nat.mul_le_mul_right _ (by decide)
      rw [Nat.mul_comm C, ← Nat.mul_assoc]
      exact this
    generalize 746 * (C * 2 ^ 43) = Q at *
    generalize 6554261109157970 * C = R at *
    generalize 6243314768165359 * C = T at *
    omega
end Go.Proofs.Ytebjklppbkkinaa
