/- Floats: MinTime, MaxTime, what lies between them; NaNs. -/
import Derived.Laws.FloatArith
namespace Go.Proofs.Ytmfeckpcnofkhaa
open Ieee

/-- What the words of MinTime and MaxTime stand for. -/
theorem rdA : Ieee.double.read 14036670243316695040 = .number true (62167219200000 * 128) (-7) := by decide +kernel
theorem rdB : Ieee.double.read 4822456875284660192 = .number false (253402300799999 * 32) (-5) := by decide +kernel

theorem read_mag (x : Nat) (s : Bool) (m : Nat) (i : Int) (h : Ieee.double.read x = .number s m i) : m < 2 ^ 53 := by
  unfold Ieee.Format.read at h
  have hb : Ieee.double.binade = 2 ^ 52 := rfl
  simp only [hb] at h
  split at h
  · rename_i hl; cases h; omega
  · split at h
    · cases h
      have : x % Ieee.double.signWeight % 2 ^ 52 < 2 ^ 52 := Nat.mod_lt _ (by decide)
      omega
    · split at h <;> cases h

theorem cut_zero_le (s : Bool) (n d : Nat) : Ieee.Toward.zero.cut s n d ≤ n := by
  unfold Ieee.Toward.cut
  simp
  exact Nat.div_le_self _ _

theorem shl_mono (m a b : Nat) (h : a ≤ b) : m <<< a ≤ m <<< b := by
  rw [Nat.shiftLeft_eq, Nat.shiftLeft_eq]
  exact Nat.mul_le_mul_left _ (Nat.pow_le_pow_right (by decide) h)

theorem sgT (n a : Nat) : Ieee.signed true n a = -((n <<< a : Nat) : Int) := rfl
theorem sgF (n a : Nat) : Ieee.signed false n a = ((n <<< a : Nat) : Int) := rfl
theorem sgT0 (n : Nat) : Ieee.signed true n 0 = -(n : Int) := rfl
theorem sgF0 (n : Nat) : Ieee.signed false n 0 = (n : Int) := rfl

/-- A float between MinTime and MaxTime is a whole number of 64 bits, cut. -/
theorem conv_ok (z : Nat) (hA : Ieee.double.order z 14036670243316695040 = some .gt ∨ Ieee.double.order z 14036670243316695040 = some .eq)
    (hB : Ieee.double.order z 4822456875284660192 = some .lt ∨ Ieee.double.order z 4822456875284660192 = some .eq) : ∃ n, floatToIntVal .f64 z .i64 = some n := by
  unfold Ieee.Format.order at hA hB
  rw [rdA] at hA
  rw [rdB] at hB
  unfold floatToIntVal FloatKind.decode
  show ∃ n, (match (Ieee.double.read z).toInt .zero with | some n => if IntKind.i64.min ≤ n ∧ n ≤ IntKind.i64.max then some n else none | none => none) = some n
  cases hz : Ieee.double.read z with
  | nan s f => rw [hz] at hA; simp [Ieee.Datum.order] at hA
  | infinity s => rw [hz] at hA hB; cases s <;> simp [Ieee.Datum.order] at hA hB
  | number s m i =>
    rw [hz] at hA hB
    have hm := read_mag z s m i hz
    simp only [Ieee.Datum.order, Option.some.injEq] at hA hB
    have hc := cut_zero_le s (m <<< i.toNat) (-i).toNat
    have key : (m <<< i.toNat : Nat) < 2 ^ 60 := by
      by_cases hi : 0 ≤ i
      · rw [show min i (-7) = -7 by omega, show ((-7 : Int) - -7).toNat = 0 from rfl, sgT0] at hA
        rw [show min i (-5) = -5 by omega, show ((-5 : Int) - -5).toNat = 0 from rfl, sgF0] at hB
        cases s with
        | false =>
          have h2 := shl_mono m i.toNat (i - -5).toNat (by omega)
          rw [sgF] at hB
          generalize m <<< (i - -5).toNat = u at *
          generalize m <<< i.toNat = v at *
          clear hA hm hz
          have : (u : Int) ≤ ((253402300799999 * 32 : Nat) : Int) := by
            rcases hB with h | h
            · exact Int.le_of_lt (Int.compare_eq_lt.1 h)
            · exact Int.le_of_eq (Int.compare_eq_eq.1 h)
          omega
        | true =>
          have h2 := shl_mono m i.toNat (i - -7).toNat (by omega)
          rw [sgT] at hA
          generalize m <<< (i - -7).toNat = u at *
          generalize m <<< i.toNat = v at *
          clear hB hm hz
          have : -((62167219200000 * 128 : Nat) : Int) ≤ -(u : Int) := by
            rcases hA with h | h
            · exact Int.le_of_lt (Int.compare_eq_gt.1 h)
            · exact Int.le_of_eq (Int.compare_eq_eq.1 h).symm
          omega
      · rw [show i.toNat = 0 by omega]
        simp
        omega
    have hx : IntKind.i64.min = -9223372036854775808 := by decide
    have hy : IntKind.i64.max = 9223372036854775807 := by decide
    simp only [Ieee.Datum.toInt, Ieee.Datum.integral, hx, hy]
    generalize Ieee.Toward.zero.cut s (m <<< i.toNat) (-i).toNat = q at *
    refine ⟨Ieee.signed s q 0, if_pos ?_⟩
    unfold Ieee.signed
    simp
    split <;> omega

/-- A word that is a NaN. -/
def isN (n : Nat) : Prop := ∃ s f, Ieee.double.read n = .nan s f
theorem isN_of (n : Nat) (h : 0x7ff0000000000000 < n % 2 ^ 63) : isN n := by
  refine ⟨n / 2 ^ 63 % 2 == 1, n % 2 ^ 63 - 0x7ff0000000000000, ?_⟩
  have h1 : Ieee.double.binade = 2 ^ 52 := rfl
  have h2 : Ieee.double.infRung = 0x7ff0000000000000 := by decide
  have h3 : Ieee.double.signWeight = 2 ^ 63 := rfl
  unfold Ieee.Format.read
  simp only [h1, h2, h3]
  rw [if_neg (by omega), if_neg (by omega), if_neg (by omega)]
theorem cut_isN (x y t : Nat) : isN (Question.cut (.nanBits .f64 x y) t) := by
  apply isN_of
  unfold Question.cut
  simp only
  have h1 : t / 2 % (2 ^ 52 - 1) < 2 ^ 52 - 1 := Nat.mod_lt _ (by decide)
  generalize t / 2 % (2 ^ 52 - 1) = u at *
  have h2 : t % 2 < 2 := Nat.mod_lt _ (by decide)
  generalize t % 2 = v at *
  rcases (show v = 0 ∨ v = 1 by omega) with rfl | rfl <;> omega
theorem order_isN (n m : Nat) (h : isN n) : Ieee.double.order n m = none := by
  obtain ⟨s, f, h⟩ := h
  unfold Ieee.Format.order
  rw [h]; rfl
theorem add_isN (n m : Nat) (h : isN n) : Ieee.double.add n m = none := by
  obtain ⟨s, f, h⟩ := h
  unfold Ieee.Format.add
  rw [h]; rfl
theorem quiet_isN (s : Bool) (t : Nat) (ht : t < 2 ^ 52) : isN (FloatKind.f64.encode (.nan s (FloatKind.f64.format.quiet t))) := by
  have h1 : FloatKind.f64.format.quiet t = t ||| 2 ^ 51 := rfl
  have h2 : t ||| 2 ^ 51 < 2 ^ 52 := Nat.or_lt_two_pow ht (by decide)
  have h3 : 2 ^ 51 ≤ t ||| 2 ^ 51 := Nat.right_le_or
  rw [h1]
  generalize t ||| 2 ^ 51 = q at *
  have h4 : FloatKind.f64.encode (.nan s q) = Ieee.double.word s (0x7ff0000000000000 + q % 2 ^ 52) := rfl
  rw [h4]
  apply isN_of
  unfold Ieee.Format.word
  have h5 : Ieee.double.signWeight = 2 ^ 63 := rfl
  rw [h5]
  cases s <;> simp <;> omega
theorem read_nan_lt (n : Nat) (s : Bool) (f : Nat) (h : Ieee.double.read n = .nan s f) : f < 2 ^ 52 := by
  unfold Ieee.Format.read at h
  have h1 : Ieee.double.binade = 2 ^ 52 := rfl
  have h2 : Ieee.double.infRung = 0x7ff0000000000000 := by decide
  have h3 : Ieee.double.signWeight = 2 ^ 63 := rfl
  simp only [h1, h2, h3] at h
  split at h
  · cases h
  · split at h
    · cases h
    · split at h
      · cases h
      · cases h
        have := Nat.mod_lt n (show 2 ^ 63 > 0 by decide)
        omega
end Go.Proofs.Ytmfeckpcnofkhaa
