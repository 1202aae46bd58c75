/- A part of a whole number: rank, floor, rest. -/
import Derived.Test.YtfjfpplemgjcmabQe
namespace Go.Proofs.Ytfjfpplemgjcmab
open Ieee

/-- A number that isn't below 0 and at most N, by its units. -/
def Nn (x N : Nat) : Prop := ∃ s m i, Ieee.double.read x = .number s m i ∧ (s = true → m = 0) ∧ m * 2 ^ (i + 1074).toNat ≤ N * U
theorem Nn.num {x N : Nat} (h : Nn x N) : nanB x = false := by
  obtain ⟨s, m, i, hr, _⟩ := h
  unfold nanB
  rw [hr]; rfl
theorem uv_one : uv 4607182418800017408 = U := by
  have h := read_uv 4607182418800017408 _ _ _ rdOne
  rw [show 4607182418800017408 % 2 ^ 63 = 4607182418800017408 by decide] at h
  rw [← h, ← Nat.pow_add, U_eq, show 52 + ((-52 : Int) + 1074).toNat = 1074 by decide]
theorem part_nn (q : Nat) (hn : nanB q = false) (h0 : 0 ≤ ky q) (h1 : ky q ≤ 4607182418800017408) : Nn q 1 := by
  have hk : ky q = sv (sgn q) (q % 2 ^ 63) := if_neg (by rw [hn]; decide)
  rw [hk] at h0 h1
  have hm : q % 2 ^ 63 ≤ 4607182418800017408 := by
    unfold sv at h0 h1
    cases hs : sgn q <;> rw [hs] at h0 h1 <;> simp at h0 h1 <;> omega
  obtain ⟨s, m, i, hr⟩ := read_fin q (by omega)
  have hs := (read_sign q).1 s m i hr
  have hu := read_uv q s m i hr
  refine ⟨s, m, i, hr, fun hst => ?_, ?_⟩
  · rw [← hs.1, hst] at h0
    unfold sv at h0
    rw [if_pos rfl] at h0
    have hz : q % 2 ^ 63 = 0 := by omega
    rw [hz] at hu
    have h00 : uv 0 = 0 := rfl
    rw [h00] at hu
    rcases Nat.mul_eq_zero.1 hu with h | h
    · exact h
    · exact absurd h (Nat.ne_of_gt (Nat.two_pow_pos _))
  · rw [hu, Nat.one_mul, ← uv_one]
    exact uv_mono _ _ hm
theorem iw_nn (N : Nat) (hN : N ≤ 9007199254740992) : ∃ m i, Ieee.double.read (iw (N : Int)) = .number false m i ∧ m * 2 ^ (i + 1074).toNat = N * U := by
  obtain ⟨m, i, hr, hu, _⟩ := iw_read (N : Int) (by omega) (by omega)
  rw [show decide ((N : Int) < 0) = false from decide_eq_false (by omega)] at hr hu
  refine ⟨m, i, hr, ?_⟩
  unfold un at hu
  rw [signed_eq, if_neg (by decide), Int.one_mul, ← U_eq, ← Int.natCast_mul] at hu
  exact Int.ofNat.inj hu
/-- The rank. -/
theorem rank_nn (q N : Nat) (hq : Nn q 1) (hN : N < 2 ^ 53) : ∃ y, floatBits .mul .f64 q (iw (N : Int)) = some y ∧ Nn y N := by
  obtain ⟨s, m, i, hr, hs, hb⟩ := hq
  obtain ⟨mc, ic, hc, hcu⟩ := iw_nn N (by omega)
  have e : floatBits .mul .f64 q (iw (N : Int)) = ((Ieee.double.read q).product (Ieee.double.read (iw (N : Int)))).map Ieee.double.write := rfl
  rw [e, hr, hc]
  refine ⟨Ieee.double.nearest (s ^^ false) (m * mc) (i + ic), rfl, ?_⟩
  rw [Bool.xor_false]
  by_cases hz : m * mc = 0
  · rw [hz, nearest_zero]
    exact ⟨s, 0, -1074, read_zero s, fun _ => rfl, by rw [Nat.zero_mul]; exact Nat.zero_le _⟩
  · have hsf : s = false := by
      cases s
      · rfl
      · exact absurd (by rw [hs rfl, Nat.zero_mul]) hz
    subst hsf
    have hi := (read_place q _ m i hr).1
    have hic := (read_place _ _ mc ic hc).1
    have hN0 : N ≠ 0 := fun h => hz (by
      rw [h, Nat.zero_mul] at hcu
      rcases Nat.mul_eq_zero.1 hcu with h | h
      · rw [h, Nat.mul_zero]
      · exact absurd h (Nat.ne_of_gt (Nat.two_pow_pos _)))
    obtain ⟨t, m2, i2, hr2, hb2⟩ := near_bd false (m * mc) (i + ic) N hN0 hN (by omega) (by
      have e1 : (i + ic + 2148).toNat = (i + 1074).toNat + (ic + 1074).toNat := by omega
      rw [e1, Nat.pow_add, Nat.mul_mul_mul_comm, hcu]
      have := Nat.mul_le_mul_right (N * U) hb
      rw [Nat.one_mul] at this
      refine Nat.le_trans this ?_
      rw [Nat.mul_comm U, Nat.mul_assoc]
      exact Nat.le_refl _)
    refine ⟨t, m2, i2, hr2, fun ht => ?_, hb2⟩
    exfalso
    have := ((read_sign _).1 t m2 i2 hr2).1
    rw [ht] at this
    rw [nearest_rung _ _ _ hz, word_pos] at this
    have hle : rung (m * mc) (i + ic) ≤ 0x7ff0000000000000 := by rw [rung_eq]; exact Nat.min_le_right _ _
    unfold sgn at this
    rw [Nat.div_eq_of_lt (by omega)] at this
    cases this
/-- The floor of a number that isn't below 0. -/
theorem floor_nn (z N : Nat) (hz : Nn z N) (hN : N < 2 ^ 53) : ∃ K : Nat, floatToIntVal .f64 (flr z) .i64 = some (K : Int) ∧ K ≤ N ∧ ∃ s m i, Ieee.double.read (flr z) = .number s m i := by
  obtain ⟨s, m, i, hr, hs, hb⟩ := hz
  have hi := (read_place z s m i hr).1
  obtain ⟨c, hc⟩ : ∃ c, Toward.down.cut s (m <<< i.toNat) (-i).toNat = c := ⟨_, rfl⟩
  have hcN : c ≤ N ∧ (s = true → c = 0) := by
    have h0 : s = true → c = 0 := fun h => by
      rw [← hc, hs h, Nat.zero_shiftLeft, down_form]
      simp
    refine ⟨?_, h0⟩
    cases s
    · have h1 : c ≤ m <<< i.toNat / 2 ^ (-i).toNat := by
        rw [← hc, down_form]
        simp only [Bool.false_and, Bool.toNat_false, Nat.add_zero]
        generalize m <<< i.toNat = n
        generalize (-i).toNat = d
        by_cases h : d ≤ n.log2 + 2
        · rw [Nat.min_eq_left h, Nat.shiftLeft_eq, Nat.one_mul]
          exact Nat.le_refl _
        · have e : (1 : Nat) <<< min d (n.log2 + 2) = 2 ^ (n.log2 + 2) := by rw [Nat.min_eq_right (by omega), Nat.shiftLeft_eq, Nat.one_mul]
          have h1 := Nat.lt_log2_self (n := n)
          have h2 : 2 ^ (n.log2 + 1) ≤ 2 ^ (n.log2 + 2) := pow_le _ _ (by omega)
          rw [e, Nat.div_eq_of_lt (show n < 2 ^ (n.log2 + 2) by omega)]
          exact Nat.zero_le _
      refine Nat.le_trans h1 ?_
      refine Nat.div_le_of_le_mul ?_
      rw [Nat.shiftLeft_eq]
      have hp : 0 < 2 ^ (min i 0 + 1074).toNat := Nat.two_pow_pos _
      refine Nat.le_of_mul_le_mul_right ?_ hp
      have e1 : m * 2 ^ i.toNat * 2 ^ (min i 0 + 1074).toNat = m * 2 ^ (i + 1074).toNat := by
        rw [Nat.mul_assoc, ← Nat.pow_add]
        congr 2
        omega
      have e2 : 2 ^ (-i).toNat * N * 2 ^ (min i 0 + 1074).toNat = N * U := by
        rw [Nat.mul_comm (2 ^ (-i).toNat) N, Nat.mul_assoc, ← Nat.pow_add, U_eq]
        congr 2
        omega
      rw [e1, e2]
      exact hb
    · rw [h0 rfl]; exact Nat.zero_le _
  have hf : flr z = Ieee.double.nearest s c 0 := by
    unfold flr
    rw [hr]
    show Ieee.double.nearest s (Toward.down.cut s (m <<< i.toNat) (-i).toNat) 0 = _
    rw [hc]
  have key : (FloatKind.f64.decode (flr z)).toInt .zero = some (Ieee.signed s c 0) ∧ ∃ s m i, Ieee.double.read (flr z) = .number s m i := by
    show (Ieee.double.read (flr z)).toInt .zero = _ ∧ _
    rw [hf]
    by_cases h0 : c = 0
    · subst h0
      rw [nearest_zero, read_zero]
      exact ⟨rfl, _, _, _, rfl⟩
    · obtain ⟨k, hk, hr2, _⟩ := read_near s c 0 h0 (by omega) (by decide) (by
        have := (Nat.log2_lt h0).2 (show c < 2 ^ 53 by omega)
        omega)
      rw [hr2]
      refine ⟨?_, _, _, _, rfl⟩
      simp only [Datum.toInt, Datum.integral]
      rw [show ((0 : Int) - (k : Int)).toNat = 0 by omega, show (-((0 : Int) - (k : Int))).toNat = k by omega, Nat.shiftLeft_zero, zero_exact]
  refine ⟨c, ?_, hcN.1, key.2⟩
  have hv : Ieee.signed s c 0 = (c : Int) := by
    rw [signed_eq]
    cases s
    · simp
    · rw [hcN.2 rfl]; rfl
  unfold floatToIntVal
  rw [key.1, hv]
  have hx : IntKind.i64.min = -9223372036854775808 := by decide
  have hy : IntKind.i64.max = 9223372036854775807 := by decide
  simp only [hx, hy]
  exact if_pos (by omega)
/-- All of it. -/
theorem quant_parts (q N : Nat) (hn : nanB q = false) (h0 : 0 ≤ ky q) (h1 : ky q ≤ 4607182418800017408) (hN : N < 2 ^ 53) :
    ∃ y z K, floatBits .mul .f64 q (iw (N : Int)) = some y ∧ nanB y = false ∧ floatToIntVal .f64 (flr y) .i64 = some ((K : Nat) : Int) ∧ K ≤ N ∧ floatBits .sub .f64 y (flr y) = some z := by
  obtain ⟨y, e1, ny⟩ := rank_nn q N (part_nn q hn h0 h1) hN
  obtain ⟨K, e2, hK, s, m, i, hr⟩ := floor_nn y N ny hN
  have hy := ny.num
  obtain ⟨s1, m1, i1, hr1, _⟩ := ny
  exact ⟨y, _, K, e1, hy, e2, hK, sub_fin _ _ _ _ _ _ _ _ hr1 hr⟩
end Go.Proofs.Ytfjfpplemgjcmab
