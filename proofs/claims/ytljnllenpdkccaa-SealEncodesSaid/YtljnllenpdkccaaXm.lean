/- Eight bytes and the number that they make: plain mathematics. -/
import Derived.Test.YtljnllenpdkccaaRd
namespace Go.Proofs.Ytljnllenpdkccaa
open Go.RowKit

/-- The eight bytes of a number below 2^64, the highest first; those behind a place, noughts ahead. -/
def eb (N i : Nat) : List Int := (List.range 8).map fun p => if 8 ≤ p + i then ((N / 256 ^ (7 - p) % 256 : Nat) : Int) else 0
/-- The bits of a number below 2^64, the highest first. -/
def b64 (N p : Nat) : Nat := N / 2 ^ (63 - p) % 2
/-- The number of eight bytes. -/
def ev (xs : List Int) : Nat := bv (bt 8 xs) 0 64

theorem b64_lt (N p : Nat) : b64 N p < 2 := Nat.mod_lt _ (by decide)
theorem b64_top (N : Nat) (h : N < 2 ^ 64) (k : Nat) (hk : k ≤ 64) : bv (b64 N) 0 k = N / 2 ^ (64 - k) :=
  top_bits N 64 h 0 (b64 N) (fun r _ => by rw [Nat.zero_add]; rfl) k hk
theorem b64_byte (N : Nat) (h : N < 2 ^ 64) (p : Nat) (hp : p < 8) : bv (b64 N) (8 * p) 8 = N / 256 ^ (7 - p) % 256 := by
  have h1 := bv_add (b64 N) 0 (8 * p) 8
  rw [b64_top N h (8 * p + 8) (by omega), Nat.zero_add] at h1
  have h2 := bv_lt (b64 N) (b64_lt N) (8 * p) 8
  have e : (256 : Nat) ^ (7 - p) = 2 ^ (64 - (8 * p + 8)) := by
    rw [show (256 : Nat) = 2 ^ 8 from rfl, ← Nat.pow_mul]
    congr 1
    omega
  rw [e, h1]
  omega
theorem eb_gr (N : Nat) (h : N < 2 ^ 64) : eb N 8 = gr (b64 N) 8 8 := by
  unfold eb gr
  refine List.map_congr_left fun p hp => ?_
  have hp' := List.mem_range.1 hp
  rw [if_pos (by omega), b64_byte N h p hp']
theorem eb_len (N i : Nat) : (eb N i).length = 8 := by simp [eb]
theorem eb_zero (N : Nat) : eb N 0 = [0, 0, 0, 0, 0, 0, 0, 0] := by
  simp [eb, List.range_succ]
theorem eb_set (N i : Nat) (hi : i < 8) : (eb N i).set (7 - i) ((N / 256 ^ i % 256 : Nat) : Int) = eb N (i + 1) := by
  refine List.ext_getElem (by simp [eb]) fun p h1 h2 => ?_
  have hp : p < 8 := by simpa [eb_len] using h2
  rw [List.getElem_set]
  simp only [eb, List.getElem_map, List.getElem_range]
  split
  · rename_i h3
    rw [if_pos (by omega), show 7 - p = i by omega]
  · rename_i h3
    by_cases h4 : 8 ≤ p + i
    · rw [if_pos h4, if_pos (by omega)]
    · rw [if_neg h4, if_neg (by omega)]
theorem eb_small (N : Nat) (h : N < 2 ^ 64) : Small 8 (eb N 8) := by
  rw [eb_gr N h]
  exact gr_small _ (b64_lt N) 8 8
theorem ev_lt (xs : List Int) : ev xs < 2 ^ 64 := bv_lt _ (bt_lt 8 xs) 0 64
theorem ev_eb (N : Nat) (h : N < 2 ^ 64) (ys : List Int) : ev (eb N 8 ++ ys) = N := by
  unfold ev
  have h1 := b64_top N h 64 (by omega)
  rw [Nat.sub_self, Nat.pow_zero, Nat.div_one] at h1
  refine Eq.trans (bv_congr _ (b64 N) 0 64 fun i _ hi => ?_) h1
  have h2 : bt 8 (eb N 8 ++ ys) i = bt 8 (eb N 8) i := by
    unfold bt
    rw [List.getD, List.getD, List.getElem?_append_left (by rw [eb_len]; omega)]
  rw [h2, eb_gr N h, bt_gr _ (b64_lt N) 8 (by decide) 8 i (by omega)]
theorem eb_ev (xs : List Int) (h : Small 8 xs) (hl : 8 ≤ xs.length) : eb (ev xs) 8 = xs.take 8 := by
  rw [eb_gr _ (ev_lt xs), gr_congr (b64 (ev xs)) (bt 8 xs) 8 8 (fun i hi => by
    have := bv_bit (bt 8 xs) (bt_lt 8 xs) 0 64 i (by omega)
    rw [Nat.zero_add] at this
    exact this)]
  refine List.ext_getElem (by simp [gr_len]; omega) fun i h1 h2 => ?_
  have hi : i < 8 := by simpa [gr_len] using h1
  have e := gr_getD (bt 8 xs) 8 8 i hi
  rw [bv_self 8 (by decide) xs i (h.nat i), Int.toNat_of_nonneg (h i (by omega)).1] at e
  rw [List.getD, List.getD, List.getElem?_eq_getElem h1, List.getElem?_eq_getElem (show i < xs.length by omega)] at e
  simpa using e
/-- The number grows by a byte. -/
theorem ev_step (xs : List Int) (h : Small 8 xs) (i : Nat) (hi : i < xs.length) : ((bv (bt 8 xs) 0 (8 * (i + 1)) : Nat) : Int) = (bv (bt 8 xs) 0 (8 * i) : Nat) * 256 + xs.getD i 0 := by
  have h1 := bv_add (bt 8 xs) 0 (8 * i) 8
  rw [Nat.zero_add, bv_self 8 (by decide) xs i (h.nat i)] at h1
  have h2 := (h i hi).1
  rw [Nat.mul_succ, h1]
  omega

/-- An int64 as a number below 2^64, and back. -/
def un (x : Int) : Nat := (x % 18446744073709551616).toNat
theorem un_lt (x : Int) : un x < 2 ^ 64 := by
  have h : (2 : Nat) ^ 64 = 18446744073709551616 := by decide
  unfold un; omega
def sg (N : Nat) : Int := if N < 9223372036854775808 then (N : Int) else (N : Int) - 18446744073709551616
theorem sg_un (x : Int) (h0 : -9223372036854775808 ≤ x) (h1 : x ≤ 9223372036854775807) : sg (un x) = x := by
  unfold sg un; split <;> omega
theorem un_sg (N : Nat) (h : N < 2 ^ 64) : un (sg N) = N := by
  have h2 : (2 : Nat) ^ 64 = 18446744073709551616 := by decide
  unfold sg un; split <;> omega
theorem sg_bd (N : Nat) (h : N < 2 ^ 64) : -9223372036854775808 ≤ sg N ∧ sg N ≤ 9223372036854775807 := by
  have h2 : (2 : Nat) ^ 64 = 18446744073709551616 := by decide
  unfold sg; split <;> omega

/-- A list of eight. -/
theorem eight (l : List Int) (h : l.length = 8) : ∃ y0 y1 y2 y3 y4 y5 y6 y7, l = [y0, y1, y2, y3, y4, y5, y6, y7] := by
  match l, h with
  | [y0, y1, y2, y3, y4, y5, y6, y7], _ => exact ⟨y0, y1, y2, y3, y4, y5, y6, y7, rfl⟩
end Go.Proofs.Ytljnllenpdkccaa
