/- Bits laid one by one: plain mathematics. -/
import Derived.Test.YtljnllenpdkccaaDe
namespace Go.Proofs.Ytljnllenpdkccaa
open Go.RowKit

/-- The bits up to a place; 0 behind. -/
def bk (b : Nat → Nat) (k p : Nat) : Nat := if p < k then b p else 0
theorem bk_lt (b : Nat → Nat) (hb : ∀ i, b i < 2) (k p : Nat) : bk b k p < 2 := by
  unfold bk
  split
  · exact hb p
  · omega
theorem gr_zero (b : Nat → Nat) (q : Nat) : gr (bk b 0) 8 q = List.replicate q 0 := by
  unfold gr
  rw [List.eq_replicate_iff]
  refine ⟨by simp, fun x hx => ?_⟩
  obtain ⟨i, _, rfl⟩ := List.mem_map.1 hx
  rw [bv_zero (bk b 0) (8 * i) 8 (fun p _ _ => by simp [bk])]
  rfl
theorem gr_all (b : Nat → Nat) (q k : Nat) (h : 8 * q ≤ k) : gr (bk b k) 8 q = gr b 8 q :=
  gr_congr _ _ 8 q fun i hi => by unfold bk; rw [if_pos (by omega)]
theorem gr_next (b : Nat → Nat) (q k : Nat) (h : 8 * q ≤ k ∨ b k = 0) : gr (bk b (k + 1)) 8 q = gr (bk b k) 8 q :=
  gr_congr _ _ 8 q fun i hi => by
    unfold bk
    by_cases h1 : i < k
    · rw [if_pos h1, if_pos (by omega)]
    · rw [if_neg h1]
      by_cases h2 : i = k
      · subst h2
        rw [if_pos (by omega)]
        omega
      · rw [if_neg (by omega)]
/-- A byte whose first r bits are laid. -/
theorem byte_r (b : Nat → Nat) (e r : Nat) (hr : r < 8) : bv (bk b (8 * e + r)) (8 * e) 8 = bv b (8 * e) r * 2 ^ (8 - r) := by
  have h1 := bv_add (bk b (8 * e + r)) (8 * e) r (8 - r)
  rw [show r + (8 - r) = 8 by omega, bv_zero (bk b (8 * e + r)) (8 * e + r) (8 - r) (fun i h2 _ => by unfold bk; rw [if_neg (by omega)]), Nat.add_zero,
    bv_congr (bk b (8 * e + r)) b (8 * e) r (fun i _ h3 => by unfold bk; rw [if_pos h3])] at h1
  exact h1
theorem byte_next (b : Nat → Nat) (e r : Nat) (hr : r < 8) (h : b (8 * e + r) = 1) : bv (bk b (8 * e + r + 1)) (8 * e) 8 = bv (bk b (8 * e + r)) (8 * e) 8 + 2 ^ (7 - r) := by
  rw [byte_r b e r hr]
  have h1 := bv_add (bk b (8 * e + r + 1)) (8 * e) (r + 1) (7 - r)
  have h3 : bv (bk b (8 * e + r + 1)) (8 * e) (r + 1) = 2 * bv (bk b (8 * e + r + 1)) (8 * e) r + bk b (8 * e + r + 1) (8 * e + r) := rfl
  have h4 := bv_congr (bk b (8 * e + r + 1)) b (8 * e) r (fun i _ h3 => by unfold bk; rw [if_pos (by omega)])
  have h2 : bk b (8 * e + r + 1) (8 * e + r) = 1 := by unfold bk; rw [if_pos (by omega)]; exact h
  rw [show r + 1 + (7 - r) = 8 by omega, bv_zero (bk b (8 * e + r + 1)) (8 * e + (r + 1)) (7 - r) (fun i h2 _ => by unfold bk; rw [if_neg (by omega)]), Nat.add_zero, h3, h4, h2] at h1
  rw [h1, show 8 - r = (7 - r) + 1 by omega, Nat.pow_succ, Nat.add_mul, Nat.one_mul, Nat.mul_comm 2, Nat.mul_assoc, Nat.mul_comm 2, Nat.add_zero]
theorem byte_or (b : Nat → Nat) (hb : ∀ i, b i < 2) (e r : Nat) (hr : r < 8) (h : b (8 * e + r) = 1) (old : Int) (ho : old = ((bv (bk b (8 * e + r)) (8 * e) 8 : Nat) : Int)) :
    bits BinOp.or IntKind.u8 old (2 ^ (7 - r)) = ((bv (bk b (8 * e + r + 1)) (8 * e) 8 : Nat) : Int) := by
  have h0 := bv_lt _ (bk_lt b hb (8 * e + r)) (8 * e) 8
  have h1 := bv_lt _ (bk_lt b hb (8 * e + r + 1)) (8 * e) 8
  have h2 := byte_next b e r hr h
  have h3 := byte_r b e r hr
  have hp : (2 : Nat) ^ (7 - r) < 2 ^ (8 - r) := Nat.pow_lt_pow_right (by decide) (by omega)
  have hp8 : (2 : Nat) ^ (8 - r) ≤ 2 ^ 8 := Nat.pow_le_pow_right (by decide) (by omega)
  have hpi : ((2 : Int) ^ (7 - r)) = ((2 ^ (7 - r) : Nat) : Int) := by simp
  rw [ho, hpi, (bits_nat .u8 8 (by decide) wraps_u8 _ _ h0 (by omega)).2, h2]
  congr 1
  rw [h3, Nat.mul_comm, ← Nat.two_pow_add_eq_or_of_lt hp]
theorem gr_set (b : Nat → Nat) (q e r : Nat) (hr : r < 8) : (gr (bk b (8 * e + r)) 8 q).set e ((bv (bk b (8 * e + r + 1)) (8 * e) 8 : Nat) : Int) = gr (bk b (8 * e + r + 1)) 8 q := by
  refine List.ext_getElem (by simp [gr_len]) fun i h1 h2 => ?_
  rw [List.getElem_set]
  have hi : i < q := by simpa [gr_len] using h2
  have e2 : (gr (bk b (8 * e + r + 1)) 8 q)[i] = ((bv (bk b (8 * e + r + 1)) (8 * i) 8 : Nat) : Int) := by simp [gr]
  rw [e2]
  split
  · rename_i h3
    rw [h3]
  · rename_i h3
    have e1 : (gr (bk b (8 * e + r)) 8 q)[i]'(by rw [gr_len]; exact hi) = ((bv (bk b (8 * e + r)) (8 * i) 8 : Nat) : Int) := by simp [gr]
    rw [e1, bv_congr (bk b (8 * e + r)) (bk b (8 * e + r + 1)) (8 * i) 8 (fun p h4 h5 => by
      unfold bk
      by_cases h6 : p < 8 * e + r
      · rw [if_pos h6, if_pos (by omega)]
      · rw [if_neg h6, if_neg (by omega)])]

theorem son_size (xs : List Int) : (strOfNums xs).size = xs.length := by
  show (List.map _ xs).toArray.size = _
  simp
theorem nm_son (xs : List Int) (h : Small 8 xs) : nm (strOfNums xs) = xs := by
  unfold nm strOfNums
  refine List.ext_getElem (by simp) fun i h1 h2 => ?_
  have := h i h2
  simp only [List.getD, List.getElem?_eq_getElem h2, Option.getD_some] at this
  have h3 : xs[i] < 256 := by simpa using this.2
  simp only [List.getElem_map]
  rw [UInt8.toNat_ofNat']
  omega
theorem son_nm (s : ByteArray) : strOfNums (nm s) = s := by
  unfold nm strOfNums
  refine ByteArray.ext (Array.ext' ?_)
  simp only [List.map_map]
  refine List.ext_getElem (by simp) fun i h1 h2 => ?_
  simp
theorem enc_small (xs : List Int) : Small 8 (enc xs) := by
  intro j hj
  rw [enc_len] at hj
  have e : (enc xs).getD j 0 = lt ((gr (bt 8 xs) 6 (ln xs.length)).getD j 0) := by
    simp [enc, List.getD, List.getElem?_eq_getElem (show j < (gr (bt 8 xs) 6 (ln xs.length)).length by rw [gr_len]; exact hj)]
  have h1 := gr_small (bt 8 xs) (bt_lt 8 xs) 6 (ln xs.length) j (by rw [gr_len]; exact hj)
  have := lt_bd _ h1.1
  rw [e]
  exact ⟨this.1, by show _ < (256 : Int); omega⟩
end Go.Proofs.Ytljnllenpdkccaa
