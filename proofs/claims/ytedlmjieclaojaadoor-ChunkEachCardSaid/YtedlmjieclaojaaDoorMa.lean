/- Bits of lists of numbers; the form of a list of samples. Plain mathematics. -/
import Derived.WalkKit
namespace Go.Proofs.YtedlmjieclaojaaDoor

/-- Bit number i of a list whose numbers count for f bits each; 0 behind its end. -/
def bt (f : Nat) (xs : List Int) (i : Nat) : Nat := (xs.getD (i / f) 0).toNat / 2 ^ (f - 1 - i % f) % 2
/-- The number that k bits make from place a on. -/
def bv (b : Nat → Nat) (a : Nat) : Nat → Nat
  | 0 => 0
  | k + 1 => 2 * bv b a k + b (a + k)
/-- The first q groups of t bits. -/
def gr (b : Nat → Nat) (t q : Nat) : List Int := (List.range q).map fun i => ((bv b (t * i) t : Nat) : Int)

theorem bt_lt (f : Nat) (xs : List Int) (i : Nat) : bt f xs i < 2 := Nat.mod_lt _ (by decide)

theorem bv_add (b : Nat → Nat) (a m : Nat) : ∀ k, bv b a (m + k) = bv b a m * 2 ^ k + bv b (a + m) k
  | 0 => by simp [bv]
  | k + 1 => by
    rw [← Nat.add_assoc, bv, bv, bv_add b a m k, Nat.pow_succ, Nat.add_assoc a m k]
    rw [Nat.mul_add, ← Nat.mul_assoc, Nat.mul_comm 2, Nat.mul_assoc, Nat.mul_comm 2, ← Nat.mul_assoc]
    omega
theorem bv_lt (b : Nat → Nat) (hb : ∀ i, b i < 2) (a : Nat) : ∀ k, bv b a k < 2 ^ k
  | 0 => by simp [bv]
  | k + 1 => by
    have h1 := bv_lt b hb a k
    have h2 := hb (a + k)
    rw [bv, Nat.pow_succ]
    omega
theorem bv_congr (b c : Nat → Nat) (a : Nat) : ∀ k, (∀ i, a ≤ i → i < a + k → b i = c i) → bv b a k = bv c a k
  | 0, _ => rfl
  | k + 1, h => by
    rw [bv, bv, bv_congr b c a k (fun i h1 h2 => h i h1 (by omega)), h (a + k) (by omega) (by omega)]
theorem bv_zero (b : Nat → Nat) (a : Nat) : ∀ k, (∀ i, a ≤ i → i < a + k → b i = 0) → bv b a k = 0
  | 0, _ => rfl
  | k + 1, h => by
    rw [bv, bv_zero b a k (fun i h1 h2 => h i h1 (by omega)), h (a + k) (by omega) (by omega)]
theorem bv_bit (b : Nat → Nat) (hb : ∀ i, b i < 2) (a f r : Nat) (h : r < f) : bv b a f / 2 ^ (f - 1 - r) % 2 = b (a + r) := by
  obtain ⟨k, rfl⟩ : ∃ k, f = (r + 1) + k := ⟨f - r - 1, by omega⟩
  have e : r + 1 + k - 1 - r = k := by omega
  rw [e, bv_add, Nat.mul_comm, Nat.mul_add_div (Nat.pow_pos (by decide)), Nat.div_eq_of_lt (bv_lt b hb _ k), Nat.add_zero, bv]
  have := hb (a + r)
  omega
theorem top_bits (x f : Nat) (hx : x < 2 ^ f) (a : Nat) (b : Nat → Nat) (hb : ∀ r, r < f → b (a + r) = x / 2 ^ (f - 1 - r) % 2) : ∀ k, k ≤ f → bv b a k = x / 2 ^ (f - k)
  | 0, _ => by simp [bv, Nat.div_eq_of_lt hx]
  | k + 1, h => by
    have ih := top_bits x f hx a b hb k (by omega)
    rw [bv, ih, hb k (by omega)]
    have e1 : f - k = (f - (k + 1)) + 1 := by omega
    have e2 : f - 1 - k = f - (k + 1) := by omega
    rw [e1, e2, Nat.pow_succ, ← Nat.div_div_eq_div_mul]
    omega
theorem bv_self (f : Nat) (hf : 0 < f) (xs : List Int) (j : Nat) (hx : (xs.getD j 0).toNat < 2 ^ f) : bv (bt f xs) (f * j) f = (xs.getD j 0).toNat := by
  have := top_bits (xs.getD j 0).toNat f hx (f * j) (bt f xs) (fun r hr => by
    unfold bt
    rw [Nat.mul_add_div hf, Nat.div_eq_of_lt hr, Nat.add_zero, Nat.mul_add_mod, Nat.mod_eq_of_lt hr]) f (Nat.le_refl _)
  simpa using this

theorem gr_len (b : Nat → Nat) (t q : Nat) : (gr b t q).length = q := by simp [gr]
theorem gr_succ (b : Nat → Nat) (t q : Nat) : gr b t (q + 1) = gr b t q ++ [((bv b (t * q) t : Nat) : Int)] := by
  simp [gr, List.range_succ]
theorem gr_getD (b : Nat → Nat) (t q i : Nat) (h : i < q) : (gr b t q).getD i 0 = ((bv b (t * i) t : Nat) : Int) := by
  simp [gr, List.getD, h]
theorem gr_out (b : Nat → Nat) (t q i : Nat) (h : q ≤ i) : (gr b t q).getD i 0 = 0 := by
  simp [List.getD, List.getElem?_eq_none (show (gr b t q).length ≤ i by rw [gr_len]; exact h)]
theorem gr_congr (b c : Nat → Nat) (t q : Nat) (h : ∀ i, i < t * q → b i = c i) : gr b t q = gr c t q := by
  unfold gr
  refine List.map_congr_left fun i hi => ?_
  have hi' := List.mem_range.1 hi
  have h1 : t * (i + 1) ≤ t * q := Nat.mul_le_mul_left t hi'
  rw [Nat.mul_succ] at h1
  rw [bv_congr b c (t * i) t (fun j _ h3 => h j (by omega))]

theorem bt_gr (b : Nat → Nat) (hb : ∀ i, b i < 2) (f : Nat) (hf : 0 < f) (q i : Nat) (h : i < f * q) : bt f (gr b f q) i = b i := by
  have h1 : i / f < q := Nat.div_lt_of_lt_mul h
  unfold bt
  rw [gr_getD b f q _ h1, Int.toNat_natCast, bv_bit b hb _ f _ (Nat.mod_lt _ hf), Nat.div_add_mod]
theorem bt_out (f : Nat) (hf : 0 < f) (xs : List Int) (i : Nat) (h : f * xs.length ≤ i) : bt f xs i = 0 := by
  have h1 : xs.length ≤ i / f := (Nat.le_div_iff_mul_le hf).2 (by rw [Nat.mul_comm]; exact h)
  unfold bt
  rw [List.getD, List.getElem?_eq_none h1]
  simp

/-- Numbers of f bits. -/
def Small (f : Nat) (xs : List Int) : Prop := ∀ j, j < xs.length → 0 ≤ xs.getD j 0 ∧ xs.getD j 0 < 2 ^ f
theorem Small.nat {f : Nat} {xs : List Int} (h : Small f xs) (j : Nat) : (xs.getD j 0).toNat < 2 ^ f := by
  by_cases hj : j < xs.length
  · have h1 := (h j hj).2
    have h2 := (h j hj).1
    have h3 : ((xs.getD j 0).toNat : Int) < ((2 ^ f : Nat) : Int) := by
      rw [Int.toNat_of_nonneg h2]; simpa using h1
    omega
  · simp [List.getD, List.getElem?_eq_none (Nat.le_of_not_lt hj)]
    exact Nat.pow_pos (by decide)
theorem gr_small (b : Nat → Nat) (hb : ∀ i, b i < 2) (t q : Nat) : Small t (gr b t q) := by
  intro j hj
  rw [gr_len] at hj
  rw [gr_getD b t q j hj]
  have := bv_lt b hb (t * j) t
  refine ⟨Int.natCast_nonneg _, ?_⟩
  have h : ((bv b (t * j) t : Nat) : Int) < ((2 ^ t : Nat) : Int) := by omega
  simpa using h
/-- Groups of its own width are the list. -/
theorem gr_self (f : Nat) (hf : 0 < f) (xs : List Int) (h : Small f xs) : gr (bt f xs) f xs.length = xs := by
  refine List.ext_getElem (gr_len _ _ _) fun i h1 h2 => ?_
  have e := gr_getD (bt f xs) f xs.length i h2
  rw [bv_self f hf xs i (h.nat i), Int.toNat_of_nonneg (h i h2).1] at e
  rw [List.getD, List.getD, List.getElem?_eq_getElem h1, List.getElem?_eq_getElem h2] at e
  simpa using e


/-- A number in n bits, the highest first. -/
def nb (v n : Nat) : List Int := (List.range n).map fun i => ((v / 2 ^ (n - 1 - i) % 2 : Nat) : Int)
/-- A row's bits. -/
def fb (L : List Int) (i : Nat) : Nat := (L.getD i 0).toNat
def Bin (L : List Int) : Prop := ∀ i, fb L i < 2 ∧ L.getD i 0 = (fb L i : Int)
theorem nb_len (v n : Nat) : (nb v n).length = n := by simp [nb]
theorem nb_getD (v n i : Nat) (h : i < n) : (nb v n).getD i 0 = ((v / 2 ^ (n - 1 - i) % 2 : Nat) : Int) := by
  simp [nb, List.getD, h]
theorem fb_nb (v n i : Nat) (h : i < n) : fb (nb v n) i = v / 2 ^ (n - 1 - i) % 2 := by
  unfold fb
  rw [nb_getD v n i h, Int.toNat_natCast]
theorem fb_out (L : List Int) (i : Nat) (h : L.length ≤ i) : fb L i = 0 := by
  unfold fb
  rw [List.getD, List.getElem?_eq_none h]
  rfl
theorem fb_left (L M : List Int) (i : Nat) (h : i < L.length) : fb (L ++ M) i = fb L i := by
  unfold fb
  rw [List.getD, List.getD, List.getElem?_append_left h]
theorem fb_right (L M : List Int) (i : Nat) : fb (L ++ M) (L.length + i) = fb M i := by
  unfold fb
  rw [List.getD, List.getD, List.getElem?_append_right (by omega), Nat.add_sub_cancel_left]
theorem fb_right' (L M : List Int) (i : Nat) (h : L.length ≤ i) : fb (L ++ M) i = fb M (i - L.length) := by
  have := fb_right L M (i - L.length)
  rwa [Nat.add_sub_cancel' h] at this
theorem bin_nil : Bin [] := fun i => by simp [fb]
theorem bin_nb (v n : Nat) : Bin (nb v n) := by
  intro i
  by_cases h : i < n
  · have := Nat.mod_lt (v / 2 ^ (n - 1 - i)) (show 0 < 2 by decide)
    rw [fb_nb v n i h, nb_getD v n i h]
    exact ⟨this, rfl⟩
  · rw [fb_out _ _ (by rw [nb_len]; omega), List.getD, List.getElem?_eq_none (by rw [nb_len]; omega)]
    exact ⟨by decide, rfl⟩
theorem bin_app {L M : List Int} (h : Bin L) (h' : Bin M) : Bin (L ++ M) := by
  intro i
  by_cases hi : i < L.length
  · rw [fb_left _ _ _ hi]
    refine ⟨(h i).1, ?_⟩
    rw [← (h i).2, List.getD, List.getD, List.getElem?_append_left hi]
  · rw [fb_right' _ _ _ (by omega)]
    refine ⟨(h' _).1, ?_⟩
    rw [← (h' _).2, List.getD, List.getD, List.getElem?_append_right (by omega)]
theorem Bin.lt {L : List Int} (h : Bin L) (i : Nat) : fb L i < 2 := (h i).1

theorem nb_zero (v : Nat) : nb v 0 = [] := rfl
theorem nb_add (v a b : Nat) : nb v (a + b) = nb (v / 2 ^ b) a ++ nb v b := by
  refine List.ext_getElem (by simp [nb]) fun i h1 h2 => ?_
  rw [nb_len] at h1
  by_cases h : i < a
  · rw [List.getElem_append_left (by rw [nb_len]; exact h)]
    simp only [nb, List.getElem_map, List.getElem_range]
    rw [show a + b - 1 - i = b + (a - 1 - i) by omega, Nat.pow_add, Nat.div_div_eq_div_mul]
  · rw [List.getElem_append_right (by rw [nb_len]; omega)]
    simp only [nb, List.getElem_map, List.getElem_range, List.length_map, List.length_range]
    rw [show a + b - 1 - i = b - 1 - (i - a) by omega]
theorem nb_succ (v n : Nat) : nb v (n + 1) = nb (v / 2) n ++ [((v % 2 : Nat) : Int)] := by
  rw [nb_add v n 1]
  simp [nb]
theorem nb_mod (v n : Nat) : nb (v % 2 ^ n) n = nb v n := by
  refine List.ext_getElem (by simp [nb]) fun i h1 h2 => ?_
  rw [nb_len] at h1
  simp only [nb, List.getElem_map, List.getElem_range]
  have e : 2 ^ n = 2 ^ (n - 1 - i) * (2 * 2 ^ i) := by
    rw [← Nat.mul_assoc, ← Nat.pow_succ, ← Nat.pow_add]
    congr 1
    omega
  rw [e, Nat.mod_mul_right_div_self, Nat.mod_mul_right_mod]
/-- The number that bits make is the number. -/
theorem bv_nb (b : Nat → Nat) (a v n : Nat) (h : ∀ i, i < n → b (a + i) = fb (nb v n) i) : bv b a n = v % 2 ^ n := by
  have := top_bits (v % 2 ^ n) n (Nat.mod_lt _ (Nat.pow_pos (by decide))) a b (fun r hr => by rw [h r hr, ← nb_mod, fb_nb _ _ _ hr]) n (Nat.le_refl _)
  simpa using this

/-- Bits put into a byte that has room for them. -/
theorem put_byte (L : List Int) (v s Q : Nat) (hs : L.length % 8 + s ≤ 8) :
    gr (fb (L ++ nb v s)) 8 Q = (gr (fb L) 8 Q).set (L.length / 8) ((bv (fb L) (8 * (L.length / 8)) 8 + v % 2 ^ s * 2 ^ (8 - L.length % 8 - s) : Nat) : Int) := by
  have hdm := Nat.div_add_mod L.length 8
  have hml := Nat.mod_lt L.length (show 0 < 8 by decide)
  generalize hj : L.length / 8 = j at *
  generalize hm : L.length % 8 = m at *
  refine List.ext_getElem (by simp [gr]) fun i h1 h2 => ?_
  rw [gr_len] at h1
  rw [List.getElem_set]
  simp only [gr, List.getElem_map, List.getElem_range]
  by_cases hi : j = i
  · subst hi
    rw [if_pos rfl]
    congr 1
    obtain ⟨k, hk⟩ : ∃ k, 8 = m + (s + k) := ⟨8 - m - s, by omega⟩
    have h8 : ∀ b : Nat → Nat, bv b (8 * j) 8 = bv b (8 * j) (m + (s + k)) := fun b => by rw [← hk]
    rw [show 8 - m - s = k by omega, h8, h8, bv_add, bv_add, bv_add, bv_add]
    have e1 : bv (fb (L ++ nb v s)) (8 * j) m = bv (fb L) (8 * j) m := bv_congr _ _ _ _ (fun i _ h4 => fb_left _ _ _ (by omega))
    have e2 : bv (fb (L ++ nb v s)) (8 * j + m) s = v % 2 ^ s := bv_nb _ _ _ _ (fun i hi => by rw [hdm, fb_right])
    have e3 : bv (fb (L ++ nb v s)) (8 * j + m + s) k = 0 := bv_zero _ _ _ (fun i h3 _ => fb_out _ _ (by rw [List.length_append, nb_len]; omega))
    have e4 : bv (fb L) (8 * j + m) s = 0 := bv_zero _ _ _ (fun i h3 _ => fb_out _ _ (by omega))
    have e5 : bv (fb L) (8 * j + m + s) k = 0 := bv_zero _ _ _ (fun i h3 _ => fb_out _ _ (by omega))
    rw [e1, e2, e3, e4, e5]
    simp
  · rw [if_neg hi]
    congr 1
    by_cases h3 : i < j
    · exact bv_congr _ _ _ _ (fun k _ h5 => fb_left _ _ _ (by omega))
    · rw [bv_zero _ _ _ (fun k h4 _ => fb_out _ _ (by rw [List.length_append, nb_len]; omega)), bv_zero _ _ _ (fun k h4 _ => fb_out _ _ (by omega))]
theorem byte_room (L : List Int) (hL : Bin L) : ∃ h, bv (fb L) (8 * (L.length / 8)) 8 = h * 2 ^ (8 - L.length % 8) ∧ bv (fb L) (8 * (L.length / 8)) 8 < 256 := by
  have hdm := Nat.div_add_mod L.length 8
  have hml := Nat.mod_lt L.length (show 0 < 8 by decide)
  refine ⟨bv (fb L) (8 * (L.length / 8)) (L.length % 8), ?_, bv_lt _ hL.lt _ 8⟩
  have := bv_add (fb L) (8 * (L.length / 8)) (L.length % 8) (8 - L.length % 8)
  rw [show L.length % 8 + (8 - L.length % 8) = 8 by omega, bv_zero (fb L) (8 * (L.length / 8) + L.length % 8) _ (fun i h3 _ => fb_out _ _ (by omega))] at this
  simpa using this
/-- A piece of a byte. -/
theorem byte_piece (b : Nat → Nat) (hb : ∀ i, b i < 2) (p s : Nat) (hs : p % 8 + s ≤ 8) : bv b (8 * (p / 8)) 8 * 2 ^ (p % 8) % 256 / 2 ^ (8 - s) = bv b p s := by
  have hdm := Nat.div_add_mod p 8
  generalize hm : p % 8 = m at *
  generalize p / 8 = j at *
  have h1 := bv_add b (8 * j) m (8 - m)
  have h2 := bv_add b (8 * j + m) s (8 - m - s)
  rw [show m + (8 - m) = 8 by omega] at h1
  rw [show s + (8 - m - s) = 8 - m by omega] at h2
  have h3 := bv_lt b hb (8 * j + m) (8 - m)
  have h4 := bv_lt b hb (8 * j + m + s) (8 - m - s)
  have e : (256 : Nat) = 2 ^ (8 - m) * 2 ^ m := by rw [← Nat.pow_add, show 8 - m + m = 8 by omega]
  rw [h1, e, Nat.mul_mod_mul_right, Nat.mul_comm (bv b (8 * j) m), Nat.mul_add_mod, Nat.mod_eq_of_lt h3, h2, hdm]
  rw [hdm] at h4
  have e2 : 2 ^ (8 - s) = 2 ^ (8 - m - s) * 2 ^ m := by rw [← Nat.pow_add]; congr 1; omega
  rw [e2, Nat.mul_div_mul_right _ _ (Nat.pow_pos (by decide)), Nat.mul_comm, Nat.mul_add_div (Nat.pow_pos (by decide)), Nat.div_eq_of_lt h4, Nat.add_zero]
/-- The bytes of a row of bits. -/
def pk (L : List Int) : List Int := gr (fb L) 8 ((L.length + 7) / 8)
theorem gr_more (L : List Int) (Q : Nat) (h : L.length ≤ 8 * Q) : gr (fb L) 8 (Q + 1) = gr (fb L) 8 Q ++ [0] := by
  rw [gr_succ, bv_zero _ _ _ (fun i h1 _ => fb_out _ _ (by omega))]
  rfl
end Go.Proofs.YtedlmjieclaojaaDoor
