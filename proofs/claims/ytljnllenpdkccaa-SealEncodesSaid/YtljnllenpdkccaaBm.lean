/- Bits of lists of numbers: cut into groups and put together again. Plain mathematics. -/
import Derived.Test.YtljnllenpdkccaaRows
namespace Go.Proofs.Ytljnllenpdkccaa

/-- Bit number i of a list whose numbers count for f bits each; 0 behind its end. -/
def bt (f : Nat) (xs : List Int) (i : Nat) : Nat := (xs.getD (i / f) 0).toNat / 2 ^ (f - 1 - i % f) % 2
/-- The number that k bits make from place a on. -/
def bv (b : Nat → Nat) (a : Nat) : Nat → Nat
  | 0 => 0
  | k + 1 => 2 * bv b a k + b (a + k)
/-- The first q groups of t bits. -/
def gr (b : Nat → Nat) (t q : Nat) : List Int := (List.range q).map fun i => ((bv b (t * i) t : Nat) : Int)

theorem bt_lt (f : Nat) (xs : List Int) (i : Nat) : bt f xs i < 2 := Nat.mod_lt _ (by decide)

theorem bv_add (b : Nat → Nat) (a m : Nat) : ∀ k, bv b a (m + k) = bv b a m * 2 ^ k + bv b (a + m) k
  | 0 => by simp [bv]
  | k + 1 => by
    rw [← Nat.add_assoc, bv, bv, bv_add b a m k, Nat.pow_succ, Nat.add_assoc a m k]
    rw [Nat.mul_add, ← Nat.mul_assoc, Nat.mul_comm 2, Nat.mul_assoc, Nat.mul_comm 2, ← Nat.mul_assoc]
    omega
theorem bv_lt (b : Nat → Nat) (hb : ∀ i, b i < 2) (a : Nat) : ∀ k, bv b a k < 2 ^ k
  | 0 => by simp [bv]
  | k + 1 => by
    have h1 := bv_lt b hb a k
    have h2 := hb (a + k)
    rw [bv, Nat.pow_succ]
    omega
theorem bv_congr (b c : Nat → Nat) (a : Nat) : ∀ k, (∀ i, a ≤ i → i < a + k → b i = c i) → bv b a k = bv c a k
  | 0, _ => rfl
  | k + 1, h => by
    rw [bv, bv, bv_congr b c a k (fun i h1 h2 => h i h1 (by omega)), h (a + k) (by omega) (by omega)]
theorem bv_zero (b : Nat → Nat) (a : Nat) : ∀ k, (∀ i, a ≤ i → i < a + k → b i = 0) → bv b a k = 0
  | 0, _ => rfl
  | k + 1, h => by
    rw [bv, bv_zero b a k (fun i h1 h2 => h i h1 (by omega)), h (a + k) (by omega) (by omega)]
theorem bv_bit (b : Nat → Nat) (hb : ∀ i, b i < 2) (a f r : Nat) (h : r < f) : bv b a f / 2 ^ (f - 1 - r) % 2 = b (a + r) := by
  obtain ⟨k, rfl⟩ : ∃ k, f = (r + 1) + k := ⟨f - r - 1, by omega⟩
  have e : r + 1 + k - 1 - r = k := by omega
  rw [e, bv_add, Nat.mul_comm, Nat.mul_add_div (Nat.pow_pos (by decide)), Nat.div_eq_of_lt (bv_lt b hb _ k), Nat.add_zero, bv]
  have := hb (a + r)
  omega
theorem top_bits (x f : Nat) (hx : x < 2 ^ f) (a : Nat) (b : Nat → Nat) (hb : ∀ r, r < f → b (a + r) = x / 2 ^ (f - 1 - r) % 2) : ∀ k, k ≤ f → bv b a k = x / 2 ^ (f - k)
  | 0, _ => by simp [bv, Nat.div_eq_of_lt hx]
  | k + 1, h => by
    have ih := top_bits x f hx a b hb k (by omega)
    rw [bv, ih, hb k (by omega)]
    have e1 : f - k = (f - (k + 1)) + 1 := by omega
    have e2 : f - 1 - k = f - (k + 1) := by omega
    rw [e1, e2, Nat.pow_succ, ← Nat.div_div_eq_div_mul]
    omega
theorem bv_self (f : Nat) (hf : 0 < f) (xs : List Int) (j : Nat) (hx : (xs.getD j 0).toNat < 2 ^ f) : bv (bt f xs) (f * j) f = (xs.getD j 0).toNat := by
  have := top_bits (xs.getD j 0).toNat f hx (f * j) (bt f xs) (fun r hr => by
    unfold bt
    rw [Nat.mul_add_div hf, Nat.div_eq_of_lt hr, Nat.add_zero, Nat.mul_add_mod, Nat.mod_eq_of_lt hr]) f (Nat.le_refl _)
  simpa using this

theorem gr_len (b : Nat → Nat) (t q : Nat) : (gr b t q).length = q := by simp [gr]
theorem gr_succ (b : Nat → Nat) (t q : Nat) : gr b t (q + 1) = gr b t q ++ [((bv b (t * q) t : Nat) : Int)] := by
  simp [gr, List.range_succ]
theorem gr_getD (b : Nat → Nat) (t q i : Nat) (h : i < q) : (gr b t q).getD i 0 = ((bv b (t * i) t : Nat) : Int) := by
  simp [gr, List.getD, h]
theorem gr_out (b : Nat → Nat) (t q i : Nat) (h : q ≤ i) : (gr b t q).getD i 0 = 0 := by
  simp [List.getD, List.getElem?_eq_none (show (gr b t q).length ≤ i by rw [gr_len]; exact h)]
theorem gr_congr (b c : Nat → Nat) (t q : Nat) (h : ∀ i, i < t * q → b i = c i) : gr b t q = gr c t q := by
  unfold gr
  refine List.map_congr_left fun i hi => ?_
  have hi' := List.mem_range.1 hi
  have h1 : t * (i + 1) ≤ t * q := Nat.mul_le_mul_left t hi'
  rw [Nat.mul_succ] at h1
  rw [bv_congr b c (t * i) t (fun j _ h3 => h j (by omega))]

theorem bt_gr (b : Nat → Nat) (hb : ∀ i, b i < 2) (f : Nat) (hf : 0 < f) (q i : Nat) (h : i < f * q) : bt f (gr b f q) i = b i := by
  have h1 : i / f < q := Nat.div_lt_of_lt_mul h
  unfold bt
  rw [gr_getD b f q _ h1, Int.toNat_natCast, bv_bit b hb _ f _ (Nat.mod_lt _ hf), Nat.div_add_mod]
theorem bt_out (f : Nat) (hf : 0 < f) (xs : List Int) (i : Nat) (h : f * xs.length ≤ i) : bt f xs i = 0 := by
  have h1 : xs.length ≤ i / f := (Nat.le_div_iff_mul_le hf).2 (by rw [Nat.mul_comm]; exact h)
  unfold bt
  rw [List.getD, List.getElem?_eq_none h1]
  simp

/-- Numbers of f bits. -/
def Small (f : Nat) (xs : List Int) : Prop := ∀ j, j < xs.length → 0 ≤ xs.getD j 0 ∧ xs.getD j 0 < 2 ^ f
theorem Small.nat {f : Nat} {xs : List Int} (h : Small f xs) (j : Nat) : (xs.getD j 0).toNat < 2 ^ f := by
  by_cases hj : j < xs.length
  · have h1 := (h j hj).2
    have h2 := (h j hj).1
    have h3 : ((xs.getD j 0).toNat : Int) < ((2 ^ f : Nat) : Int) := by
      rw [Int.toNat_of_nonneg h2]; simpa using h1
    omega
  · simp [List.getD, List.getElem?_eq_none (Nat.le_of_not_lt hj)]
    exact Nat.pow_pos (by decide)
theorem gr_small (b : Nat → Nat) (hb : ∀ i, b i < 2) (t q : Nat) : Small t (gr b t q) := by
  intro j hj
  rw [gr_len] at hj
  rw [gr_getD b t q j hj]
  have := bv_lt b hb (t * j) t
  refine ⟨Int.natCast_nonneg _, ?_⟩
  have h : ((bv b (t * j) t : Nat) : Int) < ((2 ^ t : Nat) : Int) := by omega
  simpa using h
/-- Groups of its own width are the list. -/
theorem gr_self (f : Nat) (hf : 0 < f) (xs : List Int) (h : Small f xs) : gr (bt f xs) f xs.length = xs := by
  refine List.ext_getElem (gr_len _ _ _) fun i h1 h2 => ?_
  have e := gr_getD (bt f xs) f xs.length i h2
  rw [bv_self f hf xs i (h.nat i), Int.toNat_of_nonneg (h i h2).1] at e
  rw [List.getD, List.getD, List.getElem?_eq_getElem h1, List.getElem?_eq_getElem h2] at e
  simpa using e

/-- The letter of a value; the value of a letter (-1: none). -/
def lt (v : Int) : Int := if v < 26 then 65 + v else if v < 52 then 71 + v else if v < 62 then v - 4 else if v = 62 then 45 else 95
def vf (c : Int) : Int := if 65 ≤ c ∧ c ≤ 90 then c - 65 else if 97 ≤ c ∧ c ≤ 122 then c - 71 else if 48 ≤ c ∧ c ≤ 57 then c + 4 else if c = 45 then 62 else if c = 95 then 63 else -1
theorem vf_lt (v : Int) (h0 : 0 ≤ v) (h1 : v < 64) : vf (lt v) = v := by unfold vf lt; split <;> split <;> omega
theorem lt_vf (c : Int) (h : 0 ≤ vf c) : lt (vf c) = c ∧ vf c < 64 := by
  unfold vf at h ⊢
  unfold lt
  split at h <;> split <;> omega
theorem lt_bd (v : Int) (h0 : 0 ≤ v) : 0 ≤ lt v ∧ lt v ≤ 122 := by unfold lt; split <;> omega
theorem vf_none (c : Int) (h : ¬ 0 ≤ vf c) : vf c = -1 := by
  unfold vf at h ⊢
  split at h <;> omega

/-- How many letters n bytes have. -/
def ln (n : Nat) : Nat := (8 * n + 5) / 6
/-- The letters of bytes. -/
def enc (xs : List Int) : List Int := (gr (bt 8 xs) 6 (ln xs.length)).map lt
theorem enc_len (xs : List Int) : (enc xs).length = ln xs.length := by simp [enc, gr_len]

/-- The values of letters, how many whole bytes they have, the bits that are left. -/
def vals (cs : List Int) : List Int := cs.map vf
def nb (m : Nat) : Nat := 6 * m / 8
def lf (m : Nat) : Nat := 6 * m % 8
def dec (cs : List Int) : List Int := gr (bt 6 (vals cs)) 8 (nb cs.length)
def rest (cs : List Int) : Nat := bv (bt 6 (vals cs)) (8 * nb cs.length) (lf cs.length)
def Good (cs : List Int) : Prop := ∀ c ∈ cs, 0 ≤ vf c
def okB (cs : List Int) : Bool := cs.all (fun c => decide (0 ≤ vf c)) && (decide (lf cs.length < 6) && decide (rest cs = 0))
abbrev Ok (cs : List Int) : Prop := okB cs = true
theorem ok_iff (cs : List Int) : Ok cs ↔ (Good cs ∧ lf cs.length < 6 ∧ rest cs = 0) := by
  show okB cs = true ↔ _
  unfold okB Good
  rw [Bool.and_eq_true, Bool.and_eq_true, List.all_eq_true, decide_eq_true_iff, decide_eq_true_iff]
  constructor
  · rintro ⟨h1, h2⟩
    exact ⟨fun c hc => of_decide_eq_true (h1 c hc), h2⟩
  · rintro ⟨h1, h2⟩
    exact ⟨fun c hc => decide_eq_true (h1 c hc), h2⟩

theorem vals_small (cs : List Int) (h : Good cs) : Small 6 (vals cs) := by
  intro j hj
  have hj' : j < cs.length := by simpa [vals] using hj
  have e : (vals cs).getD j 0 = vf cs[j] := by simp [vals, List.getD, hj']
  have h1 := h cs[j] (List.getElem_mem _)
  rw [e]
  exact ⟨h1, (lt_vf _ h1).2⟩
theorem vals_map (vs : List Int) (h : Small 6 vs) : vals (vs.map lt) = vs := by
  unfold vals
  rw [List.map_map]
  refine List.ext_getElem (by simp) fun i h1 h2 => ?_
  have := h i h2
  simp only [List.getD, List.getElem?_eq_getElem h2, Option.getD_some] at this
  rw [List.getElem_map]
  exact vf_lt _ this.1 (by simpa using this.2)
theorem map_vals (cs : List Int) (h : Good cs) : (vals cs).map lt = cs := by
  unfold vals
  rw [List.map_map]
  refine List.ext_getElem (by simp) fun i h1 h2 => ?_
  rw [List.getElem_map]
  exact (lt_vf _ (h _ (List.getElem_mem _))).1
theorem good_map (vs : List Int) (h : Small 6 vs) : Good (vs.map lt) := by
  intro c hc
  obtain ⟨v, hv, rfl⟩ := List.mem_map.1 hc
  obtain ⟨i, hi, rfl⟩ := List.mem_iff_getElem.1 hv
  have := h i hi
  simp only [List.getD, List.getElem?_eq_getElem hi, Option.getD_some] at this
  rw [vf_lt _ this.1 (by simpa using this.2)]
  exact this.1

/-- What is written is read back. -/
theorem dec_enc (xs : List Int) (h : Small 8 xs) : Ok (enc xs) ∧ dec (enc xs) = xs := by
  have hs := gr_small (bt 8 xs) (bt_lt 8 xs) 6 (ln xs.length)
  have hv : vals (enc xs) = gr (bt 8 xs) 6 (ln xs.length) := vals_map _ hs
  have hn : nb (ln xs.length) = xs.length := by unfold nb ln; omega
  have hz : 8 * xs.length + lf (ln xs.length) = 6 * ln xs.length := by unfold lf ln; omega
  refine ⟨(ok_iff _).2 ⟨good_map _ hs, ?_, ?_⟩, ?_⟩
  · rw [enc_len]; unfold lf ln; omega
  · unfold rest
    rw [hv, enc_len, hn]
    refine bv_zero _ _ _ fun i h1 h2 => ?_
    rw [bt_gr _ (bt_lt 8 xs) 6 (by decide) _ _ (by omega)]
    exact bt_out 8 (by decide) xs i h1
  · unfold dec
    rw [hv, enc_len, hn, gr_congr _ (bt 8 xs) 8 xs.length (fun i hi => bt_gr _ (bt_lt 8 xs) 6 (by decide) _ _ (by omega))]
    exact gr_self 8 (by decide) xs h

/-- What is read is written again just where nothing is left over. -/
theorem enc_dec (cs : List Int) (h : Good cs) : enc (dec cs) = cs ↔ Ok cs := by
  have hvs := vals_small cs h
  have hlv : (vals cs).length = cs.length := by simp [vals]
  have hdl : (dec cs).length = nb cs.length := gr_len _ _ _
  have hle : (enc (dec cs)).length = ln (nb cs.length) := by rw [enc_len, hdl]
  have hbt : ∀ i, i < 8 * nb cs.length → bt 8 (dec cs) i = bt 6 (vals cs) i := fun i hi => bt_gr _ (bt_lt 6 _) 8 (by decide) _ _ hi
  have hbo : ∀ i, 8 * nb cs.length ≤ i → bt 8 (dec cs) i = 0 := fun i hi => bt_out 8 (by decide) _ i (by rw [hdl]; exact hi)
  have hself := gr_self 6 (by decide) (vals cs) hvs
  rw [hlv] at hself
  have hsplit : 8 * nb cs.length + lf cs.length = 6 * cs.length := by unfold nb lf; omega
  constructor
  · intro he
    have h1 : ln (nb cs.length) = cs.length := by rw [← hle, he]
    have h2 : lf cs.length < 6 := by unfold lf; unfold ln nb at h1; omega
    refine (ok_iff cs).2 ⟨h, h2, ?_⟩
    have hv : vals (enc (dec cs)) = gr (bt 8 (dec cs)) 6 (ln (nb cs.length)) := by
      have := vals_map _ (gr_small (bt 8 (dec cs)) (bt_lt 8 _) 6 (ln (dec cs).length))
      rw [hdl] at this
      unfold enc
      rw [hdl]
      exact this
    rw [he, h1] at hv
    unfold rest
    refine bv_zero _ _ _ fun i h3 h4 => ?_
    have h5 : bt 6 (vals cs) i = bt 8 (dec cs) i := by
      rw [hv]
      exact bt_gr _ (bt_lt 8 _) 6 (by decide) _ _ (by omega)
    rw [h5]
    exact hbo i h3
  · intro hk
    obtain ⟨_, h2, h3⟩ := (ok_iff cs).1 hk
    have h1 : ln (nb cs.length) = cs.length := by unfold ln nb; unfold lf at h2; omega
    unfold enc
    rw [hdl, h1]
    have hz : ∀ i, 8 * nb cs.length ≤ i → i < 6 * cs.length → bt 6 (vals cs) i = 0 := by
      intro i h4 h5
      have h6 : ∀ k a, bv (bt 6 (vals cs)) a k = 0 → ∀ i, a ≤ i → i < a + k → bt 6 (vals cs) i = 0 := by
        intro k
        induction k with
        | zero => intro a _ i h7 h8; omega
        | succ k ih =>
          intro a h7 i h8 h9
          rw [bv] at h7
          by_cases h10 : i < a + k
          · exact ih a (by omega) i h8 h10
          · obtain rfl : i = a + k := by omega
            omega
      exact h6 _ _ h3 i h4 (by omega)
    rw [gr_congr (bt 8 (dec cs)) (bt 6 (vals cs)) 6 cs.length (fun i hi => by
      by_cases h4 : i < 8 * nb cs.length
      · exact hbt i h4
      · rw [hbo i (by omega), hz i (by omega) hi]), hself]
    exact map_vals cs h
end Go.Proofs.Ytljnllenpdkccaa
