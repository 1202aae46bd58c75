/- What stands between quotes, with its escapes read: the mathematics. -/
import Derived.Test.YtdnbkgbgpfmipabDoorCut
namespace Go.Proofs.YtdnbkgbgpfmipabDoor
open Go.RowKit Go.Lib

def mnF (s : ByteArray) (q : Int) : Nat → Nat → Option (List Int)
  | 0, _ => some []
  | f + 1, p => if p < s.size then (if bt s p = 92 then (match escS (s.extract (p + 1) s.size) q with | some x => (mnF s q f (p + 1 + x.2)).map (x.1 ++ ·) | none => none) else (mnF s q f (p + 1)).map (bt s p :: ·)) else some []
theorem mnF_end (s : ByteArray) (q : Int) (f p : Nat) (h : ¬ p < s.size) : mnF s q f p = some [] := by
  cases f with
  | zero => rfl
  | succ f => unfold mnF; rw [if_neg h]
theorem mnF_fuel (s : ByteArray) (q : Int) : ∀ (f g p : Nat), s.size ≤ p + f → s.size ≤ p + g → mnF s q f p = mnF s q g p
  | 0, g, p, h, _ => by rw [mnF_end s q g p (by omega), mnF_end s q 0 p (by omega)]
  | f + 1, 0, p, _, h => by rw [mnF_end s q (f + 1) p (by omega), mnF_end s q 0 p (by omega)]
  | f + 1, g + 1, p, h, k => by
    unfold mnF
    rw [mnF_fuel s q f g (p + 1) (by omega) (by omega)]
    cases he : escS (s.extract (p + 1) s.size) q with
    | none => rfl
    | some x =>
      simp only
      rw [mnF_fuel s q f g (p + 1 + x.2) (by omega) (by omega)]
/-- What a text means from a place on; none: an escape is none. -/
def mn (s : ByteArray) (q : Int) (p : Nat) : Option (List Int) := mnF s q s.size p
theorem mn_end (s : ByteArray) (q : Int) (p : Nat) (h : ¬ p < s.size) : mn s q p = some [] := mnF_end s q s.size p h
theorem mn_plain (s : ByteArray) (q : Int) (p : Nat) (h : p < s.size) (hb : bt s p ≠ 92) : mn s q p = (mn s q (p + 1)).map (bt s p :: ·) := by
  unfold mn
  obtain ⟨f, hf⟩ : ∃ f, s.size = f + 1 := ⟨s.size - 1, by omega⟩
  rw [mnF_fuel s q s.size (f + 1) p (by omega) (by omega), mnF, if_pos h, if_neg hb, mnF_fuel s q f s.size (p + 1) (by omega) (by omega)]
theorem mn_none (s : ByteArray) (q : Int) (p : Nat) (h : p < s.size) (hb : bt s p = 92) (he : escS (s.extract (p + 1) s.size) q = none) : mn s q p = none := by
  unfold mn
  obtain ⟨f, hf⟩ : ∃ f, s.size = f + 1 := ⟨s.size - 1, by omega⟩
  rw [mnF_fuel s q s.size (f + 1) p (by omega) (by omega), mnF, if_pos h, if_pos hb, he]
theorem mn_some (s : ByteArray) (q : Int) (p : Nat) (xs : List Int) (c : Nat) (h : p < s.size) (hb : bt s p = 92) (he : escS (s.extract (p + 1) s.size) q = some (xs, c)) : mn s q p = (mn s q (p + 1 + c)).map (xs ++ ·) := by
  unfold mn
  obtain ⟨f, hf⟩ : ∃ f, s.size = f + 1 := ⟨s.size - 1, by omega⟩
  rw [mnF_fuel s q s.size (f + 1) p (by omega) (by omega), mnF, if_pos h, if_pos hb, he]
  simp only
  rw [mnF_fuel s q f s.size (p + 1 + c) (by omega) (by omega)]
/-- A run without a backslash. -/
theorem mn_run (s : ByteArray) (q : Int) : ∀ (k p : Nat), p + k ≤ s.size → (∀ j, p ≤ j → j < p + k → bt s j ≠ 92) → mn s q p = (mn s q (p + k)).map (bts s k p ++ ·)
  | 0, p, _, _ => by
    simp only [bts, Nat.add_zero]
    cases mn s q p <;> rfl
  | k + 1, p, h, hb => by
    rw [mn_plain s q p (by omega) (hb p (by omega) (by omega)), mn_run s q k (p + 1) (by omega) (fun j h1 h2 => hb j (by omega) (by omega)), show p + 1 + k = p + (k + 1) by omega]
    cases mn s q (p + (k + 1)) <;> rfl

/-! ### No backslash dangles -/
def rdF (s : ByteArray) : Nat → Nat → Bool
  | 0, _ => true
  | f + 1, p => if p < s.size then (if bt s p = 92 then (decide (p + 1 < s.size) && rdF s f (p + 2)) else rdF s f (p + 1)) else true
theorem rdF_end (s : ByteArray) (f p : Nat) (h : ¬ p < s.size) : rdF s f p = true := by
  cases f with
  | zero => rfl
  | succ f => unfold rdF; rw [if_neg h]
theorem rdF_fuel (s : ByteArray) : ∀ (f g p : Nat), s.size ≤ p + f → s.size ≤ p + g → rdF s f p = rdF s g p
  | 0, g, p, h, _ => by rw [rdF_end s g p (by omega), rdF_end s 0 p (by omega)]
  | f + 1, 0, p, _, h => by rw [rdF_end s (f + 1) p (by omega), rdF_end s 0 p (by omega)]
  | f + 1, g + 1, p, h, k => by
    unfold rdF
    rw [rdF_fuel s f g (p + 1) (by omega) (by omega), rdF_fuel s f g (p + 2) (by omega) (by omega)]
def rd (s : ByteArray) (p : Nat) : Bool := rdF s s.size p
theorem rd_plain (s : ByteArray) (p : Nat) (h : p < s.size) (hb : bt s p ≠ 92) : rd s p = rd s (p + 1) := by
  unfold rd
  obtain ⟨f, hf⟩ : ∃ f, s.size = f + 1 := ⟨s.size - 1, by omega⟩
  rw [rdF_fuel s s.size (f + 1) p (by omega) (by omega), rdF, if_pos h, if_neg hb, rdF_fuel s f s.size (p + 1) (by omega) (by omega)]
theorem rd_bs (s : ByteArray) (p : Nat) (h : p < s.size) (hb : bt s p = 92) : rd s p = true ↔ p + 1 < s.size ∧ rd s (p + 2) = true := by
  unfold rd
  obtain ⟨f, hf⟩ : ∃ f, s.size = f + 1 := ⟨s.size - 1, by omega⟩
  rw [rdF_fuel s s.size (f + 1) p (by omega) (by omega), rdF, if_pos h, if_pos hb, rdF_fuel s f s.size (p + 2) (by omega) (by omega)]
  simp
theorem rd_run (s : ByteArray) : ∀ (k p : Nat), p + k ≤ s.size → (∀ j, p ≤ j → j < p + k → bt s j ≠ 92) → rd s p = rd s (p + k)
  | 0, _, _, _ => rfl
  | k + 1, p, h, hb => by
    rw [rd_plain s p (by omega) (hb p (by omega) (by omega)), rd_run s k (p + 1) (by omega) (fun j h1 h2 => hb j (by omega) (by omega)), show p + 1 + k = p + (k + 1) by omega]

theorem numA_digits (s : ByteArray) (base : Int) (hb : base ≤ 16) : ∀ (k i : Nat) (acc r : Int), numA s base k i acc = some r → ∀ j, i ≤ j → j < i + k → dg (bt s j) < 16
  | 0, _, _, _, _, j, h1, h2 => by omega
  | k + 1, i, acc, r, h, j, h1, h2 => by
    unfold numA at h
    split at h
    · rename_i hd
      rcases Nat.lt_or_ge i j with hij | hij
      · exact numA_digits s base hb k (i + 1) _ r h j (by omega) (by omega)
      · have : j = i := by omega
        rw [this]; omega
    · cases h
theorem dg_not (c : Int) (h : dg c < 16) : c ≠ 92 ∧ c ≠ 34 ∧ c ≠ 39 ∧ c ≠ 10 := by
  unfold dg at h
  repeat' split at h
  all_goals omega
/-- The digits of a number at the head of what is left. -/
theorem num_digits (s : ByteArray) (a k : Nat) (base r : Int) (hb : base ≤ 16) (ha : a ≤ s.size) (h : num (s.extract a s.size) k base = some r) : a + k ≤ s.size ∧ ∀ j, a ≤ j → j < a + k → dg (bt s j) < 16 := by
  unfold num at h
  split at h
  · cases h
  · rename_i hk
    have hsz : (s.extract a s.size).size = s.size - a := by simp
    refine ⟨by omega, fun j h1 h2 => ?_⟩
    have := numA_digits _ base hb k 0 0 r h (j - a) (by omega) (by omega)
    rw [bt_extract, show a + (j - a) = j by omega] at this
    exact this
theorem suffix_suffix (s : ByteArray) (a p : Nat) (_h : a + p ≤ s.size) : (s.extract a s.size).extract p (s.extract a s.size).size = s.extract (a + p) s.size := by
  rw [ByteArray.extract_extract]
  congr 1
  simp
  omega

/-- What an escape takes up is digits behind its first sign. -/
theorem esc_takes (s : ByteArray) (q : Int) (p : Nat) (xs : List Int) (c : Nat) (hp : p + 1 < s.size) (he : escS (s.extract (p + 1) s.size) q = some (xs, c)) :
    p + 1 + c ≤ s.size ∧ 1 ≤ c ∧ xs.length ≤ c + 1 ∧ ∀ j, p + 2 ≤ j → j < p + 1 + c → dg (bt s j) < 16 := by
  have hB : ∀ (pp k : Nat) (base : Int), base ≤ 16 → pp ≤ 1 → 1 ≤ pp + k → byteS (s.extract (p + 1) s.size) pp k base = some (xs, c) → p + 1 + c ≤ s.size ∧ 1 ≤ c ∧ xs.length ≤ c + 1 ∧ ∀ j, p + 2 ≤ j → j < p + 1 + c → dg (bt s j) < 16 := by
    intro pp k base hb hpp hpk h
    unfold byteS at h
    rw [suffix_suffix s (p + 1) pp (by omega)] at h
    split at h
    · rename_i n hn
      split at h
      · simp only [Option.some.injEq, Prod.mk.injEq] at h
        obtain ⟨rfl, rfl⟩ := h
        have := num_digits s (p + 1 + pp) k base n hb (by omega) hn
        exact ⟨by omega, by omega, by simp, fun j h1 h2 => this.2 j (by omega) (by omega)⟩
      · cases h
    · cases h
  have hR : ∀ k : Nat, 4 ≤ k → runeS (s.extract (p + 1) s.size) k = some (xs, c) → p + 1 + c ≤ s.size ∧ 1 ≤ c ∧ xs.length ≤ c + 1 ∧ ∀ j, p + 2 ≤ j → j < p + 1 + c → dg (bt s j) < 16 := by
    intro k hk h
    unfold runeS at h
    rw [suffix_suffix s (p + 1) 1 (by omega)] at h
    split at h
    · rename_i n hn
      split at h
      · simp only [Option.some.injEq, Prod.mk.injEq] at h
        obtain ⟨rfl, rfl⟩ := h
        have := num_digits s (p + 1 + 1) k 16 n (by omega) (by omega) hn
        have hl := formL_len n
        exact ⟨by omega, by omega, by omega, fun j h1 h2 => this.2 j (by omega) (by omega)⟩
      · cases h
    · cases h
  unfold escS at he
  split at he
  · simp only [Option.some.injEq, Prod.mk.injEq] at he
    obtain ⟨rfl, rfl⟩ := he
    exact ⟨by omega, by omega, by simp, fun j h1 h2 => by omega⟩
  · split at he
    · simp only [Option.some.injEq, Prod.mk.injEq] at he
      obtain ⟨rfl, rfl⟩ := he
      exact ⟨by omega, by omega, by simp, fun j h1 h2 => by omega⟩
    · split at he
      · exact hB _ _ _ (by omega) (by omega) (by omega) he
      · split at he
        · exact hR _ (by omega) he
        · split at he
          · exact hR _ (by omega) he
          · exact hB _ _ _ (by omega) (by omega) (by omega) he
theorem rd_esc (s : ByteArray) (q : Int) (p : Nat) (xs : List Int) (c : Nat) (h : p < s.size) (hb : bt s p = 92) (hr : rd s p = true) (he : escS (s.extract (p + 1) s.size) q = some (xs, c)) : rd s (p + 1 + c) = true := by
  obtain ⟨h1, h2⟩ := (rd_bs s p h hb).1 hr
  obtain ⟨t1, t2, _, t4⟩ := esc_takes s q p xs c h1 he
  have := rd_run s (c - 1) (p + 2) (by omega) (fun j a b => (dg_not _ (t4 j (by omega) (by omega))).1)
  rw [show p + 2 + (c - 1) = p + 1 + c by omega] at this
  rw [← this]; exact h2
end Go.Proofs.YtdnbkgbgpfmipabDoor
