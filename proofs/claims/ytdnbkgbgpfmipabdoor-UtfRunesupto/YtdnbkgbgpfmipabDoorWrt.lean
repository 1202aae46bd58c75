/- Writing a text rune by rune and byte by byte: the mathematics. -/
import Derived.Test.YtdnbkgbgpfmipabDoorHit
import Derived.Test.YtdnbkgbgpfmipabDoorJoin
import Derived.Test.YtdnbkgbgpfmipabDoorCut
namespace Go.Proofs.YtdnbkgbgpfmipabDoor
open Go.RowKit Go.Lib

theorem bts_get (s : ByteArray) : ∀ k i j, j < k → (bts s k i).getD j 0 = bt s (i + j)
  | 0, _, _, h => by omega
  | k + 1, i, 0, _ => rfl
  | k + 1, i, j + 1, h => by
    show (bts s k (i + 1)).getD j 0 = _
    rw [bts_get s k (i + 1) j (by omega), show i + 1 + j = i + (j + 1) by omega]
theorem bts_eq (s : ByteArray) (k i : Nat) (l : List Int) (h1 : l.length = k) (h : ∀ j, j < k → bt s (i + j) = l.getD j 0) : l = bts s k i := by
  apply List.ext_getElem
  · rw [bts_len]; exact h1
  · intro j a b
    have e1 := h j (by omega)
    have e2 := bts_get s k i j (by omega)
    simp only [List.getD, List.getElem?_eq_getElem a, Option.getD_some] at e1
    simp only [List.getD, List.getElem?_eq_getElem b, Option.getD_some] at e2
    rw [← e1, ← e2]
theorem bts_split (s : ByteArray) : ∀ k m i, bts s (k + m) i = bts s k i ++ bts s m (i + k)
  | 0, m, i => by simp [bts]
  | k + 1, m, i => by
    rw [show k + 1 + m = (k + m) + 1 by omega]
    show bt s i :: bts s (k + m) (i + 1) = _
    rw [bts_split s k m (i + 1), show i + 1 + k = i + (k + 1) by omega]; rfl

theorem formL_rune (n : Int) (h : 1 ≤ (formL n).length) : isRune n = true := by
  unfold formL at h
  split at h
  · assumption
  · simp at h
/-- At a place where a form begins, its bytes are the rune's form. -/
theorem form_at (s : ByteArray) (i : Nat) (h : i < s.size) (hz : (nxt s i).2 ≠ 0) : formL ((Utf8.decode s i).1 : Int) = bts s (Utf8.decode s i).2 i ∧ isRune ((Utf8.decode s i).1 : Int) = true := by
  have hex : ∃ k, 1 ≤ k ∧ k ≤ 4 ∧ i + k ≤ s.size ∧ hit s i k := by
    apply Classical.byContradiction
    intro hn
    have := ref_none s i h (fun k h1 h4 h5 hh => hn ⟨k, h1, h4, h5, hh⟩)
    rw [this] at hz
    exact hz rfl
  obtain ⟨k, h1, h4, h5, hh⟩ := hex
  have hr := ref_hit s i k h1 h4 h5 hh
  obtain ⟨e1, e2⟩ := nxt_width s i hz
  rw [hr] at e1 e2
  simp only at e1 e2
  have hk : (Utf8.decode s i).2 = k := by omega
  obtain ⟨l1, l2⟩ := (hit_iff s i k h5).1 hh
  rw [hk, ← e2]
  exact ⟨bts_eq s k i _ l1 l2, formL_rune _ (by omega)⟩

/-- A rune written: below 128 as its byte is, above in its form. -/
def runeW (B : Int → List Int) (r : Int) : List Int := if r < 128 then B r else formL r
def wrF (B : Int → List Int) (s : ByteArray) : Nat → Nat → List Int
  | 0, _ => []
  | f + 1, p => if p < s.size then runeW B ((Utf8.decode s p).1 : Int) ++ wrF B s f (p + (Utf8.decode s p).2) else []
theorem formL_high (n : Int) (h : 128 ≤ n) : ∀ x ∈ formL n, 128 ≤ x := by
  unfold formL
  repeat' split
  all_goals simp
  all_goals omega
theorem flat_high (B : Int → List Int) (hB : ∀ c, 128 ≤ c → B c = [c]) : ∀ l : List Int, (∀ x ∈ l, 128 ≤ x) → l.flatMap B = l
  | [], _ => rfl
  | x :: l, h => by
    rw [List.flatMap_cons, hB x (h x (by simp)), flat_high B hB l (fun y hy => h y (by simp [hy]))]; rfl
theorem wrF_bytes (B : Int → List Int) (hB : ∀ c, 128 ≤ c → B c = [c]) (s : ByteArray) : ∀ (f p : Nat), s.size ≤ p + f → p ≤ s.size → vld s f p = true → wrF B s f p = (bts s (s.size - p) p).flatMap B
  | 0, p, h, hp, _ => by
    rw [show s.size - p = 0 by omega]; rfl
  | f + 1, p, h, hp, hv => by
    by_cases hl : p < s.size
    · obtain ⟨hg, hv2⟩ := (vld_step s f p hl).1 hv
      obtain ⟨hf, hr⟩ := form_at s p hl ((good_iff s p hl).1 hg)
      have hd := dec_size s p hl
      have hw := decode_width s p
      have ih := wrF_bytes B hB s f (p + (Utf8.decode s p).2) (by omega) hd hv2
      have e1 : wrF B s (f + 1) p = runeW B ((Utf8.decode s p).1 : Int) ++ wrF B s f (p + (Utf8.decode s p).2) := by
        rw [wrF, if_pos hl]
      have e2 : bts s (s.size - p) p = bts s (Utf8.decode s p).2 p ++ bts s (s.size - (p + (Utf8.decode s p).2)) (p + (Utf8.decode s p).2) := by
        have := bts_split s (Utf8.decode s p).2 (s.size - (p + (Utf8.decode s p).2)) p
        rw [← this]; congr 1; omega
      have hn := (isRune_iff _).1 hr
      have e3 : runeW B ((Utf8.decode s p).1 : Int) = (formL ((Utf8.decode s p).1 : Int)).flatMap B := by
        unfold runeW
        split
        · rename_i hlo
          rw [form1 _ ⟨hn.1, hlo⟩]; simp
        · rename_i hhi
          exact (flat_high B hB _ (formL_high _ (by omega))).symm
      rw [e1, ih, e2, List.flatMap_append, ← hf, e3]
    · rw [show s.size - p = 0 by omega]
      rw [wrF, if_neg hl]; rfl

/-- A hexadecimal digit. -/
def hx (n : Int) : Int := if n < 10 then 48 + n else 87 + n
/-- The letter for a byte from 7 to 13. -/
def l7 (c : Int) : Int := if c = 7 then 97 else if c = 8 then 98 else if c = 9 then 116 else if c = 10 then 110 else if c = 11 then 118 else if c = 12 then 102 else 114
/-- A byte in a query's literal. -/
def byteQ (c : Int) : List Int := if c = 34 ∨ c = 92 then [92, c] else if 7 ≤ c ∧ c ≤ 13 then [92, l7 c] else if c < 32 ∨ c = 127 then [92, 120, hx (c / 16), hx (c % 16)] else [c]
/-- A byte in a string of JSON. -/
def byteJ (c : Int) : List Int := if c = 34 ∨ c = 92 then [92, c] else if 8 ≤ c ∧ c ≤ 13 ∧ c ≠ 11 then [92, l7 c] else if c < 32 then [92, 117, 48, 48, hx (c / 16), hx (c % 16)] else [c]
theorem byteQ_high (c : Int) (h : 128 ≤ c) : byteQ c = [c] := by unfold byteQ; rw [if_neg (by omega), if_neg (by omega), if_neg (by omega)]
theorem byteJ_high (c : Int) (h : 128 ≤ c) : byteJ c = [c] := by unfold byteJ; rw [if_neg (by omega), if_neg (by omega), if_neg (by omega)]
end Go.Proofs.YtdnbkgbgpfmipabDoor
