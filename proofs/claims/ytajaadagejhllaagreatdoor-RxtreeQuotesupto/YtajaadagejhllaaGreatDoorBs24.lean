/- A bundle of texts. -/
import Derived.Lib.DecodeN
import Derived.Lib.Strings
import Derived.Lib.IndexBytes
import Derived.Test.YtajaadagejhllaaGreatDoorBs23
import Derived.Lib.OthersKept
import Derived.WalkSmall
import Derived.LoopTactic
import Derived.Laws.IdiomStrings
import Derived.WideShapes
/- The plain mathematics of layer 1: what Next answers, by the model's own decoder. -/
namespace Go.Proofs.YtajaadagejhllaaGreatDoor

/-- The rune that begins at a place, and its width; -1 and 0: none. -/
def nxt (s : ByteArray) (i : Nat) : Int × Int :=
  if i < s.size then (if (Utf8.decode s i).1 = 65533 ∧ (Utf8.decode s i).2 = 1 then (-1, 0) else (((Utf8.decode s i).1 : Nat), ((Utf8.decode s i).2 : Nat))) else (-1, 0)

theorem get!_big (s : ByteArray) (k : Nat) (h : s.size ≤ k) : s.get! k = 0 := by
  cases s with
  | mk d =>
    show d[k]! = 0
    rw [getElem!_neg d k (by have h' : d.size ≤ k := h; omega)]
    rfl
theorem get!_lt (s : ByteArray) (k : Nat) (h : k < s.size) : s.get! k = s[k]'h := by
  cases s with
  | mk d => exact getElem!_pos d k h

theorem get!_extract (s : ByteArray) (a i : Nat) : (s.extract a s.size).get! i = s.get! (a + i) := by
  by_cases h : a + i < s.size
  · rw [get!_lt _ _ (by simp; omega), get!_lt _ _ h]
    simp [ByteArray.getElem_extract]
  · rw [get!_big s _ (by omega), get!_big _ _ (by simp; omega)]

theorem decode_extract (s : ByteArray) (a : Nat) : Utf8.decode (s.extract a s.size) 0 = Utf8.decode s a := by
  rw [Lib.decode_at, Lib.decode_at]
  simp only [get!_extract, Nat.zero_add, Nat.add_zero]
  congr 1
  simp
theorem decode_width (s : ByteArray) (i : Nat) : 1 ≤ (Utf8.decode s i).2 ∧ (Utf8.decode s i).2 ≤ 4 := by
  rw [Lib.decode_at]
  unfold Lib.decodeN
  repeat' split
  all_goals simp
/-- The same at a place that may be below 0. -/
def nxtZ (s : ByteArray) (a : Int) : Int × Int := if 0 ≤ a then nxt s a.toNat else (-1, 0)
theorem nxt_out (s : ByteArray) (i : Nat) (h : s.size ≤ i) : nxt s i = (-1, 0) := by
  unfold nxt; rw [if_neg (by omega)]
/-- A rune begins at a place of the text just where the decoder does not answer (65533, 1). -/
theorem nxt_no (s : ByteArray) (i : Nat) (h : i < s.size) : (nxt s i).2 = 0 ↔ (Utf8.decode s i).1 = 65533 ∧ (Utf8.decode s i).2 = 1 := by
  have hw := decode_width s i
  unfold nxt
  rw [if_pos h]
  by_cases hc : (Utf8.decode s i).1 = 65533 ∧ (Utf8.decode s i).2 = 1
  · rw [if_pos hc]; simp [hc]
  · rw [if_neg hc]
    constructor
    · intro h2
      have : ((Utf8.decode s i).2 : Int) = 0 := h2
      omega
    · intro h2; exact absurd h2 hc
theorem nxt_pos (s : ByteArray) (i : Nat) : 0 ≤ (nxt s i).2 := by
  unfold nxt
  repeat' split
  all_goals simp
theorem nxt_width (s : ByteArray) (i : Nat) (h : (nxt s i).2 ≠ 0) : (nxt s i).2 = ((Utf8.decode s i).2 : Nat) ∧ (nxt s i).1 = ((Utf8.decode s i).1 : Nat) := by
  unfold nxt at h ⊢
  split
  · split
    · simp_all
    · exact ⟨rfl, rfl⟩
  · simp_all
/-- Is the text UTF-8 from a place on? -/
def vld (s : ByteArray) : Nat → Nat → Bool
  | 0, _ => true
  | f + 1, i => if i < s.size then (if (nxt s i).2 = 0 then false else vld s f (i + (Utf8.decode s i).2)) else true
theorem vld_end (s : ByteArray) (f i : Nat) (h : ¬ i < s.size) : vld s f i = true := by
  cases f with
  | zero => rfl
  | succ f => simp [vld, h]
theorem vld_bad (s : ByteArray) (f i : Nat) (h : i < s.size) (hz : (nxt s i).2 = 0) : vld s (f + 1) i = false := by
  simp [vld, h, hz]
theorem vld_good (s : ByteArray) (f i : Nat) (h : i < s.size) (hz : (nxt s i).2 ≠ 0) : vld s (f + 1) i = vld s f (i + (Utf8.decode s i).2) := by
  simp [vld, h, hz]
open Go.Lib

/-- Does a form begin at a place? -/
def good (s : ByteArray) (i : Nat) : Prop := ¬ ((Utf8.decode s i).1 = 65533 ∧ (Utf8.decode s i).2 = 1)

set_option maxHeartbeats 4000000 in
/-- A form hangs on its own bytes alone. -/
theorem decN_local (n m b0 b1 b2 b3 c1 c2 c3 : Nat) (hg : ¬ ((decodeN n b0 b1 b2 b3).1 = 65533 ∧ (decodeN n b0 b1 b2 b3).2 = 1)) (hm : (decodeN n b0 b1 b2 b3).2 ≤ m)
    (h1 : 1 < (decodeN n b0 b1 b2 b3).2 → c1 = b1) (h2 : 2 < (decodeN n b0 b1 b2 b3).2 → c2 = b2) (h3 : 3 < (decodeN n b0 b1 b2 b3).2 → c3 = b3) :
    decodeN m b0 c1 c2 c3 = decodeN n b0 b1 b2 b3 := by
  by_cases ha : b0 < 128
  · unfold decodeN; rw [if_pos ha, if_pos ha]
  · unfold decodeN at hg hm h1 h2 h3 ⊢
    rw [if_neg ha] at hg hm h1 h2 h3
    rw [if_neg ha, if_neg ha]
    by_cases q2 : b0 / 32 = 6 ∧ (1 < n ∧ b1 / 64 = 2)
    · rw [if_pos q2] at hg hm h1 h2 h3
      rw [if_pos q2]
      by_cases r2 : b0 % 32 * 64 + b1 % 64 ≥ 128
      · rw [if_pos r2] at hg hm h1 h2 h3
        rw [if_pos r2]
        simp only at hm h1
        have e1 := h1 (by omega)
        subst e1
        rw [if_pos ⟨q2.1, by omega, q2.2.2⟩, if_pos r2]
      · rw [if_neg r2] at hg; exact absurd ⟨rfl, rfl⟩ hg
    · rw [if_neg q2] at hg hm h1 h2 h3
      rw [if_neg q2]
      by_cases q3 : b0 / 16 = 14 ∧ (1 < n ∧ b1 / 64 = 2) ∧ (2 < n ∧ b2 / 64 = 2)
      · rw [if_pos q3] at hg hm h1 h2 h3
        rw [if_pos q3]
        split at hg
        · rename_i r3
          rw [if_pos r3] at hm h1 h2 h3
          rw [if_pos r3]
          simp only at hm h1 h2
          have e1 := h1 (by omega)
          have e2 := h2 (by omega)
          subst e1; subst e2
          rw [if_neg (by omega), if_pos ⟨q3.1, ⟨by omega, q3.2.1.2⟩, by omega, q3.2.2.2⟩, if_pos r3]
        · exact absurd ⟨rfl, rfl⟩ hg
      · rw [if_neg q3] at hg hm h1 h2 h3
        rw [if_neg q3]
        by_cases q4 : b0 / 8 = 30 ∧ (1 < n ∧ b1 / 64 = 2) ∧ (2 < n ∧ b2 / 64 = 2) ∧ (3 < n ∧ b3 / 64 = 2)
        · rw [if_pos q4] at hg hm h1 h2 h3
          rw [if_pos q4]
          split at hg
          · rename_i r4
            rw [if_pos r4] at hm h1 h2 h3
            rw [if_pos r4]
            simp only at hm h1 h2 h3
            have e1 := h1 (by omega)
            have e2 := h2 (by omega)
            have e3 := h3 (by omega)
            subst e1; subst e2; subst e3
            rw [if_neg (by omega), if_neg (by omega), if_pos ⟨q4.1, ⟨by omega, q4.2.1.2⟩, ⟨by omega, q4.2.2.1.2⟩, by omega, q4.2.2.2.2⟩, if_pos r4]
          · exact absurd ⟨rfl, rfl⟩ hg
        · rw [if_neg q4] at hg; exact absurd ⟨rfl, rfl⟩ hg

set_option maxHeartbeats 4000000 in
/-- The bytes of a form behind its first one are none at which a form begins. -/
theorem decN_cont (n b0 b1 b2 b3 : Nat) (_hg : ¬ ((decodeN n b0 b1 b2 b3).1 = 65533 ∧ (decodeN n b0 b1 b2 b3).2 = 1)) :
    (1 < (decodeN n b0 b1 b2 b3).2 → b1 / 64 = 2) ∧ (2 < (decodeN n b0 b1 b2 b3).2 → b2 / 64 = 2) ∧ (3 < (decodeN n b0 b1 b2 b3).2 → b3 / 64 = 2) := by
  unfold decodeN
  repeat' split
  all_goals simp
  all_goals omega
theorem decN_mid (n b0 b1 b2 b3 : Nat) (h : b0 / 64 = 2) : decodeN n b0 b1 b2 b3 = (65533, 1) := by
  unfold decodeN
  rw [if_neg (by omega), if_neg (by omega), if_neg (by omega), if_neg (by omega)]

theorem good_iff (s : ByteArray) (i : Nat) (h : i < s.size) : good s i ↔ (nxt s i).2 ≠ 0 := by
  unfold good; rw [← nxt_no s i h]
theorem dec_size (s : ByteArray) (i : Nat) (h : i < s.size) : i + (Utf8.decode s i).2 ≤ s.size := by
  rw [decode_at]
  unfold decodeN
  repeat' split
  all_goals simp
  all_goals omega

/-- Two texts that hold the same bytes from two places on, as far as a form goes, have it both. -/
theorem decode_same (s t : ByteArray) (i j : Nat) (hg : good s i) (hl : j + (Utf8.decode s i).2 ≤ t.size) (hb : ∀ d, d < (Utf8.decode s i).2 → t.get! (j + d) = s.get! (i + d)) : Utf8.decode t j = Utf8.decode s i := by
  have hw := decode_width s i
  have h0 := hb 0 (by omega)
  unfold good at hg
  rw [decode_at s i] at hg hl hb ⊢
  rw [decode_at t j]
  have h0' : (t.get! j).toNat = (s.get! i).toNat := by have : t.get! j = s.get! i := h0; rw [this]
  rw [h0']
  exact decN_local _ _ _ _ _ _ _ _ _ hg (by omega) (fun q => by rw [hb 1 q]) (fun q => by rw [hb 2 q]) (fun q => by rw [hb 3 q])
theorem mid_bad (s : ByteArray) (p q : Nat) (hg : good s p) (h1 : p < q) (h2 : q < p + (Utf8.decode s p).2) : ¬ good s q := by
  have hw := decode_width s p
  unfold good at hg ⊢
  rw [decode_at s p] at hg h2 hw
  obtain ⟨c1, c2, c3⟩ := decN_cont _ _ _ _ _ hg
  have hq : (s.get! q).toNat / 64 = 2 := by
    obtain ⟨d, rfl⟩ : ∃ d, q = p + d := ⟨q - p, by omega⟩
    match d, h1, h2 with
    | 0, h1, _ => omega
    | 1, _, h2 => exact c1 (by omega)
    | 2, _, h2 => exact c2 (by omega)
    | 3, _, h2 => exact c3 (by omega)
    | d + 4, _, h2 => omega
  rw [decode_at s q, decN_mid _ _ _ _ _ hq]
  simp

/-! ### A text behind another -/
theorem get!_left (a b : ByteArray) (i : Nat) (h : i < a.size) : (a ++ b).get! i = a.get! i := by
  rw [get!_lt _ _ (by simp; omega), get!_lt _ _ h, ByteArray.getElem_append_left h]
theorem get!_right (a b : ByteArray) (i : Nat) : (a ++ b).get! (a.size + i) = b.get! i := by
  by_cases h : i < b.size
  · rw [get!_lt _ _ (by simp; omega), get!_lt _ _ h, ByteArray.getElem_append_right (by omega)]
    congr 1
    omega
  · rw [get!_big b i (by omega), get!_big _ _ (by simp; omega)]
theorem decode_right (a b : ByteArray) (i : Nat) : Utf8.decode (a ++ b) (a.size + i) = Utf8.decode b i := by
  rw [decode_at, decode_at]
  simp only [Nat.add_assoc, get!_right]
  congr 1
  simp
  omega
theorem decode_left (a b : ByteArray) (i : Nat) (h : i < a.size) (hg : good a i) : Utf8.decode (a ++ b) i = Utf8.decode a i := by
  have hs := dec_size a i h
  exact decode_same a (a ++ b) i i hg (by simp; omega) (fun d hd => get!_left a b (i + d) (by omega))
theorem decode_left' (a b : ByteArray) (i : Nat) (hg : good (a ++ b) i) (h : i + (Utf8.decode (a ++ b) i).2 ≤ a.size) : Utf8.decode a i = Utf8.decode (a ++ b) i :=
  decode_same (a ++ b) a i i hg h (fun d hd => (get!_left a b (i + d) (by omega)).symm)

/-- The runes from a place on, as far as the forms go. -/
def rns (s : ByteArray) : Nat → Nat → List Int
  | 0, _ => []
  | f + 1, i => if i < s.size then ((Utf8.decode s i).1 : Int) :: rns s f (i + (Utf8.decode s i).2) else []
theorem rns_end (s : ByteArray) (f i : Nat) (h : ¬ i < s.size) : rns s f i = [] := by
  cases f with
  | zero => rfl
  | succ f => simp [rns, h]

/-- More fuel than bytes changes nothing. -/
theorem vld_fuel (s : ByteArray) : ∀ (f g i : Nat), s.size ≤ i + f → s.size ≤ i + g → vld s f i = vld s g i
  | 0, g, i, h, _ => by rw [vld_end s g i (by omega), vld_end s 0 i (by omega)]
  | f + 1, 0, i, _, h => by rw [vld_end s (f + 1) i (by omega), vld_end s 0 i (by omega)]
  | f + 1, g + 1, i, h, k => by
    have hw := decode_width s i
    simp only [vld]
    rw [vld_fuel s f g (i + (Utf8.decode s i).2) (by omega) (by omega)]
theorem rns_fuel (s : ByteArray) : ∀ (f g i : Nat), s.size ≤ i + f → s.size ≤ i + g → rns s f i = rns s g i
  | 0, g, i, h, _ => by rw [rns_end s g i (by omega), rns_end s 0 i (by omega)]
  | f + 1, 0, i, _, h => by rw [rns_end s (f + 1) i (by omega), rns_end s 0 i (by omega)]
  | f + 1, g + 1, i, h, k => by
    have hw := decode_width s i
    simp only [rns]
    rw [rns_fuel s f g (i + (Utf8.decode s i).2) (by omega) (by omega)]

theorem vld_step (s : ByteArray) (f i : Nat) (h : i < s.size) : vld s (f + 1) i = true ↔ good s i ∧ vld s f (i + (Utf8.decode s i).2) = true := by
  rw [good_iff s i h]
  by_cases hz : (nxt s i).2 = 0
  · rw [vld_bad s f i h hz]; simp [hz]
  · rw [vld_good s f i h hz]; simp [hz]

/-- From a place of the second text on the whole is the second. -/
theorem vld_right (a b : ByteArray) : ∀ (f i : Nat), vld (a ++ b) f (a.size + i) = vld b f i
  | 0, _ => rfl
  | f + 1, i => by
    have hd := decode_right a b i
    have e1 : (a.size + i < (a ++ b).size) ↔ i < b.size := by simp
    have e2 : nxt (a ++ b) (a.size + i) = nxt b i := by
      unfold nxt
      rw [hd]
      by_cases h : i < b.size
      · rw [if_pos (e1.2 h), if_pos h]
      · rw [if_neg (mt e1.1 h), if_neg h]
    simp only [vld]
    rw [e2, hd, Nat.add_assoc, vld_right a b f]
    by_cases h : i < b.size
    · rw [if_pos (e1.2 h), if_pos h]
    · rw [if_neg (mt e1.1 h), if_neg h]
theorem rns_right (a b : ByteArray) : ∀ (f i : Nat), rns (a ++ b) f (a.size + i) = rns b f i
  | 0, _ => rfl
  | f + 1, i => by
    have hd := decode_right a b i
    have e1 : (a.size + i < (a ++ b).size) ↔ i < b.size := by simp
    simp only [rns]
    rw [hd, Nat.add_assoc, rns_right a b f]
    by_cases h : i < b.size
    · rw [if_pos (e1.2 h), if_pos h]
    · rw [if_neg (mt e1.1 h), if_neg h]

/-- Both are UTF-8: so is the whole, and its runes are theirs. -/
theorem join_ok (a b : ByteArray) (hb : vld b b.size 0 = true) : ∀ (f i : Nat), i ≤ a.size → a.size ≤ i + f → vld a f i = true →
    vld (a ++ b) (f + b.size) i = true ∧ rns (a ++ b) (f + b.size) i = rns a f i ++ rns b b.size 0
  | f, i, hi, hf, hv => by
    by_cases h : i < a.size
    · match f, hf, hv with
      | 0, hf, _ => omega
      | f + 1, hf, hv =>
        obtain ⟨hg, hv'⟩ := (vld_step a f i h).1 hv
        have hw := decode_width a i
        have hs := dec_size a i h
        have hd := decode_left a b i h hg
        have hlt : i < (a ++ b).size := by simp; omega
        have hg' : good (a ++ b) i := by unfold good; rw [hd]; exact hg
        obtain ⟨r1, r2⟩ := join_ok a b hb f (i + (Utf8.decode a i).2) hs (by omega) hv'
        constructor
        · rw [show f + 1 + b.size = (f + b.size) + 1 by omega]
          rw [vld_step _ _ _ hlt]
          exact ⟨hg', by rw [hd]; exact r1⟩
        · rw [show f + 1 + b.size = (f + b.size) + 1 by omega]
          simp only [rns]
          rw [if_pos hlt, if_pos h, hd, r2]
          rfl
    · obtain rfl : i = a.size := by omega
      have q1 := vld_right a b (f + b.size) 0
      have q2 := rns_right a b (f + b.size) 0
      rw [Nat.add_zero] at q1 q2
      rw [q1, q2, rns_end a f a.size (by omega)]
      exact ⟨by rw [vld_fuel b (f + b.size) b.size 0 (by omega) (by omega)]; exact hb, rns_fuel b (f + b.size) b.size 0 (by omega) (by omega)⟩

/-- The whole is UTF-8 and a form begins where the second text does: then the first is. -/
theorem cut_left (a b : ByteArray) (hc : b.size = 0 ∨ good (a ++ b) a.size) : ∀ (f i : Nat), i ≤ a.size → vld (a ++ b) f i = true → vld a f i = true
  | 0, _, _, _ => rfl
  | f + 1, i, hi, hv => by
    by_cases h : i < a.size
    · have hlt : i < (a ++ b).size := by simp; omega
      obtain ⟨hg, hv'⟩ := (vld_step _ f i hlt).1 hv
      have hs := dec_size (a ++ b) i hlt
      have hle : i + (Utf8.decode (a ++ b) i).2 ≤ a.size := by
        rcases hc with h0 | hgood
        · simp [h0] at hs; omega
        · rcases Nat.lt_or_ge a.size (i + (Utf8.decode (a ++ b) i).2) with hgt | hle
          · exact absurd hgood (mid_bad (a ++ b) i a.size hg h hgt)
          · exact hle
      have hd := decode_left' a b i hg hle
      rw [vld_step _ _ _ h]
      refine ⟨by unfold good; rw [hd]; exact hg, ?_⟩
      rw [hd]
      exact cut_left a b hc f _ hle hv'
    · rw [vld_end a (f + 1) i h]
theorem cut_right (a b : ByteArray) (hc : b.size = 0 ∨ good (a ++ b) a.size) : ∀ (f i : Nat), i ≤ a.size → a.size ≤ i + f → vld (a ++ b) (f + b.size) i = true → vld b b.size 0 = true
  | f, i, hi, hf, hv => by
    by_cases h : i < a.size
    · match f, hf, hv with
      | 0, hf, _ => omega
      | f + 1, hf, hv =>
        have hlt : i < (a ++ b).size := by simp; omega
        rw [show f + 1 + b.size = (f + b.size) + 1 by omega] at hv
        obtain ⟨hg, hv'⟩ := (vld_step _ _ i hlt).1 hv
        have hs := dec_size (a ++ b) i hlt
        have hw := decode_width (a ++ b) i
        have hle : i + (Utf8.decode (a ++ b) i).2 ≤ a.size := by
          rcases hc with h0 | hgood
          · simp [h0] at hs; omega
          · rcases Nat.lt_or_ge a.size (i + (Utf8.decode (a ++ b) i).2) with hgt | hle
            · exact absurd hgood (mid_bad (a ++ b) i a.size hg h hgt)
            · exact hle
        exact cut_right a b hc f _ hle (by omega) hv'
    · obtain rfl : i = a.size := by omega
      have q1 := vld_right a b (f + b.size) 0
      rw [Nat.add_zero] at q1
      rw [q1, vld_fuel b (f + b.size) b.size 0 (by omega) (by omega)] at hv
      exact hv
end Go.Proofs.YtajaadagejhllaaGreatDoor
/- utf.Runes of a text of ASCII. -/
namespace Go.Proofs.YtajaadagejhllaaGreatDoor
open Go.RowKit Go.Lib

theorem iterPos_atQ {w : World} {k : Nat} {s : ByteArray} {pos : Nat} (h : w.heap[k]? = some (.stringIter s pos)) : w.iterPos k = pos := by
  unfold World.iterPos; rw [h]
def rcells (xs : List Int) : List Value := xs.map (Value.int .i32)
set_option maxRecDepth 100000 in
theorem begins_ok (s : ByteArray) (i r : Int) (w : World) (h : ¬ r = 65533) : Calls Tryz.prog 79 #[.string s, .int .i64 i, .int .i32 r] w fun e w' => e = .returned (.bool true) ∧ w' = w := by
  have e1 : (r != 65533) = true := by simpa using h
  go_enter Tryz.func79, Tryz.ntmps79
  go_wp2
  go_ret
  exact ⟨rfl, rfl⟩
set_option maxRecDepth 1000000 in
set_option maxHeartbeats 1000000 in
theorem valid_ok (s : ByteArray) (w : World) (hd : ∀ pos, pos < s.size → ¬ ((Utf8.decode s pos).1 : Int) = 65533) :
    Calls Tryz.prog 62 #[.string s] w fun e w' => e = .returned (.bool true) ∧ Below w.heap.size w w' := by
  have HD : Hid (∀ pos, pos < s.size → ¬ ((Utf8.decode s pos).1 : Int) = 65533) := hd
  clear hd
  go_enter Tryz.func62, Tryz.ntmps62
  go_wp2
  go_loopw [] (fun w' => ∃ pos : Nat, w'.heap[w.heap.size]? = some (.stringIter s pos) ∧ Below w.heap.size w w') (fun w' => s.size - w'.iterPos w.heap.size)
  case atStart => exact ⟨0, World.iter_heap w s 0, (Below.refl _ _).alloc (Nat.le_refl _) _⟩
  case round =>
    obtain ⟨pos, hk, hbw⟩ := hrel
    by_cases hp : pos < s.size
    · have hnx : ∀ ty, (Instr.next (.pointer (some ⟨w.heap.size, 0, none⟩)) true ty).run Tryz.prog wr = _ := fun ty => run_next_any_at wr w.heap.size s pos ty hk hp
      have hwd := (decode_width s pos).1
      have hb1 : Below w.heap.size w (wr.iterAt w.heap.size s (pos + (Utf8.decode s pos).2)) := below_iterAt hbw (Nat.le_refl _) s _
      have hk1 := iterAt_heap wr w.heap.size s pos (pos + (Utf8.decode s pos).2) hk
      have cB := begins_ok s pos _ (wr.iterAt w.heap.size s (pos + (Utf8.decode s pos).2)) (HD.out pos hp)
      generalize hW : wr.iterAt w.heap.size s (pos + (Utf8.decode s pos).2) = W at *
      obtain ⟨K, hK⟩ : ∃ K, (Utf8.decode s pos).2 = K := ⟨_, rfl⟩
      obtain ⟨R, hR⟩ : ∃ R, (Utf8.decode s pos).1 = R := ⟨_, rfl⟩
      rw [hK] at hwd hk1
      rw [hR] at hnx cB
      have HW1 : Hid (W.heap[w.heap.size]? = some (.stringIter s (pos + K))) := hk1
      have HW2 : Hid (wr.heap[w.heap.size]? = some (.stringIter s pos)) := hk
      clear hK hk1 hW hR hk
      go_wp2_with (go_at_call 79; go_fit cB; rintro e w' ⟨rfl, rfl⟩)
      go_roundw
      case rel => exact ⟨pos + K, HW1.out, hb1⟩
      case measure =>
        rw [iterPos_atQ HW2.out, iterPos_atQ HW1.out]
        omega
    · have hnx : ∀ ty, (Instr.next (.pointer (some ⟨w.heap.size, 0, none⟩)) true ty).run Tryz.prog wr = _ := fun ty => run_next_end_at wr w.heap.size s pos ty hk hp
      clear hk
      go_wp2
      go_ret
      exact ⟨rfl, hbw⟩
theorem owns_newQ (w1 : World) (cap : Nat) (xs : List Int) :
    ∀ j (h : j < xs.length), ((w1.alloc (Obj.cells ((rcells xs).toArray ++ Array.replicate (cap - xs.length) (Value.int .i32 0)) 21)).drew).cell? ⟨w1.heap.size, 0 + j, none⟩ = some (.int .i32 (xs[j])) := by
  intro j h
  have e : ((w1.alloc (Obj.cells ((rcells xs).toArray ++ Array.replicate (cap - xs.length) (Value.int .i32 0)) 21)).drew).heap[w1.heap.size]? = _ := heap_alloc_new w1 _
  unfold World.cell?
  dsimp only
  rw [e]
  simp [rcells, h, Array.getElem?_append]
set_option maxHeartbeats 400000 in
theorem runes_ok (s : ByteArray) (xs : List Int) (w : World) (hd : ∀ pos, pos < s.size → ¬ ((Utf8.decode s pos).1 : Int) = 65533) (he : Conv.runesFrom s s.size 0 #[] = (rcells xs).toArray) (hl : xs.length ≤ 5000) :
    Calls Tryz.prog 45 #[.string s] w fun e w' => ∃ g cap, e = .returned (.tuple #[.slice (some ⟨g, 0, none⟩) xs.length cap, .int .i64 0]) ∧ (∀ j (h : j < xs.length), w'.cell? ⟨g, 0 + j, none⟩ = some (.int .i32 (xs[j]))) ∧ g < w'.heap.size ∧ Below w.heap.size w w' := by
  have k1 := valid_ok s w hd
  have hrun := fun w1 : World => run_runes_of_string (P := Tryz.prog) w1 9 70 21 s Tryz.underlying9 Tryz.underlying70 Tryz.underlying21 (by rw [he]; simp [rcells]; omega)
  have hsz : (Conv.runesFrom s s.size 0 #[]).size = xs.length := by rw [he]; simp [rcells]
  rw [he] at hrun hsz
  rw [hsz] at hrun
  clear he hsz hd
  go_enter Tryz.func45, Tryz.ntmps45
  go_wp2_with (go_at_call 62; go_fit k1; rintro e w1 ⟨rfl, hb⟩)
  go_ret2
  exact ⟨w1.heap.size, _, rfl, owns_newQ w1 _ xs, by simp, (hb.alloc hb.size _).drew⟩
end Go.Proofs.YtajaadagejhllaaGreatDoor
