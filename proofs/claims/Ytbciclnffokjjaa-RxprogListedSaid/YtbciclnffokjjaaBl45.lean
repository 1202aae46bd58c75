/- A bundle of texts. -/
import Derived.Test.YtbciclnffokjjaaBl44
import Derived.Test.YtbciclnffokjjaaBl37
import Derived.Test.YtbciclnffokjjaaBl01
/- What all texts of a tree begin with. -/
namespace Go.Proofs.Ytbciclnffokjjaa
open Go.RowKit

theorem enc_bytes (r : Int) : (Utf8.encode r).data.toList = Lib.encodeRune r := by
  have hv : Utf8.valid r = decide ((0 ≤ r ∧ r < 55296) ∨ (57343 < r ∧ r ≤ 1114111)) := by
    unfold Utf8.valid
    rw [Bool.eq_iff_iff]
    simp
    try omega
  unfold Utf8.encode Lib.encodeRune
  by_cases h : (0 ≤ r ∧ r < 55296) ∨ (57343 < r ∧ r ≤ 1114111)
  · rw [hv, decide_eq_true h]
    obtain ⟨n, rfl⟩ : ∃ n : Nat, r = (n : Int) := ⟨r.toNat, by omega⟩
    by_cases h1 : (n : Int) ≤ 127
    · rw [Lib.encodeRuneZ_one (by omega) h1]
      have : n < 128 := by omega
      simp [this]
    · by_cases h2 : (n : Int) ≤ 2047
      · rw [Lib.encodeRuneZ_two (by omega) h2]
        have a : ¬ n < 128 := by omega
        have b : n < 2048 := by omega
        have z1 : (192 + (n : Int) / 64).toNat = 192 + n / 64 := by omega
        have z2 : (128 + (n : Int) % 64).toNat = 128 + n % 64 := by omega
        simp [a, b, z1, z2]
      · by_cases h3 : (n : Int) ≤ 65535
        · rw [Lib.encodeRuneZ_three (by omega)]
          have a : ¬ n < 128 := by omega
          have b : ¬ n < 2048 := by omega
          have c : n < 65536 := by omega
          have z1 : (224 + (n : Int) / 4096).toNat = 224 + n / 4096 := by omega
          have z2 : (128 + (n : Int) / 64 % 64).toNat = 128 + n / 64 % 64 := by omega
          have z3 : (128 + (n : Int) % 64).toNat = 128 + n % 64 := by omega
          simp [a, b, c, z1, z2, z3]
        · rw [Lib.encodeRuneZ_four (by omega) (by omega)]
          have a : ¬ n < 128 := by omega
          have b : ¬ n < 2048 := by omega
          have c : ¬ n < 65536 := by omega
          have z0 : (240 + (n : Int) / 262144).toNat = 240 + n / 262144 := by omega
          have z1 : (128 + (n : Int) / 4096 % 64).toNat = 128 + n / 4096 % 64 := by omega
          have z2 : (128 + (n : Int) / 64 % 64).toNat = 128 + n / 64 % 64 := by omega
          have z3 : (128 + (n : Int) % 64).toNat = 128 + n % 64 := by omega
          simp [a, b, c, z0, z1, z2, z3]
  · rw [hv, decide_eq_false h]
    have a : ¬ (0 ≤ r ∧ r ≤ 127) := by omega
    have b : ¬ (128 ≤ r ∧ r ≤ 2047) := by omega
    have c : ¬ ((2048 ≤ r ∧ r < 55296) ∨ (57343 < r ∧ r ≤ 65535)) := by omega
    have d : ¬ (65536 ≤ r ∧ r ≤ 1114111) := by omega
    unfold Lib.encodeRuneZ
    rw [if_neg a, if_neg b, if_neg c, if_neg d]
    simp [Utf8.runeError]
theorem size_len (a : ByteArray) : a.data.toList.length = a.size := by rw [Array.length_toList]; rfl
/-- The text has the bytes l from i on. -/
def Bg (s : ByteArray) (i : Nat) (l : List UInt8) : Prop := l <+: s.data.toList.drop i
theorem Bg.nil (s : ByteArray) (i : Nat) : Bg s i [] := List.nil_prefix
theorem Bg.app {s : ByteArray} {i : Nat} {l m : List UInt8} (h : Bg s i l) (h' : Bg s (i + l.length) m) : Bg s i (l ++ m) := by
  obtain ⟨r, hr⟩ := h
  obtain ⟨q, hq⟩ := h'
  refine ⟨q, ?_⟩
  rw [← List.drop_drop, ← hr, List.drop_left] at hq
  rw [List.append_assoc, hq, hr]
theorem Bg.sub {s : ByteArray} {i : Nat} {l m : List UInt8} (h : Bg s i l) (h' : m <+: l) : Bg s i m := h'.trans h
/-- A rune that is well formed stands there in its form. -/
theorem rn_bg {s : ByteArray} {i : Nat} (hi : i < s.size) (hb : rnBad s i = false) : Bg s i (Utf8.encode (rnR s i)).data.toList := by
  have hex : ∀ j, (s.extract i j).data.toList = (s.data.toList.drop i).take (j - i) := fun j => by
    rw [ByteArray.data_extract, Array.toList_extract, List.extract_eq_take_drop]
  by_cases h : rnR s i = 65533
  · unfold rnBad at hb
    rw [Bool.and_eq_false_iff] at hb
    rcases hb with hb | hb
    · rw [h] at hb
      exact absurd hb (by decide)
    · have hb2 := (Bool.or_eq_false_iff.1 hb).2
      rw [toList_eq] at hb2
      have e : (s.extract i (i + (Utf8.encode (rnR s i)).size)).data.toList = (Utf8.encode (rnR s i)).data.toList := by
        rw [show s.extract i (i + (Utf8.encode (rnR s i)).size) = Utf8.encode (rnR s i) by simpa using hb2]
      rw [← e, hex]
      exact List.take_prefix _ _
  · have hlen : (s.extract i s.size).data.toList.length = s.size - i := by
      have : (s.extract i s.size).size = s.size - i := by simp
      rw [← this, Array.length_toList]
      rfl
    have hall : (s.extract i s.size).data.toList = s.data.toList.drop i := by
      rw [hex, List.take_of_length_le (by rw [List.length_drop, size_len]; exact Nat.le_refl _)]
    obtain ⟨l, hl⟩ : ∃ l, l = (s.extract i s.size).data.toList := ⟨_, rfl⟩
    have hd : Utf8.decode (s.extract i s.size) 0 = Lib.decodeL l := by rw [hl]; rfl
    have hne : l ≠ [] := fun e => by rw [← hl, e] at hlen; simp at hlen; omega
    have hr : rnR s i = ((Lib.decodeL l).1 : Int) := by unfold rnR; rw [hd]
    have hed := Lib.encode_decode l hne (fun e => h (by rw [hr, e.1]; rfl))
    unfold Bg
    rw [enc_bytes, hr, hed, ← hall, ← hl]
    exact List.take_prefix _ _
theorem tk_bg {s : ByteArray} {r : Int} {i j : Nat} (h : TkR s [(r, r)] i j) : Bg s i (Utf8.encode r).data.toList ∧ j = i + (Utf8.encode r).data.toList.length := by
  obtain ⟨h1, h2, ⟨x, hx, h3, h4⟩, h5⟩ := h
  rcases List.mem_singleton.1 hx with rfl
  have e : rnR s i = r := by dsimp only at h3 h4; omega
  rw [← e]
  exact ⟨rn_bg h1 h2, by rw [h5, size_len]⟩
/-- A front: a text, and whether it is all. -/
abbrev Fr := List UInt8 × Bool
def rowF (G : Nat → Fr) : Nat → Fr
  | 0 => ([], true)
  | n + 1 => if (rowF G n).2 = true then ((rowF G n).1 ++ (G n).1, (G n).2) else rowF G n
def comF (C : List UInt8 → List UInt8 → List UInt8) (G : Nat → Fr) : Nat → Fr
  | 0 => G 0
  | n + 1 => (C (comF C G n).1 (G (n + 1)).1, (comF C G n).2 && (G (n + 1)).2 && ((G (n + 1)).1 == (comF C G n).1))
def timL (l : List UInt8) : Nat → List UInt8
  | 0 => []
  | n + 1 => timL l n ++ l
theorem timL_len (l : List UInt8) : ∀ n, (timL l n).length = n * l.length
  | 0 => by simp [timL]
  | n + 1 => by unfold timL; rw [List.length_append, timL_len l n, Nat.add_mul, Nat.one_mul]
def repF (k : Fr) (mn mx : Int) : Fr :=
  if mx = 0 then ([], true)
  else if mn = 0 then ([], k.2 && k.1 == [])
  else if k.2 = false then k
  else (timL k.1 mn.toNat, (k.2 && k.1 == []) || mx == mn)
def frF (C : List UInt8 → List UInt8 → List UInt8) : Nat → Tr → Fr
  | 0, _ => ([], false)
  | m + 1, t =>
    if (t []).kind = 2 then (if Utf8.valid (t []).r = true then ((Utf8.encode (t []).r).data.toList, true) else ([], false))
    else if (t []).kind = 3 then ([], false)
    else if (t []).kind = 4 then rowF (fun q => frF C m (kid t q)) (t []).kn
    else if (t []).kind = 5 then comF C (fun q => frF C m (kid t q)) ((t []).kn - 1)
    else if (t []).kind = 6 then repF (frF C m (kid t 0)) (t []).mn (t []).mx
    else if (t []).kind = 7 then frF C m (kid t 0)
    else ([], true)
/-- A front holds of what is taken from i to j. -/
def FrOk (s : ByteArray) (f : Fr) (i j : Nat) : Prop := Bg s i f.1 ∧ (f.2 = true → j = i + f.1.length)
theorem row_ok {s : ByteArray} {G : Nat → Fr} {M : Nat → Nat → Nat → Prop} : ∀ n, (∀ q, q < n → ∀ i j, M q i j → FrOk s (G q) i j) → ∀ i j, catM M n i j → FrOk s (rowF G n) i j
  | 0, _, i, j, h => ⟨Bg.nil s i, fun _ => by have e : i = j := h; simp [rowF, e]⟩
  | n + 1, h, i, j, ⟨k, h1, h2⟩ => by
    have ih := row_ok n (fun q hq => h q (by omega)) i k h1
    have hn := h n (by omega) k j h2
    unfold rowF
    by_cases hb : (rowF G n).2 = true
    · rw [if_pos hb]
      have e := ih.2 hb
      subst e
      refine ⟨ih.1.app hn.1, fun hx => ?_⟩
      rw [hn.2 hx, List.length_append, Nat.add_assoc]
    · rw [if_neg hb]
      exact ⟨ih.1, fun hx => absurd hx hb⟩
theorem com_sub {C : List UInt8 → List UInt8 → List UInt8} (hC : ∀ a b, C a b <+: a ∧ C a b <+: b) (hCC : ∀ a, C a a = a) {G : Nat → Fr} : ∀ n q, q ≤ n → (comF C G n).1 <+: (G q).1 ∧ ((comF C G n).2 = true → (G q).2 = true ∧ (G q).1 = (comF C G n).1)
  | 0, q, hq => by
    have : q = 0 := by omega
    subst this
    exact ⟨List.prefix_refl _, fun h => ⟨h, rfl⟩⟩
  | n + 1, q, hq => by
    have hx : (comF C G (n + 1)).2 = true → (comF C G n).2 = true ∧ (G (n + 1)).2 = true ∧ (G (n + 1)).1 = (comF C G n).1 := fun h => by
      unfold comF at h
      simp at h
      exact ⟨h.1.1, h.1.2, h.2⟩
    have he : (comF C G (n + 1)).2 = true → (comF C G (n + 1)).1 = (comF C G n).1 := fun h => by
      show C _ _ = _
      rw [(hx h).2.2, hCC]
    by_cases e : q = n + 1
    · subst e
      exact ⟨(hC _ _).2, fun h => ⟨(hx h).2.1, by rw [he h]; exact (hx h).2.2⟩⟩
    · have ih := com_sub hC hCC (G := G) n q (by omega)
      refine ⟨(hC _ _).1.trans ih.1, fun h => ?_⟩
      have := ih.2 (hx h).1
      exact ⟨this.1, by rw [he h]; exact this.2⟩
theorem it_bg {s : ByteArray} {K : Nat → Nat → Prop} {l : List UInt8} (h : ∀ i j, K i j → Bg s i l ∧ j = i + l.length) : ∀ n i j, itM K n i j → Bg s i (timL l n) ∧ j = i + n * l.length
  | 0, i, j, hm => ⟨Bg.nil s i, by have e : i = j := hm; simp [e]⟩
  | n + 1, i, j, hm => by
    obtain ⟨k, h1, h2⟩ := itM_snoc.1 hm
    obtain ⟨b1, e1⟩ := it_bg h n i k h1
    obtain ⟨b2, e2⟩ := h k j h2
    refine ⟨?_, by rw [e2, e1, Nat.add_mul, Nat.one_mul, Nat.add_assoc]⟩
    unfold timL
    refine b1.app ?_
    rw [timL_len, ← e1]
    exact b2
theorem timL_pre (l : List UInt8) (n : Nat) : ∀ d, timL l n <+: timL l (n + d)
  | 0 => List.prefix_refl _
  | d + 1 => (timL_pre l n d).trans (List.prefix_append _ _)
theorem rep_ok {s : ByteArray} {k : Fr} {K : Nat → Nat → Prop} (h : ∀ i j, K i j → FrOk s k i j) (mn mx : Int) (h0 : 0 ≤ mn) {n i j : Nat} (h1 : mn ≤ n) (h2 : mx = -1 ∨ (n : Int) ≤ mx) (hm : itM K n i j) : FrOk s (repF k mn mx) i j := by
  unfold repF
  by_cases c1 : mx = 0
  · rw [if_pos c1]
    have : n = 0 := by omega
    subst this
    have e : i = j := hm
    exact ⟨Bg.nil s i, fun _ => by simp [e]⟩
  rw [if_neg c1]
  have hz : (k.2 && k.1 == []) = true → j = i := fun hz => by
    simp at hz
    have := (it_bg (l := k.1) (fun i j hk => ⟨(h i j hk).1, (h i j hk).2 hz.1⟩) n i j hm).2
    rw [this, hz.2]
    simp
  by_cases c2 : mn = 0
  · rw [if_pos c2]
    exact ⟨Bg.nil s i, fun hx => by rw [hz hx]; simp⟩
  rw [if_neg c2]
  by_cases c3 : k.2 = false
  · rw [if_pos c3]
    obtain ⟨n', rfl⟩ : ∃ n', n = n' + 1 := ⟨n - 1, by omega⟩
    obtain ⟨q, hq, _⟩ := hm
    exact ⟨(h i q hq).1, fun hx => by rw [c3] at hx; cases hx⟩
  rw [if_neg c3]
  have c3' : k.2 = true := by simpa using c3
  obtain ⟨b, e⟩ := it_bg (l := k.1) (fun i j hk => ⟨(h i j hk).1, (h i j hk).2 c3'⟩) n i j hm
  refine ⟨b.sub ?_, fun hx => ?_⟩
  · have := timL_pre k.1 mn.toNat (n - mn.toNat)
    rwa [show mn.toNat + (n - mn.toNat) = n by omega] at this
  · rw [Bool.or_eq_true] at hx
    dsimp only
    rw [timL_len]
    rcases hx with hx | hx
    · rw [hz hx]
      simp at hx
      simp [hx.2]
    · have hx' : mx = mn := by simpa using hx
      rw [e, show mn.toNat = n by omega]
/-- All that a tree takes begins with its front. -/
theorem fr_ok {C : List UInt8 → List UInt8 → List UInt8} (hC : ∀ a b, C a b <+: a ∧ C a b <+: b) (hCC : ∀ a, C a a = a) {s : ByteArray} : ∀ (m : Nat) (t : Tr), WF m t → ∀ i j, Mn s m t i j → FrOk s (frF C m t) i j
  | 0, _, h, _, _, _ => by cases h
  | m + 1, t, hw, i, j, hm => by
    obtain ⟨⟨hnd, _⟩, _, hk⟩ := hw
    have hkd := ndB_kind hnd
    unfold Mn at hm
    unfold frF
    by_cases k2 : (t []).kind = 2
    · rw [if_pos k2] at hm ⊢
      split
      · exact ⟨(tk_bg hm).1, fun _ => (tk_bg hm).2⟩
      · exact ⟨Bg.nil s i, fun h => by cases h⟩
    rw [if_neg k2] at hm ⊢
    by_cases k3 : (t []).kind = 3
    · rw [if_pos k3]
      exact ⟨Bg.nil s i, fun h => by cases h⟩
    rw [if_neg k3] at hm ⊢
    by_cases k4 : (t []).kind = 4
    · rw [if_pos k4] at hm ⊢
      exact row_ok _ (fun q hq i j h => fr_ok hC hCC m _ (hk q hq) i j h) i j hm
    rw [if_neg k4] at hm ⊢
    by_cases k5 : (t []).kind = 5
    · rw [if_pos k5] at hm ⊢
      obtain ⟨q, hq, hm⟩ := hm
      have ho := fr_ok hC hCC m _ (hk q hq) i j hm
      obtain ⟨c1, c2⟩ := com_sub hC hCC (G := fun q => frF C m (kid t q)) ((t []).kn - 1) q (by omega)
      refine ⟨ho.1.sub c1, fun hx => ?_⟩
      obtain ⟨d1, d2⟩ := c2 hx
      rw [← d2]
      exact ho.2 d1
    rw [if_neg k5] at hm ⊢
    by_cases k6 : (t []).kind = 6
    · rw [if_pos k6] at hm ⊢
      have h6 := ndB_rep hnd k6
      obtain ⟨n, h1, h2, hm⟩ := hm
      exact rep_ok (fun i j h => fr_ok hC hCC m _ (hk 0 (by omega)) i j h) _ _ (by omega) h1 h2 hm
    rw [if_neg k6] at hm ⊢
    by_cases k7 : (t []).kind = 7
    · rw [if_pos k7] at hm ⊢
      have h7 := ndB_grp hnd k7
      exact fr_ok hC hCC m _ (hk 0 (by omega)) i j hm
    rw [if_neg k7] at hm ⊢
    have e : j = i := by
      split at hm
      · exact hm.2
      split at hm
      · exact hm.2
      · exact hm.symm
    exact ⟨Bg.nil s i, fun _ => by simp [e]⟩
end Go.Proofs.Ytbciclnffokjjaa
/- What a tree without places means: a language of bytes. -/
namespace Go.Proofs.Ytbciclnffokjjaa
open Go.RowKit Go.Lib

abbrev Lng := List UInt8 → Prop
def catL (P Q : Lng) : Lng := fun z => ∃ x y, P x ∧ Q y ∧ z = x ++ y
def rowL (F : Nat → Lng) (lo : Nat) : Nat → Lng
  | 0 => fun z => z = []
  | n + 1 => catL (rowL F lo n) (F (lo + n))
def powL (K : Lng) : Nat → Lng
  | 0 => fun z => z = []
  | n + 1 => catL (powL K n) K
def runL (rs : List Rg) : Lng := fun z => ∃ r, isRune r = true ∧ inR r rs ∧ z = (Utf8.encode r).data.toList
def Lb : Nat → Tr → Lng
  | 0, _, _ => False
  | m + 1, t, z =>
    if (t []).kind = 2 then runL [((t []).r, (t []).r)] z
    else if (t []).kind = 3 then runL (rsL (t [])) z
    else if (t []).kind = 4 then rowL (fun q => Lb m (kid t q)) 0 (t []).kn z
    else if (t []).kind = 5 then ∃ q, q < (t []).kn ∧ Lb m (kid t q) z
    else if (t []).kind = 6 then ∃ n : Nat, (t []).mn ≤ n ∧ ((t []).mx = -1 ∨ (n : Int) ≤ (t []).mx) ∧ powL (Lb m (kid t 0)) n z
    else if (t []).kind = 7 then Lb m (kid t 0) z
    else z = []
/-- A text has one of the language from i to j. -/
def SpL (s : ByteArray) (P : Lng) (i j : Nat) : Prop := ∃ z, P z ∧ Bg s i z ∧ j = i + z.length
theorem Bg.cut {s : ByteArray} {i : Nat} {l m : List UInt8} (h : Bg s i (l ++ m)) : Bg s i l ∧ Bg s (i + l.length) m := by
  obtain ⟨r, hr⟩ := h
  refine ⟨⟨m ++ r, by rw [← hr, List.append_assoc]⟩, ⟨r, ?_⟩⟩
  rw [← List.drop_drop, ← hr, List.append_assoc, List.drop_left]
theorem SpL.cat {s : ByteArray} {P Q : Lng} {i j : Nat} : SpL s (catL P Q) i j ↔ ∃ k, SpL s P i k ∧ SpL s Q k j := by
  constructor
  · rintro ⟨z, ⟨x, y, hx, hy, rfl⟩, hb, rfl⟩
    exact ⟨i + x.length, ⟨x, hx, hb.cut.1, rfl⟩, ⟨y, hy, hb.cut.2, by rw [List.length_append]; omega⟩⟩
  · rintro ⟨k, ⟨x, hx, hb, rfl⟩, ⟨y, hy, hb', rfl⟩⟩
    exact ⟨x ++ y, ⟨x, y, hx, hy, rfl⟩, hb.app hb', by rw [List.length_append]; omega⟩
theorem SpL.eps {s : ByteArray} {i j : Nat} : SpL s (fun z => z = []) i j ↔ i = j := by
  constructor
  · rintro ⟨z, rfl, _, rfl⟩; rfl
  · rintro rfl; exact ⟨[], rfl, Bg.nil _ _, rfl⟩
theorem SpL.imp {s : ByteArray} {P Q : Lng} (h : ∀ z, P z ↔ Q z) {i j : Nat} : SpL s P i j ↔ SpL s Q i j := by
  unfold SpL
  simp only [h]
theorem SpL.row {s : ByteArray} {F : Nat → Lng} {M : Nat → Nat → Nat → Prop} : ∀ n, (∀ q, q < n → ∀ i j, M q i j ↔ SpL s (F q) i j) → ∀ i j, catM M n i j ↔ SpL s (rowL F 0 n) i j
  | 0, _, i, j => SpL.eps.symm
  | n + 1, h, i, j => by
    show (∃ k, catM M n i k ∧ M n k j) ↔ SpL s (catL (rowL F 0 n) (F (0 + n))) i j
    rw [SpL.cat, Nat.zero_add]
    constructor
    · rintro ⟨k, h1, h2⟩; exact ⟨k, (SpL.row n (fun q hq => h q (by omega)) i k).1 h1, (h n (by omega) k j).1 h2⟩
    · rintro ⟨k, h1, h2⟩; exact ⟨k, (SpL.row n (fun q hq => h q (by omega)) i k).2 h1, (h n (by omega) k j).2 h2⟩
theorem SpL.pow {s : ByteArray} {P : Lng} {K : Nat → Nat → Prop} (h : ∀ i j, K i j ↔ SpL s P i j) : ∀ n i j, itM K n i j ↔ SpL s (powL P n) i j
  | 0, i, j => SpL.eps.symm
  | n + 1, i, j => by
    rw [itM_snoc]
    show _ ↔ SpL s (catL (powL P n) P) i j
    rw [SpL.cat]
    constructor
    · rintro ⟨k, h1, h2⟩; exact ⟨k, (SpL.pow h n i k).1 h1, (h k j).1 h2⟩
    · rintro ⟨k, h1, h2⟩; exact ⟨k, (SpL.pow h n i k).2 h1, (h k j).2 h2⟩

theorem decN_rune (n b0 b1 b2 b3 : Nat) : isRune ((decodeN n b0 b1 b2 b3).1 : Int) = true := by
  rw [isRune_iff]
  unfold decodeN
  repeat' split
  all_goals (dsimp only; omega)
theorem rn_rune (s : ByteArray) (i : Nat) : isRune (rnR s i) = true := by
  unfold rnR
  rw [decode_at]
  exact decN_rune _ _ _ _ _
theorem ext_drop (s : ByteArray) (i j : Nat) : (s.extract i j).data.toList = (s.data.toList.drop i).take (j - i) := by
  rw [ByteArray.data_extract, Array.toList_extract, List.extract_eq_take_drop]
theorem ba_ext {a b : ByteArray} (h : a.data.toList = b.data.toList) : a = b := ByteArray.ext (Array.toList_inj.1 h)
theorem app_list (a b : ByteArray) : (a ++ b).data.toList = a.data.toList ++ b.data.toList := by
  rw [ByteArray.data_append, Array.toList_append]
/-- Where a rune's form stands, that rune is read. -/
theorem rn_enc {s : ByteArray} {i : Nat} {r : Int} (h : isRune r = true) (hb : Bg s i (Utf8.encode r).data.toList) : i < s.size ∧ rnR s i = r ∧ rnBad s i = false := by
  obtain ⟨q, hq⟩ := hb
  have hl : (Utf8.encode r).data.toList.length = (Utf8.encode r).size := size_len _
  have hw := wd_bd r
  have hz := enc_size r h
  have hlt : (Utf8.encode r).size + q.length = s.size - i := by
    rw [← hl, ← List.length_append, hq, List.length_drop, size_len]
  have hx : s.extract i s.size = Utf8.encode r ++ ⟨q.toArray⟩ := ba_ext (by
    rw [ext_drop, app_list, ← hq, List.take_of_length_le (by rw [List.length_append, hl]; omega)])
  have hr : rnR s i = r := by
    unfold rnR
    rw [hx, enc_decode r h]
    have := ((isRune_iff r).1 h).1
    dsimp only
    omega
  refine ⟨by omega, hr, ?_⟩
  unfold rnBad
  rw [hr]
  have h1 : decide ((s.size : Int) - i < (Utf8.encode r).size) = false := decide_eq_false (by omega)
  have h2 : s.extract i (i + (Utf8.encode r).size) = Utf8.encode r := ba_ext (by
    rw [ext_drop, ← hq, show i + (Utf8.encode r).size - i = (Utf8.encode r).data.toList.length by rw [hl]; omega, List.take_left])
  rw [h1, h2]
  simp
theorem tk_run {s : ByteArray} {rs : List Rg} {i j : Nat} : TkR s rs i j ↔ SpL s (runL rs) i j := by
  constructor
  · rintro ⟨h1, h2, h3, h4⟩
    exact ⟨_, ⟨rnR s i, rn_rune s i, h3, rfl⟩, rn_bg h1 h2, by rw [h4, size_len]⟩
  · rintro ⟨z, ⟨r, hr, hin, rfl⟩, hb, hj⟩
    obtain ⟨a1, a2, a3⟩ := rn_enc hr hb
    exact ⟨a1, a3, by rw [a2]; exact hin, by rw [a2, hj, size_len]⟩
theorem ask_kid {m : Nat} {t : Tr} (h : askF (m + 1) t = false) : (t []).kind < 8 ∧ ∀ q, q < (t []).kn → askF m (kid t q) = false := by
  unfold askF at h
  rw [Bool.or_eq_false_iff, decide_eq_false_iff_not] at h
  refine ⟨by omega, fun q hq => ?_⟩
  cases e : askF m (kid t q) with
  | false => rfl
  | true =>
    have := (anyN_true (F := fun q => askF m (kid t q)) (n := (t []).kn)).2 ⟨q, hq, e⟩
    rw [h.2] at this
    cases this
theorem mn_lb {s : ByteArray} : ∀ (m : Nat) (t : Tr), WF m t → askF m t = false → ∀ i j, Mn s m t i j ↔ SpL s (Lb m t) i j
  | 0, _, h, _ => by cases h
  | m + 1, t, hw, ha => by
    intro i j
    obtain ⟨⟨hnd, _⟩, _, hk⟩ := hw
    obtain ⟨h8, hak⟩ := ask_kid ha
    have ih : ∀ q, q < (t []).kn → ∀ i j, Mn s m (kid t q) i j ↔ SpL s (Lb m (kid t q)) i j := fun q hq => mn_lb m (kid t q) (hk q hq) (hak q hq)
    have eL : ∀ z, Lb (m + 1) t z ↔ if (t []).kind = 2 then runL [((t []).r, (t []).r)] z
      else if (t []).kind = 3 then runL (rsL (t [])) z
      else if (t []).kind = 4 then rowL (fun q => Lb m (kid t q)) 0 (t []).kn z
      else if (t []).kind = 5 then ∃ q, q < (t []).kn ∧ Lb m (kid t q) z
      else if (t []).kind = 6 then ∃ n : Nat, (t []).mn ≤ n ∧ ((t []).mx = -1 ∨ (n : Int) ≤ (t []).mx) ∧ powL (Lb m (kid t 0)) n z
      else if (t []).kind = 7 then Lb m (kid t 0) z
      else z = [] := fun z => Iff.rfl
    rw [SpL.imp eL]
    unfold Mn
    by_cases k2 : (t []).kind = 2
    · simp only [if_pos k2]
      exact tk_run
    simp only [if_neg k2]
    by_cases k3 : (t []).kind = 3
    · simp only [if_pos k3]
      exact tk_run
    simp only [if_neg k3]
    by_cases k4 : (t []).kind = 4
    · simp only [if_pos k4]
      exact SpL.row _ ih i j
    simp only [if_neg k4]
    by_cases k5 : (t []).kind = 5
    · simp only [if_pos k5]
      constructor
      · rintro ⟨q, hq, h⟩
        obtain ⟨z, h1, h2⟩ := (ih q hq i j).1 h
        exact ⟨z, ⟨q, hq, h1⟩, h2⟩
      · rintro ⟨z, ⟨q, hq, h1⟩, h2⟩
        exact ⟨q, hq, (ih q hq i j).2 ⟨z, h1, h2⟩⟩
    simp only [if_neg k5]
    by_cases k6 : (t []).kind = 6
    · simp only [if_pos k6]
      have h1 := (ndB_rep hnd k6).1
      have hp := SpL.pow (ih 0 (by omega))
      constructor
      · rintro ⟨n, a1, a2, h⟩
        obtain ⟨z, h1, h2⟩ := (hp n i j).1 h
        exact ⟨z, ⟨n, a1, a2, h1⟩, h2⟩
      · rintro ⟨z, ⟨n, a1, a2, h1⟩, h2⟩
        exact ⟨n, a1, a2, (hp n i j).2 ⟨z, h1, h2⟩⟩
    simp only [if_neg k6]
    by_cases k7 : (t []).kind = 7
    · simp only [if_pos k7]
      have h1 := ndB_grp hnd k7
      exact ih 0 (by omega) i j
    simp only [if_neg k7]
    rw [if_neg (by omega), if_neg (by omega)]
    exact SpL.eps.symm
theorem mn_whole {s : ByteArray} {m : Nat} {t : Tr} (hw : WF m t) (ha : askF m t = false) : Mn s m t 0 s.size ↔ Lb m t s.data.toList := by
  rw [mn_lb m t hw ha]
  constructor
  · rintro ⟨z, hz, ⟨q, hq⟩, hl⟩
    rw [List.drop_zero] at hq
    have : q.length = 0 := by
      have := congrArg List.length hq
      rw [List.length_append, size_len] at this
      omega
    rw [List.length_eq_zero_iff.1 this, List.append_nil] at hq
    rw [← hq]
    exact hz
  · intro h
    exact ⟨_, h, ⟨[], by rw [List.append_nil, List.drop_zero]⟩, by rw [size_len, Nat.zero_add]⟩
/-- Runes in their forms. -/
def encL (rs : List Int) : List UInt8 := (rs.map fun r => (Utf8.encode r).data.toList).flatten
def Wel (z : List UInt8) : Prop := ∃ rs, (∀ r ∈ rs, isRune r = true) ∧ z = encL rs
theorem Wel.nil : Wel [] := ⟨[], by simp, rfl⟩
theorem Wel.app {x y : List UInt8} (h : Wel x) (h' : Wel y) : Wel (x ++ y) := by
  obtain ⟨a, h1, rfl⟩ := h
  obtain ⟨b, h2, rfl⟩ := h'
  refine ⟨a ++ b, fun r hr => ?_, by unfold encL; rw [List.map_append, List.flatten_append]⟩
  rcases List.mem_append.1 hr with hr | hr
  · exact h1 r hr
  · exact h2 r hr
theorem Wel.run {rs : List Rg} {z : List UInt8} (h : runL rs z) : Wel z := by
  obtain ⟨r, hr, _, rfl⟩ := h
  exact ⟨[r], by simpa using hr, by unfold encL; simp⟩
theorem Wel.row {F : Nat → Lng} (lo : Nat) : ∀ n, (∀ q, q < n → ∀ z, F (lo + q) z → Wel z) → ∀ z, rowL F lo n z → Wel z
  | 0, _, z, e => by have e' : z = [] := e; rw [e']; exact Wel.nil
  | n + 1, h, z, ⟨x, y, hx, hy, e⟩ => by
    rw [e]
    exact (Wel.row lo n (fun q hq => h q (by omega)) x hx).app (h n (by omega) y hy)
theorem Wel.pow {K : Lng} (h : ∀ z, K z → Wel z) : ∀ n z, powL K n z → Wel z
  | 0, z, e => by have e' : z = [] := e; rw [e']; exact Wel.nil
  | n + 1, z, ⟨x, y, hx, hy, e⟩ => by
    rw [e]
    exact (Wel.pow h n x hx).app (h y hy)
theorem Lb.wel : ∀ (m : Nat) (t : Tr), WF m t → ∀ z, Lb m t z → Wel z
  | 0, _, h, _, _ => by cases h
  | m + 1, t, hw, z, h => by
    obtain ⟨⟨hnd, _⟩, _, hk⟩ := hw
    have ih : ∀ q, q < (t []).kn → ∀ z, Lb m (kid t q) z → Wel z := fun q hq => Lb.wel m (kid t q) (hk q hq)
    unfold Lb at h
    split at h
    · exact Wel.run h
    split at h
    · exact Wel.run h
    split at h
    · exact Wel.row 0 _ (fun q hq z hz => ih q hq z (by rw [Nat.zero_add] at hz; exact hz)) z h
    split at h
    · obtain ⟨q, hq, h⟩ := h
      exact ih q hq z h
    split at h
    · rename_i k6
      obtain ⟨n, _, _, h⟩ := h
      exact Wel.pow (ih 0 (by have := (ndB_rep hnd k6).1; omega)) n z h
    split at h
    · rename_i k7
      exact ih 0 (by have := ndB_grp hnd k7; omega) z h
    · rw [h]
      exact Wel.nil
theorem gd_of {s : ByteArray} : ∀ (f i : Nat) (rs : List Int), (∀ r ∈ rs, isRune r = true) → s.data.toList.drop i = encL rs → gdF s f i
  | 0, _, _, _, _ => trivial
  | f + 1, i, rs, hr, he => by
    intro hi
    cases rs with
    | nil =>
      have := congrArg List.length he
      rw [List.length_drop, size_len] at this
      simp [encL] at this
      omega
    | cons r rs =>
      have hc : encL (r :: rs) = (Utf8.encode r).data.toList ++ encL rs := by unfold encL; simp
      rw [hc] at he
      obtain ⟨_, a2, a3⟩ := rn_enc (hr r (by simp)) (⟨encL rs, he.symm⟩ : Bg s i (Utf8.encode r).data.toList)
      refine ⟨a3, gd_of f _ rs (fun x hx => hr x (by simp [hx])) ?_⟩
      rw [a2, ← List.drop_drop, he, ← size_len, List.drop_left]
theorem Wel.gd {s : ByteArray} (h : Wel s.data.toList) (f : Nat) : gdF s f 0 := by
  obtain ⟨rs, h1, h2⟩ := h
  exact gd_of f 0 rs h1 (by rw [List.drop_zero]; exact h2)
end Go.Proofs.Ytbciclnffokjjaa
