/- A bundle of texts. -/
import Derived.Test.YtbciclnffokjjaaBm26
import Derived.Test.YtbciclnffokjjaaBm01
import Derived.SizedLaws
import Derived.ProofKit
import Derived.OpenShut
import Derived.ChangeSlices
import Derived.ChangeSame
import Derived.ChangeOld
import Derived.Carry
import Derived.Deep.Slices
/- What all texts of a tree begin with. -/
namespace Go.Proofs.Ytbciclnffokjjaa
open Go.RowKit

theorem enc_bytes (r : Int) : (Utf8.encode r).data.toList = Lib.encodeRune r := by
  have hv : Utf8.valid r = decide ((0 ≤ r ∧ r < 55296) ∨ (57343 < r ∧ r ≤ 1114111)) := by
    unfold Utf8.valid
    rw [Bool.eq_iff_iff]
    simp
    try omega
  unfold Utf8.encode Lib.encodeRune
  by_cases h : (0 ≤ r ∧ r < 55296) ∨ (57343 < r ∧ r ≤ 1114111)
  · rw [hv, decide_eq_true h]
    obtain ⟨n, rfl⟩ : ∃ n : Nat, r = (n : Int) := ⟨r.toNat, by omega⟩
    by_cases h1 : (n : Int) ≤ 127
    · rw [Lib.encodeRuneZ_one (by omega) h1]
      have : n < 128 := by omega
      simp [this]
    · by_cases h2 : (n : Int) ≤ 2047
      · rw [Lib.encodeRuneZ_two (by omega) h2]
        have a : ¬ n < 128 := by omega
        have b : n < 2048 := by omega
        have z1 : (192 + (n : Int) / 64).toNat = 192 + n / 64 := by omega
        have z2 : (128 + (n : Int) % 64).toNat = 128 + n % 64 := by omega
        simp [a, b, z1, z2]
      · by_cases h3 : (n : Int) ≤ 65535
        · rw [Lib.encodeRuneZ_three (by omega)]
          have a : ¬ n < 128 := by omega
          have b : ¬ n < 2048 := by omega
          have c : n < 65536 := by omega
          have z1 : (224 + (n : Int) / 4096).toNat = 224 + n / 4096 := by omega
          have z2 : (128 + (n : Int) / 64 % 64).toNat = 128 + n / 64 % 64 := by omega
          have z3 : (128 + (n : Int) % 64).toNat = 128 + n % 64 := by omega
          simp [a, b, c, z1, z2, z3]
        · rw [Lib.encodeRuneZ_four (by omega) (by omega)]
          have a : ¬ n < 128 := by omega
          have b : ¬ n < 2048 := by omega
          have c : ¬ n < 65536 := by omega
          have z0 : (240 + (n : Int) / 262144).toNat = 240 + n / 262144 := by omega
          have z1 : (128 + (n : Int) / 4096 % 64).toNat = 128 + n / 4096 % 64 := by omega
          have z2 : (128 + (n : Int) / 64 % 64).toNat = 128 + n / 64 % 64 := by omega
          have z3 : (128 + (n : Int) % 64).toNat = 128 + n % 64 := by omega
          simp [a, b, c, z0, z1, z2, z3]
  · rw [hv, decide_eq_false h]
    have a : ¬ (0 ≤ r ∧ r ≤ 127) := by omega
    have b : ¬ (128 ≤ r ∧ r ≤ 2047) := by omega
    have c : ¬ ((2048 ≤ r ∧ r < 55296) ∨ (57343 < r ∧ r ≤ 65535)) := by omega
    have d : ¬ (65536 ≤ r ∧ r ≤ 1114111) := by omega
    unfold Lib.encodeRuneZ
    rw [if_neg a, if_neg b, if_neg c, if_neg d]
    simp [Utf8.runeError]
theorem size_len (a : ByteArray) : a.data.toList.length = a.size := by rw [Array.length_toList]; rfl
/-- The text has the bytes l from i on. -/
def Bg (s : ByteArray) (i : Nat) (l : List UInt8) : Prop := l <+: s.data.toList.drop i
theorem Bg.nil (s : ByteArray) (i : Nat) : Bg s i [] := List.nil_prefix
theorem Bg.app {s : ByteArray} {i : Nat} {l m : List UInt8} (h : Bg s i l) (h' : Bg s (i + l.length) m) : Bg s i (l ++ m) := by
  obtain ⟨r, hr⟩ := h
  obtain ⟨q, hq⟩ := h'
  refine ⟨q, ?_⟩
  rw [← List.drop_drop, ← hr, List.drop_left] at hq
  rw [List.append_assoc, hq, hr]
theorem Bg.sub {s : ByteArray} {i : Nat} {l m : List UInt8} (h : Bg s i l) (h' : m <+: l) : Bg s i m := h'.trans h
/-- A rune that is well formed stands there in its form. -/
theorem rn_bg {s : ByteArray} {i : Nat} (hi : i < s.size) (hb : rnBad s i = false) : Bg s i (Utf8.encode (rnR s i)).data.toList := by
  have hex : ∀ j, (s.extract i j).data.toList = (s.data.toList.drop i).take (j - i) := fun j => by
    rw [ByteArray.data_extract, Array.toList_extract, List.extract_eq_take_drop]
  by_cases h : rnR s i = 65533
  · unfold rnBad at hb
    rw [Bool.and_eq_false_iff] at hb
    rcases hb with hb | hb
    · rw [h] at hb
      exact absurd hb (by decide)
    · have hb2 := (Bool.or_eq_false_iff.1 hb).2
      rw [toList_eq] at hb2
      have e : (s.extract i (i + (Utf8.encode (rnR s i)).size)).data.toList = (Utf8.encode (rnR s i)).data.toList := by
        rw [show s.extract i (i + (Utf8.encode (rnR s i)).size) = Utf8.encode (rnR s i) by simpa using hb2]
      rw [← e, hex]
      exact List.take_prefix _ _
  · have hlen : (s.extract i s.size).data.toList.length = s.size - i := by
      have : (s.extract i s.size).size = s.size - i := by simp
      rw [← this, Array.length_toList]
      rfl
    have hall : (s.extract i s.size).data.toList = s.data.toList.drop i := by
      rw [hex, List.take_of_length_le (by rw [List.length_drop, size_len]; exact Nat.le_refl _)]
    obtain ⟨l, hl⟩ : ∃ l, l = (s.extract i s.size).data.toList := ⟨_, rfl⟩
    have hd : Utf8.decode (s.extract i s.size) 0 = Lib.decodeL l := by rw [hl]; rfl
    have hne : l ≠ [] := fun e => by rw [← hl, e] at hlen; simp at hlen; omega
    have hr : rnR s i = ((Lib.decodeL l).1 : Int) := by unfold rnR; rw [hd]
    have hed := Lib.encode_decode l hne (fun e => h (by rw [hr, e.1]; rfl))
    unfold Bg
    rw [enc_bytes, hr, hed, ← hall, ← hl]
    exact List.take_prefix _ _
theorem tk_bg {s : ByteArray} {r : Int} {i j : Nat} (h : TkR s [(r, r)] i j) : Bg s i (Utf8.encode r).data.toList ∧ j = i + (Utf8.encode r).data.toList.length := by
  obtain ⟨h1, h2, ⟨x, hx, h3, h4⟩, h5⟩ := h
  rcases List.mem_singleton.1 hx with rfl
  have e : rnR s i = r := by dsimp only at h3 h4; omega
  rw [← e]
  exact ⟨rn_bg h1 h2, by rw [h5, size_len]⟩
/-- A front: a text, and whether it is all. -/
abbrev Fr := List UInt8 × Bool
def rowF (G : Nat → Fr) : Nat → Fr
  | 0 => ([], true)
  | n + 1 => if (rowF G n).2 = true then ((rowF G n).1 ++ (G n).1, (G n).2) else rowF G n
def comF (C : List UInt8 → List UInt8 → List UInt8) (G : Nat → Fr) : Nat → Fr
  | 0 => G 0
  | n + 1 => (C (comF C G n).1 (G (n + 1)).1, (comF C G n).2 && (G (n + 1)).2 && ((G (n + 1)).1 == (comF C G n).1))
def timL (l : List UInt8) : Nat → List UInt8
  | 0 => []
  | n + 1 => timL l n ++ l
theorem timL_len (l : List UInt8) : ∀ n, (timL l n).length = n * l.length
  | 0 => by simp [timL]
  | n + 1 => by unfold timL; rw [List.length_append, timL_len l n, Nat.add_mul, Nat.one_mul]
def repF (k : Fr) (mn mx : Int) : Fr :=
  if mx = 0 then ([], true)
  else if mn = 0 then ([], k.2 && k.1 == [])
  else if k.2 = false then k
  else (timL k.1 mn.toNat, (k.2 && k.1 == []) || mx == mn)
def frF (C : List UInt8 → List UInt8 → List UInt8) : Nat → Tr → Fr
  | 0, _ => ([], false)
  | m + 1, t =>
    if (t []).kind = 2 then (if Utf8.valid (t []).r = true then ((Utf8.encode (t []).r).data.toList, true) else ([], false))
    else if (t []).kind = 3 then ([], false)
    else if (t []).kind = 4 then rowF (fun q => frF C m (kid t q)) (t []).kn
    else if (t []).kind = 5 then comF C (fun q => frF C m (kid t q)) ((t []).kn - 1)
    else if (t []).kind = 6 then repF (frF C m (kid t 0)) (t []).mn (t []).mx
    else if (t []).kind = 7 then frF C m (kid t 0)
    else ([], true)
/-- A front holds of what is taken from i to j. -/
def FrOk (s : ByteArray) (f : Fr) (i j : Nat) : Prop := Bg s i f.1 ∧ (f.2 = true → j = i + f.1.length)
theorem row_ok {s : ByteArray} {G : Nat → Fr} {M : Nat → Nat → Nat → Prop} : ∀ n, (∀ q, q < n → ∀ i j, M q i j → FrOk s (G q) i j) → ∀ i j, catM M n i j → FrOk s (rowF G n) i j
  | 0, _, i, j, h => ⟨Bg.nil s i, fun _ => by have e : i = j := h; simp [rowF, e]⟩
  | n + 1, h, i, j, ⟨k, h1, h2⟩ => by
    have ih := row_ok n (fun q hq => h q (by omega)) i k h1
    have hn := h n (by omega) k j h2
    unfold rowF
    by_cases hb : (rowF G n).2 = true
    · rw [if_pos hb]
      have e := ih.2 hb
      subst e
      refine ⟨ih.1.app hn.1, fun hx => ?_⟩
      rw [hn.2 hx, List.length_append, Nat.add_assoc]
    · rw [if_neg hb]
      exact ⟨ih.1, fun hx => absurd hx hb⟩
theorem com_sub {C : List UInt8 → List UInt8 → List UInt8} (hC : ∀ a b, C a b <+: a ∧ C a b <+: b) (hCC : ∀ a, C a a = a) {G : Nat → Fr} : ∀ n q, q ≤ n → (comF C G n).1 <+: (G q).1 ∧ ((comF C G n).2 = true → (G q).2 = true ∧ (G q).1 = (comF C G n).1)
  | 0, q, hq => by
    have : q = 0 := by omega
    subst this
    exact ⟨List.prefix_refl _, fun h => ⟨h, rfl⟩⟩
  | n + 1, q, hq => by
    have hx : (comF C G (n + 1)).2 = true → (comF C G n).2 = true ∧ (G (n + 1)).2 = true ∧ (G (n + 1)).1 = (comF C G n).1 := fun h => by
      unfold comF at h
      simp at h
      exact ⟨h.1.1, h.1.2, h.2⟩
    have he : (comF C G (n + 1)).2 = true → (comF C G (n + 1)).1 = (comF C G n).1 := fun h => by
      show C _ _ = _
      rw [(hx h).2.2, hCC]
    by_cases e : q = n + 1
    · subst e
      exact ⟨(hC _ _).2, fun h => ⟨(hx h).2.1, by rw [he h]; exact (hx h).2.2⟩⟩
    · have ih := com_sub hC hCC (G := G) n q (by omega)
      refine ⟨(hC _ _).1.trans ih.1, fun h => ?_⟩
      have := ih.2 (hx h).1
      exact ⟨this.1, by rw [he h]; exact this.2⟩
theorem it_bg {s : ByteArray} {K : Nat → Nat → Prop} {l : List UInt8} (h : ∀ i j, K i j → Bg s i l ∧ j = i + l.length) : ∀ n i j, itM K n i j → Bg s i (timL l n) ∧ j = i + n * l.length
  | 0, i, j, hm => ⟨Bg.nil s i, by have e : i = j := hm; simp [e]⟩
  | n + 1, i, j, hm => by
    obtain ⟨k, h1, h2⟩ := itM_snoc.1 hm
    obtain ⟨b1, e1⟩ := it_bg h n i k h1
    obtain ⟨b2, e2⟩ := h k j h2
    refine ⟨?_, by rw [e2, e1, Nat.add_mul, Nat.one_mul, Nat.add_assoc]⟩
    unfold timL
    refine b1.app ?_
    rw [timL_len, ← e1]
    exact b2
theorem timL_pre (l : List UInt8) (n : Nat) : ∀ d, timL l n <+: timL l (n + d)
  | 0 => List.prefix_refl _
  | d + 1 => (timL_pre l n d).trans (List.prefix_append _ _)
theorem rep_ok {s : ByteArray} {k : Fr} {K : Nat → Nat → Prop} (h : ∀ i j, K i j → FrOk s k i j) (mn mx : Int) (h0 : 0 ≤ mn) {n i j : Nat} (h1 : mn ≤ n) (h2 : mx = -1 ∨ (n : Int) ≤ mx) (hm : itM K n i j) : FrOk s (repF k mn mx) i j := by
  unfold repF
  by_cases c1 : mx = 0
  · rw [if_pos c1]
    have : n = 0 := by omega
    subst this
    have e : i = j := hm
    exact ⟨Bg.nil s i, fun _ => by simp [e]⟩
  rw [if_neg c1]
  have hz : (k.2 && k.1 == []) = true → j = i := fun hz => by
    simp at hz
    have := (it_bg (l := k.1) (fun i j hk => ⟨(h i j hk).1, (h i j hk).2 hz.1⟩) n i j hm).2
    rw [this, hz.2]
    simp
  by_cases c2 : mn = 0
  · rw [if_pos c2]
    exact ⟨Bg.nil s i, fun hx => by rw [hz hx]; simp⟩
  rw [if_neg c2]
  by_cases c3 : k.2 = false
  · rw [if_pos c3]
    obtain ⟨n', rfl⟩ : ∃ n', n = n' + 1 := ⟨n - 1, by omega⟩
    obtain ⟨q, hq, _⟩ := hm
    exact ⟨(h i q hq).1, fun hx => by rw [c3] at hx; cases hx⟩
  rw [if_neg c3]
  have c3' : k.2 = true := by simpa using c3
  obtain ⟨b, e⟩ := it_bg (l := k.1) (fun i j hk => ⟨(h i j hk).1, (h i j hk).2 c3'⟩) n i j hm
  refine ⟨b.sub ?_, fun hx => ?_⟩
  · have := timL_pre k.1 mn.toNat (n - mn.toNat)
    rwa [show mn.toNat + (n - mn.toNat) = n by omega] at this
  · rw [Bool.or_eq_true] at hx
    dsimp only
    rw [timL_len]
    rcases hx with hx | hx
    · rw [hz hx]
      simp at hx
      simp [hx.2]
    · have hx' : mx = mn := by simpa using hx
      rw [e, show mn.toNat = n by omega]
/-- All that a tree takes begins with its front. -/
theorem fr_ok {C : List UInt8 → List UInt8 → List UInt8} (hC : ∀ a b, C a b <+: a ∧ C a b <+: b) (hCC : ∀ a, C a a = a) {s : ByteArray} : ∀ (m : Nat) (t : Tr), WF m t → ∀ i j, Mn s m t i j → FrOk s (frF C m t) i j
  | 0, _, h, _, _, _ => by cases h
  | m + 1, t, hw, i, j, hm => by
    obtain ⟨⟨hnd, _⟩, _, hk⟩ := hw
    have hkd := ndB_kind hnd
    unfold Mn at hm
    unfold frF
    by_cases k2 : (t []).kind = 2
    · rw [if_pos k2] at hm ⊢
      split
      · exact ⟨(tk_bg hm).1, fun _ => (tk_bg hm).2⟩
      · exact ⟨Bg.nil s i, fun h => by cases h⟩
    rw [if_neg k2] at hm ⊢
    by_cases k3 : (t []).kind = 3
    · rw [if_pos k3]
      exact ⟨Bg.nil s i, fun h => by cases h⟩
    rw [if_neg k3] at hm ⊢
    by_cases k4 : (t []).kind = 4
    · rw [if_pos k4] at hm ⊢
      exact row_ok _ (fun q hq i j h => fr_ok hC hCC m _ (hk q hq) i j h) i j hm
    rw [if_neg k4] at hm ⊢
    by_cases k5 : (t []).kind = 5
    · rw [if_pos k5] at hm ⊢
      obtain ⟨q, hq, hm⟩ := hm
      have ho := fr_ok hC hCC m _ (hk q hq) i j hm
      obtain ⟨c1, c2⟩ := com_sub hC hCC (G := fun q => frF C m (kid t q)) ((t []).kn - 1) q (by omega)
      refine ⟨ho.1.sub c1, fun hx => ?_⟩
      obtain ⟨d1, d2⟩ := c2 hx
      rw [← d2]
      exact ho.2 d1
    rw [if_neg k5] at hm ⊢
    by_cases k6 : (t []).kind = 6
    · rw [if_pos k6] at hm ⊢
      have h6 := ndB_rep hnd k6
      obtain ⟨n, h1, h2, hm⟩ := hm
      exact rep_ok (fun i j h => fr_ok hC hCC m _ (hk 0 (by omega)) i j h) _ _ (by omega) h1 h2 hm
    rw [if_neg k6] at hm ⊢
    by_cases k7 : (t []).kind = 7
    · rw [if_pos k7] at hm ⊢
      have h7 := ndB_grp hnd k7
      exact fr_ok hC hCC m _ (hk 0 (by omega)) i j hm
    rw [if_neg k7] at hm ⊢
    have e : j = i := by
      split at hm
      · exact hm.2
      split at hm
      · exact hm.2
      · exact hm.symm
    exact ⟨Bg.nil s i, fun _ => by simp [e]⟩
end Go.Proofs.Ytbciclnffokjjaa
/- RxprogSounds: a program that came in. -/
namespace Go.Proofs.Ytbciclnffokjjaa
open Go.ChangeShapes Go.WideShapes Go.ChangeAt Go.RowKit

theorem own : ownKnob Try.prog.godebug = none := by kernel_rfl
theorem laidOut : laidOutB Try.prog = true := by kernel_rfl
theorem weights_all {H : Type} {P : Program} {e : TypeId} {d : DataW H} : ∀ {es : List (DataW H)}, d ∈ es → ∀ n ∈ d.weights P e, n ∈ DataW.weightsAll P e es
  | [], h, _, _ => by cases h
  | d0 :: es, h, n, hn => by
    simp only [DataW.weightsAll, List.mem_append]
    rcases List.mem_cons.1 h with rfl | h
    · exact .inl hn
    · exact .inr (weights_all h n hn)
theorem weights_elem {H : Type} {P : Program} {t e : TypeId} {es ss : List (DataW H)} {d : DataW H} (hu : P.underlying t = some (.slice e)) (hd : d ∈ es) (n : Nat) (hn : n ∈ d.weights P e) : n ∈ (DataW.slice es ss : DataW H).weights P t := by
  simp only [DataW.weights, hu, List.mem_cons, List.mem_append]
  exact .inr (.inl (weights_all hd n hn))

set_option maxRecDepth 100000 in
theorem ranges_open {H : Type} {enc : TypeId × Value → H} {W : World} {v : Value} {d : DataW H} {p : List MemPlace} {fuel : Nat}
    (hf : DataW.trod enc Try.prog W 0 (fun _ => true) true fuel 27 [v] = some (d, p)) (hz : ∀ n ∈ d.weights Try.prog 27, n ≤ reachBytes) :
    ∃ (a : Option Addr) (len cap : Nat) (f : Nat → Rg), v = .slice a len cap ∧ Rml W a f len ∧ len * 8 ≤ 140737488351232 ∧ (a = none → len = 0 ∧ cap = 0) := by
  rcases Go.Deep.open_slice Try.underlying27 hf with ⟨hcs, _⟩ | ⟨x, l, c, m, n, D, Pl, hcs, _, hl, hm, hmm, hd, hall⟩
  · simp at hcs
    exact ⟨none, 0, 0, fun _ => (0, 0), hcs, .inl rfl, by omega, fun _ => ⟨rfl, rfl⟩⟩
  · simp at hcs
    have hm' : m = c := by simpa using hmm
    subst hm'
    obtain ⟨rfl, _⟩ := Prod.mk.inj hd
    have hC : Try.prog.cellsOf 50 = 2 := by kernel_rfl
    have each : ∀ i, i < m → ∃ u : Rg, W.cell? (x.add (i * 2)) = some (.int .i32 u.1) ∧ W.cell? (x.add (i * 2 + 1)) = some (.int .i32 u.2) := by
      intro i hi
      obtain ⟨cs', h1, h2⟩ := hall i hi
      rw [hC] at h1
      obtain ⟨_, hlen, hcell⟩ := World.cells?_some h1
      obtain ⟨xs, k, hk, hxy, _, hxl, hff⟩ := DataW.trod_struct Try.underlying50 h2
      match xs, hxl, cs', hlen with
      | [y0, y1], _, [v0, v1], _ =>
        have g0 := hff 0 _ rfl
        have g1 := hff 1 _ rfl
        have c3 : Try.prog.cellsOf 21 = 1 := by kernel_rfl
        simp [c3] at g0 g1
        obtain ⟨t, e0, _, _⟩ := DataW.trod_int Try.underlying21 g0
        obtain ⟨s, e1, _, _⟩ := DataW.trod_int Try.underlying21 g1
        have q0 := hcell 0 (by omega)
        have q1 := hcell 1 (by omega)
        rw [Go.Deep.add_add] at q0 q1
        have w0 : v0 = .int .i32 t := by simpa using e0
        have w1 : v1 = .int .i32 s := by simpa using e1
        rw [w0, w1] at q0 q1
        exact ⟨(t, s), by simpa using q0, by simpa using q1⟩
    have hI : Inhabited Rg := ⟨(0, 0)⟩
    obtain ⟨ss, hss⟩ := Go.Deep.choose_lt each
    refine ⟨some x, l, m, ss, hcs, ?_, ?_, fun h => by cases h⟩
    · by_cases h0 : l = 0
      · exact .inl h0
      · right
        obtain ⟨g, o, sp⟩ := x
        have hsp : sp = none := by
          have := (hss 0 (by omega)).1
          simpa [Addr.add] using World.cell?_spot this
        subst hsp
        have h00 := (hss 0 (by omega)).1
        rw [Go.WideShapes.add_plain] at h00
        refine ⟨g, o, rfl, block_lt_of_cell h00, fun j hj => ?_⟩
        obtain ⟨q0, q1⟩ := hss j (by omega)
        rw [Go.WideShapes.add_plain] at q0 q1
        exact ⟨q0, by rw [Nat.add_assoc]; exact q1⟩
    · have hb : Try.prog.bytesOf 50 = 8 := by kernel_rfl
      have hr : reachBytes = 140737488351232 := by decide
      have := hz ((((List.range l).map D).length + ((List.range (m - l)).map fun j => D (l + j)).length) * 8) (by
        simp only [DataW.weights, Try.underlying27, hb]
        exact List.mem_cons.2 (.inl rfl))
      simp at this
      omega

end Go.Proofs.Ytbciclnffokjjaa
/- A tree that came in. -/
namespace Go.Proofs.Ytbciclnffokjjaa
open Go.ChangeShapes Go.WideShapes Go.ChangeAt Go.RowKit

abbrev ndC (d : Nd) : List Value := [.int .i64 d.kind, .int .i32 d.r, .slice d.ra d.rn d.rc, .int .i64 d.mn, .int .i64 d.mx, .bool d.lz, .int .i64 d.cp, .string d.nm, .slice d.ka d.kn d.kc]
def nd0 : Nd := ⟨0, 0, none, 0, 0, fun _ => (0, 0), 0, 0, false, 0, ByteArray.empty, none, 0, 0⟩
/-- A node on top of trees. -/
def topT (d : Nd) (T : Nat → Tr) : Tr
  | [] => d
  | j :: p => T j p
theorem Rml.b {W : World} {a : Option Addr} {f : Nat → Rg} {n : Nat} (h : Rml W a f n) : Rmb W.heap.size W a f n := by
  rcases h with h | ⟨g, o, e, hg, hc⟩
  · exact .inl h
  · exact .inr ⟨g, o, e, hg, hc⟩
theorem topT_at {W : World} {B : Nat} {d : Nd} {T : Nat → Tr} (h : d.rn * 8 ≤ 140737488351232 ∧ d.kn * 8 ≤ 140737488351232 ∧ d.nm.size ≤ 140737488351232 ∧ d.kn ≤ d.kc) (hr : Rmb B W d.ra d.rf d.rn) (hk : Kmb B W d.ka (fun j => T j []) d.kn) (hT : ∀ j, j < d.kn → Tat B W (T j)) : Tat B W (topT d T) := by
  intro n
  cases n with
  | zero => exact trivial
  | succ n => exact ⟨h, hr, hk, fun j hj => hT j hj n⟩

set_option maxRecDepth 100000 in
set_option maxHeartbeats 2000000 in
theorem tree_open {H : Type} {enc : TypeId × Value → H} {W : World} : ∀ (fuel : Nat) (cs : List Value) (d : DataW H) (p : List MemPlace), DataW.trod enc Try.prog W 0 (fun _ => true) true fuel 33 cs = some (d, p) → (∀ n ∈ d.weights Try.prog 33, n ≤ reachBytes) → ∃ t : Tr, cs = ndC (t []) ∧ Tat W.heap.size W t := by
  intro fuel
  induction fuel using Nat.strongRecOn with
  | ind fuel ih =>
    intro cs d p hf hz
    have hlen := (DataW.trod_struct Try.underlying33 hf)
    obtain ⟨xs, k, hk, hxy, hcl, hxl, hff⟩ := hlen
    have hC : Try.prog.cellsOf 33 = 9 := by kernel_rfl
    rw [hC] at hcl
    match xs, hxl, cs, hcl with
    | [y0, y1, y2, y3, y4, y5, y6, y7, y8], _, [v0, v1, v2, v3, v4, v5, v6, v7, v8], _ =>
      have g0 := hff 0 _ rfl
      have g1 := hff 1 _ rfl
      have g2 := hff 2 _ rfl
      have g3 := hff 3 _ rfl
      have g4 := hff 4 _ rfl
      have g5 := hff 5 _ rfl
      have g6 := hff 6 _ rfl
      have g7 := hff 7 _ rfl
      have g8 := hff 8 _ rfl
      have c3 : Try.prog.cellsOf 3 = 1 := by kernel_rfl
      have c21 : Try.prog.cellsOf 21 = 1 := by kernel_rfl
      have c27 : Try.prog.cellsOf 27 = 1 := by kernel_rfl
      have c4 : Try.prog.cellsOf 4 = 1 := by kernel_rfl
      have c9 : Try.prog.cellsOf 9 = 1 := by kernel_rfl
      have c31 : Try.prog.cellsOf 31 = 1 := by kernel_rfl
      simp [c3] at g0 g3 g4 g6
      simp [c21] at g1
      simp [c27] at g2
      simp [c4] at g5
      simp [c9] at g7
      simp [c31] at g8
      obtain ⟨t0, e0, _, _⟩ := DataW.trod_int Try.underlying3 g0
      obtain ⟨t1, e1, _, _⟩ := DataW.trod_int Try.underlying21 g1
      obtain ⟨t3, e3, _, _⟩ := DataW.trod_int Try.underlying3 g3
      obtain ⟨t4, e4, _, _⟩ := DataW.trod_int Try.underlying3 g4
      obtain ⟨t5, e5, _⟩ := DataW.trod_bool Try.underlying4 g5
      obtain ⟨t6, e6, _, _⟩ := DataW.trod_int Try.underlying3 g6
      obtain ⟨t7, e7, x7, _⟩ := DataW.trod_string Try.underlying9 g7
      obtain ⟨d2, p2⟩ := y2
      obtain ⟨d7, p7⟩ := y7
      obtain ⟨d8, p8⟩ := y8
      have hD : d = .agg ([y0, y1, (d2, p2), y3, y4, y5, y6, (d7, p7), (d8, p8)].map (·.1)) := (Prod.mk.inj hxy).1
      have hr : reachBytes = 140737488351232 := by decide
      have hw : ∀ (j : Nat) (ty : TypeId) (dd : DataW H), [3, 21, 27, 3, 3, 4, 3, 9, 31][j]? = some ty → ([y0, y1, (d2, p2), y3, y4, y5, y6, (d7, p7), (d8, p8)].map (·.1))[j]? = some dd → ∀ n ∈ dd.weights Try.prog ty, n ≤ reachBytes := fun j ty dd h1 h2 n hn => by
        refine hz n ?_
        rw [hD]
        simp only [DataW.weights, Try.underlying33]
        exact DataW.weights_mem_each (j := j) (t := ty) (d := dd) h1 h2 n hn
      obtain ⟨ra, rn, rc, rf, ev, hR, hRb, _⟩ := ranges_open g2 (hw 2 27 d2 rfl rfl)
      have h7 : t7.size ≤ 140737488351232 := by
        have := hw 7 9 d7 rfl rfl t7.data.toList.length (by
          rw [(Prod.mk.inj x7).1]
          simp [DataW.weights])
        rw [size_len, hr] at this
        exact this
      have w0 : v0 = .int .i64 t0 := by simpa using e0
      have w1 : v1 = .int .i32 t1 := by simpa using e1
      have w3 : v3 = .int .i64 t3 := by simpa using e3
      have w4 : v4 = .int .i64 t4 := by simpa using e4
      have w5 : v5 = .bool t5 := by simpa using e5
      have w6 : v6 = .int .i64 t6 := by simpa using e6
      have w7 : v7 = .string t7 := by simpa using e7
      rcases DataW.trod_slice Try.underlying31 g8 with ⟨hcs, _⟩ | ⟨x, l, c, elems, rest, n, hn, hcs, hx8, _, hl, _, hel, hal, _⟩
      · have w8 : v8 = .slice none 0 0 := by simpa using hcs
        refine ⟨topT ⟨t0, t1, ra, rn, rc, rf, t3, t4, t5, t6, t7, none, 0, 0⟩ (fun _ _ => nd0), ?_, topT_at ⟨hRb, by dsimp only; omega, h7, Nat.le_refl _⟩ hR.b (.inl rfl) (fun j hj => absurd hj (Nat.not_lt_zero _))⟩
        rw [w0, w1, w3, w4, w5, w6, w7, w8, ev]
        rfl
      · have w8 : v8 = .slice (some x) l c := by simpa using hcs
        have hkn : l * 8 ≤ 140737488351232 := by
          have hb : Try.prog.bytesOf 33 = 112 := by kernel_rfl
          have := hw 8 31 d8 rfl rfl ((elems.length + rest.length) * 112) (by
            rw [(Prod.mk.inj hx8).1]
            simp only [DataW.weights, Try.underlying31, hb, List.length_map]
            exact List.mem_cons.2 (.inl rfl))
          rw [hr] at this
          omega
        have each : ∀ i, i < l → ∃ u : Tr, (∃ cs', W.cells? 0 (x.add (i * 9)) 9 = some cs' ∧ cs' = ndC (u [])) ∧ Tat W.heap.size W u := by
          intro i hi
          have h1 := hal i hi
          rw [hC, List.getElem?_eq_getElem (by omega : i < elems.length)] at h1
          obtain ⟨cs', h2, h3⟩ := Option.bind_eq_some_iff.1 h1
          obtain ⟨u, hu, hT⟩ := ih n (by omega) cs' elems[i].1 elems[i].2 h3 (fun q hq => by
            refine hw 8 31 d8 rfl rfl q ?_
            rw [(Prod.mk.inj hx8).1]
            exact weights_elem Try.underlying31 (List.mem_map.2 ⟨elems[i], List.getElem_mem _, rfl⟩) q hq)
          exact ⟨u, ⟨cs', h2, hu⟩, hT⟩
        have hI : Inhabited Tr := ⟨fun _ => nd0⟩
        obtain ⟨T, hT⟩ := Go.Deep.choose_lt each
        have hcell : ∀ j, j < l → ∀ q v, q < 9 → (ndC (T j []))[q]? = some v → W.cell? (x.add (j * 9 + q)) = some v := fun j hj q v hq hv => by
          obtain ⟨⟨cs', h1, h2⟩, _⟩ := hT j hj
          obtain ⟨_, hln, hce⟩ := World.cells?_some h1
          have := hce q (by omega)
          rw [Go.Deep.add_add] at this
          rw [this]
          subst h2
          simpa using hv
        refine ⟨topT ⟨t0, t1, ra, rn, rc, rf, t3, t4, t5, t6, t7, some x, l, c⟩ T, ?_, topT_at ⟨hRb, hkn, h7, hl⟩ hR.b ?_ (fun j hj => (hT j hj).2)⟩
        · rw [w0, w1, w3, w4, w5, w6, w7, w8, ev]
          rfl
        · by_cases h0 : l = 0
          · exact .inl h0
          · right
            obtain ⟨g, o, sp⟩ := x
            have hc0 := hcell 0 (by omega) 0 _ (by omega) rfl
            have hsp : sp = none := by simpa [Addr.add] using World.cell?_spot hc0
            subst hsp
            rw [Go.WideShapes.add_plain] at hc0
            refine ⟨g, o, rfl, block_lt_of_cell hc0, fun j hj => ?_⟩
            have hc : ∀ q v, q < 9 → (ndC (T j []))[q]? = some v → W.cell? ⟨g, o + j * 9 + q, none⟩ = some v := fun q v hq hv => by
              have := hcell j hj q v hq hv
              rw [Go.WideShapes.add_plain] at this
              rw [Nat.add_assoc]
              exact this
            exact ⟨hc 0 _ (by omega) rfl, hc 1 _ (by omega) rfl, hc 2 _ (by omega) rfl, hc 3 _ (by omega) rfl, hc 4 _ (by omega) rfl, hc 5 _ (by omega) rfl, hc 6 _ (by omega) rfl, hc 7 _ (by omega) rfl, hc 8 _ (by omega) rfl⟩
end Go.Proofs.Ytbciclnffokjjaa
