/- A bundle of texts. -/
import Derived.Test.YtbciclnffokjjaaDoorBb03
import Derived.Test.YtbciclnffokjjaaDoorBb32
import Derived.Test.YtbciclnffokjjaaDoorBb24
/- Texts with which two texts begin. -/
namespace Go.Proofs.YtbciclnffokjjaaDoor
open Go.RowKit

theorem extr_list (a : ByteArray) (p : Nat) : (a.extract p a.size).data.toList = a.data.toList.drop p := by
  rw [ByteArray.data_extract, Array.toList_extract, List.extract_eq_take_drop, List.take_of_length_le (by rw [List.length_drop, size_len]; exact Nat.le_refl _)]
/-- A rune that begins at a place stands there in its form. -/
theorem rune_form (a : ByteArray) (p : Nat) (h : p < a.size) (hg : good a p) : Lib.encodeRune ((Utf8.decode a p).1 : Int) = (a.data.toList.drop p).take (Utf8.decode a p).2 ∧ (Lib.encodeRune ((Utf8.decode a p).1 : Int)).length = (Utf8.decode a p).2 := by
  have hd : Lib.decodeL (a.data.toList.drop p) = Utf8.decode a p := by
    rw [← extr_list, ← decode_extract a p]
    rfl
  have hne : a.data.toList.drop p ≠ [] := fun e => by
    have := congrArg List.length e
    rw [List.length_drop, size_len] at this
    simp at this
    omega
  have hed := Lib.encode_decode (a.data.toList.drop p) hne (by rw [hd]; exact hg)
  rw [hd] at hed
  refine ⟨hed, ?_⟩
  have hs := dec_size a p h
  rw [hed, List.length_take, List.length_drop, size_len]
  omega
theorem cmF_pre (a b : ByteArray) : ∀ f p, a.size ≤ p + f → vld a f p = true → a.data.toList.take p <+: b.data.toList → a.data.toList.take (cmF a b f p) <+: b.data.toList
  | 0, p, hf, _, hp => by
    show a.data.toList.take a.size <+: _
    rw [← size_len, List.take_length]
    rwa [List.take_of_length_le (by rw [size_len]; omega)] at hp
  | f + 1, p, hf, hv, hp => by
    by_cases hlt : p < a.size
    · obtain ⟨hg, hv'⟩ := (vld_step a f p hlt).1 hv
      have hz := (good_iff a p hlt).1 hg
      have hw := (decode_width a p).1
      unfold cmF
      rw [if_pos ⟨hlt, hz⟩]
      by_cases he : (nxt b p).1 = (nxt a p).1
      · rw [if_pos he]
        refine cmF_pre a b f _ (by omega) hv' ?_
        obtain ⟨_, n2⟩ := nxt_width a p hz
        have hb2 : (nxt b p).2 ≠ 0 := fun e => by
          have : (nxt b p).1 = -1 := by
            unfold nxt at e ⊢
            split
            · rename_i hl
              rw [if_pos hl] at e
              split
              · rfl
              · rename_i hn
                rw [if_neg hn] at e
                have := (decode_width b p).1
                simp at e
                omega
            · rfl
          rw [this, n2] at he
          omega
        have hlb : p < b.size := by
          rcases Nat.lt_or_ge p b.size with h | h
          · exact h
          · rw [nxt_out b p h] at hb2
            exact absurd rfl hb2
        have hgb := (good_iff b p hlb).2 hb2
        obtain ⟨_, m2⟩ := nxt_width b p hb2
        have hr : (Utf8.decode a p).1 = (Utf8.decode b p).1 := by rw [m2, n2] at he; omega
        obtain ⟨fa, la⟩ := rune_form a p hlt hg
        obtain ⟨fb, lb⟩ := rune_form b p hlb hgb
        rw [← hr] at fb lb
        have hww : (Utf8.decode b p).2 = (Utf8.decode a p).2 := by omega
        rw [hww] at fb
        have hpa : a.data.toList.take p = b.data.toList.take p := by
          obtain ⟨r, hr⟩ := hp
          rw [← hr, List.take_append_of_le_length (by rw [List.length_take, size_len]; omega), List.take_take, Nat.min_self]
        rw [List.take_add, hpa, ← fa, fb, ← List.take_add]
        exact List.take_prefix _ _
      · rw [if_neg he]
        exact hp
    · rw [cmF_stop a b _ p (fun h => hlt h.1), ← size_len, List.take_length]
      rwa [List.take_of_length_le (by rw [size_len]; omega)] at hp

abbrev bA (l : List UInt8) : ByteArray := ⟨l.toArray⟩
theorem bA_size (l : List UInt8) : (bA l).size = l.length := by simp [ByteArray.size]
theorem bA_list (l : List UInt8) : (bA l).data.toList = l := by simp
theorem bA_eta (a : ByteArray) : bA a.data.toList = a := by cases a; simp [bA]
theorem bA_app (l m : List UInt8) : bA (l ++ m) = bA l ++ bA m := by
  apply ByteArray.ext
  simp [bA, ByteArray.data_append]
/-- The bytes are UTF-8. -/
def VL (l : List UInt8) : Prop := vld (bA l) l.length 0 = true
/-- The common beginning. -/
def cmC (a b : List UInt8) : List UInt8 := if a = b then a else if vld (bA a) a.length 0 = true then a.take (cmF (bA a) (bA b) a.length 0) else []
theorem cmC_sub (a b : List UInt8) : cmC a b <+: a ∧ cmC a b <+: b := by
  unfold cmC
  split
  · rename_i h
    subst h
    exact ⟨List.prefix_refl _, List.prefix_refl _⟩
  · split
    · rename_i h
      refine ⟨List.take_prefix _ _, ?_⟩
      have := cmF_pre (bA a) (bA b) a.length 0 (by rw [bA_size]; omega) h (by simp)
      rw [bA_list, bA_list] at this
      exact this
    · exact ⟨List.nil_prefix, List.nil_prefix⟩
theorem cmC_self (a : List UInt8) : cmC a a = a := by unfold cmC; rw [if_pos rfl]
theorem cmF_self (a : ByteArray) : ∀ f p, cmF a a f p = a.size
  | 0, _ => rfl
  | f + 1, p => by
    unfold cmF
    split
    · rw [if_pos rfl]
      exact cmF_self a f _
    · rfl
theorem cmC_val (a b : List UInt8) (h : VL a) : cmC a b = a.take (cmF (bA a) (bA b) a.length 0) := by
  unfold cmC
  split
  · rename_i e
    subst e
    rw [cmF_self, bA_size, List.take_length]
  · exact if_pos h
theorem VL.nil : VL [] := rfl
theorem VL.app {l m : List UInt8} (h : VL l) (h' : VL m) : VL (l ++ m) := by
  unfold VL at *
  rw [← bA_size] at h'
  have := (join_ok (bA l) (bA m) h' l.length 0 (Nat.zero_le _) (by rw [bA_size]; omega) h).1
  rw [bA_app, List.length_append]
  rwa [bA_size] at this
theorem VL.enc (r : Int) (h : Utf8.valid r = true) : VL (Utf8.encode r).data.toList := by
  unfold VL
  rw [bA_eta, size_len]
  exact (enc_vld r (by rw [← valid_iff]; exact h)).1
theorem VL.tim {l : List UInt8} (h : VL l) : ∀ n, VL (timL l n)
  | 0 => VL.nil
  | n + 1 => (VL.tim h n).app h
theorem cmF_cut (a b : ByteArray) : ∀ f p, cmF a b f p = a.size ∨ good a (cmF a b f p)
  | 0, _ => .inl rfl
  | f + 1, p => by
    unfold cmF
    split
    · rename_i hc
      split
      · exact cmF_cut a b f _
      · exact .inr ((good_iff a p hc.1).2 hc.2)
    · exact .inl rfl
theorem VL.com {a : List UInt8} (b : List UInt8) (h : VL a) : VL (cmC a b) := by
  rw [cmC_val a b h]
  obtain ⟨n, hn⟩ : ∃ n, n = cmF (bA a) (bA b) a.length 0 := ⟨_, rfl⟩
  have hb := (cmF_bd (bA a) (bA b) a.length 0 (Nat.zero_le _)).2
  have hc := cmF_cut (bA a) (bA b) a.length 0
  rw [← hn] at hb hc ⊢
  rw [bA_size] at hb
  have hs : bA a = bA (a.take n) ++ bA (a.drop n) := by rw [← bA_app, List.take_append_drop]
  have hl : (bA (a.take n)).size = n := by rw [bA_size, List.length_take]; omega
  unfold VL at h
  rw [hs] at h
  have := cut_left (bA (a.take n)) (bA (a.drop n)) (by
    rw [hl, ← hs]
    rcases hc with hc | hc
    · left
      rw [bA_size] at hc ⊢
      rw [List.length_drop]
      omega
    · exact .inr hc) a.length 0 (Nat.zero_le _) h
  unfold VL
  rw [vld_fuel _ (a.take n).length a.length 0 (by rw [bA_size]; omega) (by rw [bA_size, List.length_take]; omega)]
  exact this
theorem VL.row {G : Nat → Fr} : ∀ n, (∀ q, q < n → VL (G q).1) → VL (rowF G n).1
  | 0, _ => VL.nil
  | n + 1, h => by
    have ih := VL.row (G := G) n (fun q hq => h q (by omega))
    unfold rowF
    split
    · exact ih.app (h n (by omega))
    · exact ih
theorem VL.coms {G : Nat → Fr} (h0 : VL (G 0).1) : ∀ n, VL (comF cmC G n).1
  | 0 => h0
  | n + 1 => (VL.coms h0 n).com _
theorem VL.rep {k : Fr} (h : VL k.1) (mn mx : Int) : VL (repF k mn mx).1 := by
  unfold repF
  split
  · exact VL.nil
  split
  · exact VL.nil
  split
  · exact h
  · exact VL.tim h _
/-- Fronts are UTF-8. -/
theorem VL.fr : ∀ (m : Nat) (t : Tr), WF m t → VL (frF cmC m t).1
  | 0, _, h => by cases h
  | m + 1, t, hw => by
    obtain ⟨⟨hnd, _⟩, _, hk⟩ := hw
    unfold frF
    by_cases k2 : (t []).kind = 2
    · rw [if_pos k2]
      split
      · rename_i h
        exact VL.enc _ h
      · exact VL.nil
    rw [if_neg k2]
    by_cases k3 : (t []).kind = 3
    · rw [if_pos k3]
      exact VL.nil
    rw [if_neg k3]
    by_cases k4 : (t []).kind = 4
    · rw [if_pos k4]
      exact VL.row _ (fun q hq => VL.fr m _ (hk q hq))
    rw [if_neg k4]
    by_cases k5 : (t []).kind = 5
    · rw [if_pos k5]
      have h5 := ndB_row hnd (.inr k5)
      exact VL.coms (VL.fr m _ (hk 0 (by omega))) _
    rw [if_neg k5]
    by_cases k6 : (t []).kind = 6
    · rw [if_pos k6]
      have h6 := ndB_rep hnd k6
      exact VL.rep (VL.fr m _ (hk 0 (by omega))) _ _
    rw [if_neg k6]
    by_cases k7 : (t []).kind = 7
    · rw [if_pos k7]
      have h7 := ndB_grp hnd k7
      exact VL.fr m _ (hk 0 (by omega))
    rw [if_neg k7]
    exact VL.nil
end Go.Proofs.YtbciclnffokjjaaDoor
/- Fronts are no longer than the code allows. -/
namespace Go.Proofs.YtbciclnffokjjaaDoor
open Go.RowKit

/-- A kid's code is within the whole's. -/
theorem lenF_kid {m : Nat} {t : Tr} (hw : WF (m + 1) t) (hl : lenF (m + 1) t ≤ 10000) (h6 : ¬ ((t []).kind = 6 ∧ (t []).mx = 0)) : ∀ j, j < (t []).kn → lenF m (kid t j) ≤ 10000 := by
  obtain ⟨⟨hnd, _⟩, hkn, hk⟩ := hw
  intro j hj
  have hbd : ∀ j, j < (t []).kn → 0 ≤ lenF m (kid t j) ∧ lenF m (kid t j) ≤ 10001 := fun j hj => lenF_bd m _ (hk j hj)
  rw [lenF_succ] at hl
  obtain ⟨s, hs⟩ : ∃ s, sumN (fun j => lenF m (kid t j)) (t []).kn = s := ⟨_, rfl⟩
  rw [hs] at hl
  have hmem : lenF m (kid t j) ≤ s := by rw [← hs]; exact sumN_mem (L := fun j => lenF m (kid t j)) (fun j hj => (hbd j hj).1) j hj
  have hs0 : 0 ≤ s := by
    rw [← hs]
    exact (sumN_bd (f := fun j => lenF m (kid t j)) (b := 10001) (by omega) _ hbd).1
  have hmin : lenK (t []) s ≤ 10000 := by omega
  have hkd := ndB_kind hnd
  unfold lenK at hmin
  split at hmin
  · omega
  split at hmin
  · omega
  split at hmin
  · omega
  split at hmin
  · rename_i k6
    have hx : ¬ (t []).mx = 0 := fun e => h6 ⟨k6, e⟩
    have h6' := ndB_rep hnd k6
    split at hmin
    · have := Int.mul_nonneg h6'.2.1 hs0
      omega
    · by_cases hm0 : (t []).mn = 0
      · rw [hm0] at hmin
        have h3 : 1 * (s + 1) ≤ ((t []).mx - 0) * (s + 1) := Int.mul_le_mul_of_nonneg_right (by omega) (by omega)
        omega
      · have h3 : 1 * s ≤ (t []).mn * s := Int.mul_le_mul_of_nonneg_right (by omega) hs0
        have h4 := Int.mul_nonneg (show 0 ≤ (t []).mx - (t []).mn by omega) (show 0 ≤ s + 1 by omega)
        omega
  · have := ndB_leaf hnd (by omega)
    omega
theorem rowF_len {G : Nat → Fr} {f : Nat → Int} : ∀ n : Nat, (∀ q, q < n → 0 ≤ f q ∧ ((G q).1.length : Int) ≤ 4 * f q) → ((rowF G n).1.length : Int) ≤ 4 * sumN f n
  | 0, _ => by simp [rowF, sumN]
  | n + 1, h => by
    have ih := rowF_len (G := G) (f := f) n (fun q hq => h q (by omega))
    have hn := h n (by omega)
    have e : sumN f (n + 1) = sumN f n + f n := rfl
    unfold rowF
    split
    · rw [List.length_append, Int.natCast_add]
      omega
    · omega
theorem comF_len {G : Nat → Fr} : ∀ n, (comF cmC G n).1.length ≤ (G 0).1.length
  | 0 => Nat.le_refl _
  | n + 1 => Nat.le_trans (cmC_sub _ _).1.length_le (comF_len n)
theorem enc_le (r : Int) : (Utf8.encode r).data.toList.length ≤ 4 := by
  rw [size_len]
  by_cases h : Utf8.valid r = true
  · rw [enc_size r (by rw [← valid_iff]; exact h)]
    exact (wd_bd r).2
  · unfold Utf8.encode
    rw [if_neg h]
    decide
theorem fr_len : ∀ (m : Nat) (t : Tr), WF m t → lenF m t ≤ 10000 → ((frF cmC m t).1.length : Int) ≤ 4 * lenF m t
  | 0, _, h, _ => by cases h
  | m + 1, t, hw, hl => by
    have hkid := lenF_kid hw hl
    have h0 := (lenF_bd (m + 1) t hw).1
    obtain ⟨⟨hnd, _⟩, hkn, hk⟩ := hw
    have hbd : ∀ j, j < (t []).kn → 0 ≤ lenF m (kid t j) ∧ lenF m (kid t j) ≤ 10001 := fun j hj => lenF_bd m _ (hk j hj)
    have hkd := ndB_kind hnd
    rw [lenF_succ] at hl h0 ⊢
    obtain ⟨s, hs⟩ : ∃ s, sumN (fun j => lenF m (kid t j)) (t []).kn = s := ⟨_, rfl⟩
    rw [hs] at hl h0 ⊢
    have hs0 : 0 ≤ s := by
      rw [← hs]
      exact (sumN_bd (f := fun j => lenF m (kid t j)) (b := 10001) (by omega) _ hbd).1
    have hmem : ∀ j, j < (t []).kn → lenF m (kid t j) ≤ s := fun j hj => by rw [← hs]; exact sumN_mem (L := fun j => lenF m (kid t j)) (fun j hj => (hbd j hj).1) j hj
    have hmin : lenK (t []) s ≤ 10000 := by omega
    rw [show min (lenK (t []) s) 10001 = lenK (t []) s by omega] at h0 ⊢
    unfold frF
    by_cases k2 : (t []).kind = 2
    · have eL : lenK (t []) s = 1 := by unfold lenK; rw [if_neg (by omega), if_neg (by omega), if_neg (by omega), if_neg (by omega)]
      rw [if_pos k2, eL]
      have := enc_le (t []).r
      split
      · dsimp only
        omega
      · simp
    rw [if_neg k2]
    by_cases k3 : (t []).kind = 3
    · rw [if_pos k3]
      simp
      omega
    rw [if_neg k3]
    by_cases k4 : (t []).kind = 4
    · have eL : lenK (t []) s = s := by unfold lenK; rw [if_pos (Or.inr k4)]
      rw [if_pos k4, eL, ← hs]
      exact rowF_len _ (fun q hq => ⟨(hbd q hq).1, fr_len m _ (hk q hq) (hkid (fun e => by omega) q hq)⟩)
    rw [if_neg k4]
    by_cases k5 : (t []).kind = 5
    · have h2 := ndB_row hnd (.inr k5)
      have eL : lenK (t []) s = s + 2 * (((t []).kn : Int) - 1) := by unfold lenK; rw [if_neg (by omega), if_pos k5]
      rw [if_pos k5, eL]
      have a := comF_len (G := fun q => frF cmC m (kid t q)) ((t []).kn - 1)
      have b := fr_len m _ (hk 0 (by omega)) (hkid (fun e => by omega) 0 (by omega))
      have c := hmem 0 (by omega)
      omega
    rw [if_neg k5]
    by_cases k6 : (t []).kind = 6
    · have h6 := ndB_rep hnd k6
      have eL : lenK (t []) s = if (t []).mx = -1 then (t []).mn * s + s + 2 else (t []).mn * s + ((t []).mx - (t []).mn) * (s + 1) := by unfold lenK; rw [if_neg (by omega), if_neg k5, if_neg (by omega), if_pos k6]
      rw [if_pos k6]
      unfold repF
      by_cases hx : (t []).mx = 0
      · rw [if_pos hx]
        simp
        omega
      rw [if_neg hx]
      by_cases hz : (t []).mn = 0
      · rw [if_pos hz]
        simp
        omega
      rw [if_neg hz]
      have b := fr_len m _ (hk 0 (by omega)) (hkid (fun e => hx e.2) 0 (by omega))
      have c := hmem 0 (by omega)
      have hge : (t []).mn * s ≤ lenK (t []) s := by
        rw [eL]
        split
        · omega
        · have h4 := Int.mul_nonneg (show 0 ≤ (t []).mx - (t []).mn by omega) (show 0 ≤ s + 1 by omega)
          omega
      have h3 : 1 * s ≤ (t []).mn * s := Int.mul_le_mul_of_nonneg_right (by omega) hs0
      split
      · omega
      · dsimp only
        rw [timL_len]
        obtain ⟨n, hn⟩ : ∃ n : Nat, (t []).mn = n := ⟨(t []).mn.toNat, by omega⟩
        rw [hn] at hge ⊢
        obtain ⟨L, hL⟩ : ∃ L, L = (frF cmC m (kid t 0)).1.length := ⟨_, rfl⟩
        rw [← hL] at b ⊢
        have h5 : (n : Int) * (L : Int) ≤ (n : Int) * (4 * s) := Int.mul_le_mul_of_nonneg_left (by omega) (by omega)
        rw [Int.toNat_natCast, Int.natCast_mul]
        rw [show (n : Int) * (4 * s) = 4 * ((n : Int) * s) by rw [Int.mul_left_comm]] at h5
        omega
    rw [if_neg k6]
    by_cases k7 : (t []).kind = 7
    · have h7 := ndB_grp hnd k7
      have eL : lenK (t []) s = s + 2 := by unfold lenK; rw [if_neg (by omega), if_neg k5, if_pos k7]
      rw [if_pos k7, eL]
      have b := fr_len m _ (hk 0 (by omega)) (hkid (fun e => by omega) 0 (by omega))
      have c := hmem 0 (by omega)
      omega
    rw [if_neg k7]
    simp
    omega
end Go.Proofs.YtbciclnffokjjaaDoor
