/- A bundle of texts. -/
import Derived.Lib.MapLaws
import Derived.Test.YtbciclnffokjjaaGreatDoorBt21
import Derived.Test.YtbciclnffokjjaaGreatDoorBt17
import Derived.Test.YtbciclnffokjjaaGreatDoorBt11
import Derived.Test.YtbciclnffokjjaaGreatDoorBt15
/- Texts with which two texts begin. -/
namespace Go.Proofs.YtbciclnffokjjaaGreatDoor
open Go.RowKit

theorem extr_list (a : ByteArray) (p : Nat) : (a.extract p a.size).data.toList = a.data.toList.drop p := by
  rw [ByteArray.data_extract, Array.toList_extract, List.extract_eq_take_drop, List.take_of_length_le (by rw [List.length_drop, size_len]; exact Nat.le_refl _)]
/-- A rune that begins at a place stands there in its form. -/
theorem rune_form (a : ByteArray) (p : Nat) (h : p < a.size) (hg : good a p) : Lib.encodeRune ((Utf8.decode a p).1 : Int) = (a.data.toList.drop p).take (Utf8.decode a p).2 ∧ (Lib.encodeRune ((Utf8.decode a p).1 : Int)).length = (Utf8.decode a p).2 := by
  have hd : Lib.decodeL (a.data.toList.drop p) = Utf8.decode a p := by
    rw [← extr_list, ← decode_extract a p]
    rfl
  have hne : a.data.toList.drop p ≠ [] := fun e => by
    have := congrArg List.length e
    rw [List.length_drop, size_len] at this
    simp at this
    omega
  have hed := Lib.encode_decode (a.data.toList.drop p) hne (by rw [hd]; exact hg)
  rw [hd] at hed
  refine ⟨hed, ?_⟩
  have hs := dec_size a p h
  rw [hed, List.length_take, List.length_drop, size_len]
  omega
theorem cmF_pre (a b : ByteArray) : ∀ f p, a.size ≤ p + f → vld a f p = true → a.data.toList.take p <+: b.data.toList → a.data.toList.take (cmF a b f p) <+: b.data.toList
  | 0, p, hf, _, hp => by
    show a.data.toList.take a.size <+: _
    rw [← size_len, List.take_length]
    rwa [List.take_of_length_le (by rw [size_len]; omega)] at hp
  | f + 1, p, hf, hv, hp => by
    by_cases hlt : p < a.size
    · obtain ⟨hg, hv'⟩ := (vld_step a f p hlt).1 hv
      have hz := (good_iff a p hlt).1 hg
      have hw := (decode_width a p).1
      unfold cmF
      rw [if_pos ⟨hlt, hz⟩]
      by_cases he : (nxt b p).1 = (nxt a p).1
      · rw [if_pos he]
        refine cmF_pre a b f _ (by omega) hv' ?_
        obtain ⟨_, n2⟩ := nxt_width a p hz
        have hb2 : (nxt b p).2 ≠ 0 := fun e => by
          have : (nxt b p).1 = -1 := by
            unfold nxt at e ⊢
            split
            · rename_i hl
              rw [if_pos hl] at e
              split
              · rfl
              · rename_i hn
                rw [if_neg hn] at e
                have := (decode_width b p).1
                simp at e
                omega
            · rfl
          rw [this, n2] at he
          omega
        have hlb : p < b.size := by
          rcases Nat.lt_or_ge p b.size with h | h
          · exact h
          · rw [nxt_out b p h] at hb2
            exact absurd rfl hb2
        have hgb := (good_iff b p hlb).2 hb2
        obtain ⟨_, m2⟩ := nxt_width b p hb2
        have hr : (Utf8.decode a p).1 = (Utf8.decode b p).1 := by rw [m2, n2] at he; omega
        obtain ⟨fa, la⟩ := rune_form a p hlt hg
        obtain ⟨fb, lb⟩ := rune_form b p hlb hgb
        rw [← hr] at fb lb
        have hww : (Utf8.decode b p).2 = (Utf8.decode a p).2 := by omega
        rw [hww] at fb
        have hpa : a.data.toList.take p = b.data.toList.take p := by
          obtain ⟨r, hr⟩ := hp
          rw [← hr, List.take_append_of_le_length (by rw [List.length_take, size_len]; omega), List.take_take, Nat.min_self]
        rw [List.take_add, hpa, ← fa, fb, ← List.take_add]
        exact List.take_prefix _ _
      · rw [if_neg he]
        exact hp
    · rw [cmF_stop a b _ p (fun h => hlt h.1), ← size_len, List.take_length]
      rwa [List.take_of_length_le (by rw [size_len]; omega)] at hp

abbrev bA (l : List UInt8) : ByteArray := ⟨l.toArray⟩
theorem bA_size (l : List UInt8) : (bA l).size = l.length := by simp [ByteArray.size]
theorem bA_list (l : List UInt8) : (bA l).data.toList = l := by simp
theorem bA_eta (a : ByteArray) : bA a.data.toList = a := by cases a; simp [bA]
theorem bA_app (l m : List UInt8) : bA (l ++ m) = bA l ++ bA m := by
  apply ByteArray.ext
  simp [bA, ByteArray.data_append]
/-- The bytes are UTF-8. -/
def VL (l : List UInt8) : Prop := vld (bA l) l.length 0 = true
/-- The common beginning. -/
def cmC (a b : List UInt8) : List UInt8 := if a = b then a else if vld (bA a) a.length 0 = true then a.take (cmF (bA a) (bA b) a.length 0) else []
theorem cmC_sub (a b : List UInt8) : cmC a b <+: a ∧ cmC a b <+: b := by
  unfold cmC
  split
  · rename_i h
    subst h
    exact ⟨List.prefix_refl _, List.prefix_refl _⟩
  · split
    · rename_i h
      refine ⟨List.take_prefix _ _, ?_⟩
      have := cmF_pre (bA a) (bA b) a.length 0 (by rw [bA_size]; omega) h (by simp)
      rw [bA_list, bA_list] at this
      exact this
    · exact ⟨List.nil_prefix, List.nil_prefix⟩
theorem cmC_self (a : List UInt8) : cmC a a = a := by unfold cmC; rw [if_pos rfl]
theorem cmF_self (a : ByteArray) : ∀ f p, cmF a a f p = a.size
  | 0, _ => rfl
  | f + 1, p => by
    unfold cmF
    split
    · rw [if_pos rfl]
      exact cmF_self a f _
    · rfl
theorem cmC_val (a b : List UInt8) (h : VL a) : cmC a b = a.take (cmF (bA a) (bA b) a.length 0) := by
  unfold cmC
  split
  · rename_i e
    subst e
    rw [cmF_self, bA_size, List.take_length]
  · exact if_pos h
theorem VL.nil : VL [] := rfl
theorem VL.app {l m : List UInt8} (h : VL l) (h' : VL m) : VL (l ++ m) := by
  unfold VL at *
  rw [← bA_size] at h'
  have := (join_ok (bA l) (bA m) h' l.length 0 (Nat.zero_le _) (by rw [bA_size]; omega) h).1
  rw [bA_app, List.length_append]
  rwa [bA_size] at this
theorem VL.enc (r : Int) (h : Utf8.valid r = true) : VL (Utf8.encode r).data.toList := by
  unfold VL
  rw [bA_eta, size_len]
  exact (enc_vld r (by rw [← valid_iff]; exact h)).1
theorem VL.tim {l : List UInt8} (h : VL l) : ∀ n, VL (timL l n)
  | 0 => VL.nil
  | n + 1 => (VL.tim h n).app h
theorem cmF_cut (a b : ByteArray) : ∀ f p, cmF a b f p = a.size ∨ good a (cmF a b f p)
  | 0, _ => .inl rfl
  | f + 1, p => by
    unfold cmF
    split
    · rename_i hc
      split
      · exact cmF_cut a b f _
      · exact .inr ((good_iff a p hc.1).2 hc.2)
    · exact .inl rfl
theorem VL.com {a : List UInt8} (b : List UInt8) (h : VL a) : VL (cmC a b) := by
  rw [cmC_val a b h]
  obtain ⟨n, hn⟩ : ∃ n, n = cmF (bA a) (bA b) a.length 0 := ⟨_, rfl⟩
  have hb := (cmF_bd (bA a) (bA b) a.length 0 (Nat.zero_le _)).2
  have hc := cmF_cut (bA a) (bA b) a.length 0
  rw [← hn] at hb hc ⊢
  rw [bA_size] at hb
  have hs : bA a = bA (a.take n) ++ bA (a.drop n) := by rw [← bA_app, List.take_append_drop]
  have hl : (bA (a.take n)).size = n := by rw [bA_size, List.length_take]; omega
  unfold VL at h
  rw [hs] at h
  have := cut_left (bA (a.take n)) (bA (a.drop n)) (by
    rw [hl, ← hs]
    rcases hc with hc | hc
    · left
      rw [bA_size] at hc ⊢
      rw [List.length_drop]
      omega
    · exact .inr hc) a.length 0 (Nat.zero_le _) h
  unfold VL
  rw [vld_fuel _ (a.take n).length a.length 0 (by rw [bA_size]; omega) (by rw [bA_size, List.length_take]; omega)]
  exact this
theorem VL.row {G : Nat → Fr} : ∀ n, (∀ q, q < n → VL (G q).1) → VL (rowF G n).1
  | 0, _ => VL.nil
  | n + 1, h => by
    have ih := VL.row (G := G) n (fun q hq => h q (by omega))
    unfold rowF
    split
    · exact ih.app (h n (by omega))
    · exact ih
theorem VL.coms {G : Nat → Fr} (h0 : VL (G 0).1) : ∀ n, VL (comF cmC G n).1
  | 0 => h0
  | n + 1 => (VL.coms h0 n).com _
theorem VL.rep {k : Fr} (h : VL k.1) (mn mx : Int) : VL (repF k mn mx).1 := by
  unfold repF
  split
  · exact VL.nil
  split
  · exact VL.nil
  split
  · exact h
  · exact VL.tim h _
/-- Fronts are UTF-8. -/
theorem VL.fr : ∀ (m : Nat) (t : Tr), WF m t → VL (frF cmC m t).1
  | 0, _, h => by cases h
  | m + 1, t, hw => by
    obtain ⟨⟨hnd, _⟩, _, hk⟩ := hw
    unfold frF
    by_cases k2 : (t []).kind = 2
    · rw [if_pos k2]
      split
      · rename_i h
        exact VL.enc _ h
      · exact VL.nil
    rw [if_neg k2]
    by_cases k3 : (t []).kind = 3
    · rw [if_pos k3]
      exact VL.nil
    rw [if_neg k3]
    by_cases k4 : (t []).kind = 4
    · rw [if_pos k4]
      exact VL.row _ (fun q hq => VL.fr m _ (hk q hq))
    rw [if_neg k4]
    by_cases k5 : (t []).kind = 5
    · rw [if_pos k5]
      have h5 := ndB_row hnd (.inr k5)
      exact VL.coms (VL.fr m _ (hk 0 (by omega))) _
    rw [if_neg k5]
    by_cases k6 : (t []).kind = 6
    · rw [if_pos k6]
      have h6 := ndB_rep hnd k6
      exact VL.rep (VL.fr m _ (hk 0 (by omega))) _ _
    rw [if_neg k6]
    by_cases k7 : (t []).kind = 7
    · rw [if_pos k7]
      have h7 := ndB_grp hnd k7
      exact VL.fr m _ (hk 0 (by omega))
    rw [if_neg k7]
    exact VL.nil
end Go.Proofs.YtbciclnffokjjaaGreatDoor
/- Fronts are no longer than the code allows. -/
namespace Go.Proofs.YtbciclnffokjjaaGreatDoor
open Go.RowKit

theorem rowF_len {G : Nat → Fr} {f : Nat → Int} : ∀ n : Nat, (∀ q, q < n → 0 ≤ f q ∧ ((G q).1.length : Int) ≤ 4 * f q) → ((rowF G n).1.length : Int) ≤ 4 * sumN f n
  | 0, _ => by simp [rowF, sumN]
  | n + 1, h => by
    have ih := rowF_len (G := G) (f := f) n (fun q hq => h q (by omega))
    have hn := h n (by omega)
    have e : sumN f (n + 1) = sumN f n + f n := rfl
    unfold rowF
    split
    · rw [List.length_append, Int.natCast_add]
      omega
    · omega
theorem comF_len {G : Nat → Fr} : ∀ n, (comF cmC G n).1.length ≤ (G 0).1.length
  | 0 => Nat.le_refl _
  | n + 1 => Nat.le_trans (cmC_sub _ _).1.length_le (comF_len n)
theorem enc_le (r : Int) : (Utf8.encode r).data.toList.length ≤ 4 := by
  rw [size_len]
  by_cases h : Utf8.valid r = true
  · rw [enc_size r (by rw [← valid_iff]; exact h)]
    exact (wd_bd r).2
  · unfold Utf8.encode
    rw [if_neg h]
    decide
theorem fr_len : ∀ (m : Nat) (t : Tr), WF m t → lenF m t ≤ 10000 → ((frF cmC m t).1.length : Int) ≤ 4 * lenF m t
  | 0, _, h, _ => by cases h
  | m + 1, t, hw, hl => by
    have hkid := lenF_kid hw hl
    have h0 := (lenF_bd (m + 1) t hw).1
    obtain ⟨⟨hnd, _⟩, hkn, hk⟩ := hw
    have hbd : ∀ j, j < (t []).kn → 0 ≤ lenF m (kid t j) ∧ lenF m (kid t j) ≤ 10001 := fun j hj => lenF_bd m _ (hk j hj)
    have hkd := ndB_kind hnd
    rw [lenF_succ] at hl h0 ⊢
    obtain ⟨s, hs⟩ : ∃ s, sumN (fun j => lenF m (kid t j)) (t []).kn = s := ⟨_, rfl⟩
    rw [hs] at hl h0 ⊢
    have hs0 : 0 ≤ s := by
      rw [← hs]
      exact (sumN_bd (f := fun j => lenF m (kid t j)) (b := 10001) (by omega) _ hbd).1
    have hmem : ∀ j, j < (t []).kn → lenF m (kid t j) ≤ s := fun j hj => by rw [← hs]; exact sumN_mem (L := fun j => lenF m (kid t j)) (fun j hj => (hbd j hj).1) j hj
    have hmin : lenK (t []) s ≤ 10000 := by omega
    rw [show min (lenK (t []) s) 10001 = lenK (t []) s by omega] at h0 ⊢
    unfold frF
    by_cases k2 : (t []).kind = 2
    · have eL : lenK (t []) s = 1 := by unfold lenK; rw [if_neg (by omega), if_neg (by omega), if_neg (by omega), if_neg (by omega)]
      rw [if_pos k2, eL]
      have := enc_le (t []).r
      split
      · dsimp only
        omega
      · simp
    rw [if_neg k2]
    by_cases k3 : (t []).kind = 3
    · rw [if_pos k3]
      simp
      omega
    rw [if_neg k3]
    by_cases k4 : (t []).kind = 4
    · have eL : lenK (t []) s = s := by unfold lenK; rw [if_pos (Or.inr k4)]
      rw [if_pos k4, eL, ← hs]
      exact rowF_len _ (fun q hq => ⟨(hbd q hq).1, fr_len m _ (hk q hq) (hkid (fun e => by omega) q hq)⟩)
    rw [if_neg k4]
    by_cases k5 : (t []).kind = 5
    · have h2 := ndB_row hnd (.inr k5)
      have eL : lenK (t []) s = s + 2 * (((t []).kn : Int) - 1) := by unfold lenK; rw [if_neg (by omega), if_pos k5]
      rw [if_pos k5, eL]
      have a := comF_len (G := fun q => frF cmC m (kid t q)) ((t []).kn - 1)
      have b := fr_len m _ (hk 0 (by omega)) (hkid (fun e => by omega) 0 (by omega))
      have c := hmem 0 (by omega)
      omega
    rw [if_neg k5]
    by_cases k6 : (t []).kind = 6
    · have h6 := ndB_rep hnd k6
      have eL : lenK (t []) s = if (t []).mx = -1 then (t []).mn * s + s + 2 else (t []).mn * s + ((t []).mx - (t []).mn) * (s + 1) := by unfold lenK; rw [if_neg (by omega), if_neg k5, if_neg (by omega), if_pos k6]
      rw [if_pos k6]
      unfold repF
      by_cases hx : (t []).mx = 0
      · rw [if_pos hx]
        simp
        omega
      rw [if_neg hx]
      by_cases hz : (t []).mn = 0
      · rw [if_pos hz]
        simp
        omega
      rw [if_neg hz]
      have b := fr_len m _ (hk 0 (by omega)) (hkid (fun e => hx e.2) 0 (by omega))
      have c := hmem 0 (by omega)
      have hge : (t []).mn * s ≤ lenK (t []) s := by
        rw [eL]
        split
        · omega
        · have h4 := Int.mul_nonneg (show 0 ≤ (t []).mx - (t []).mn by omega) (show 0 ≤ s + 1 by omega)
          omega
      have h3 : 1 * s ≤ (t []).mn * s := Int.mul_le_mul_of_nonneg_right (by omega) hs0
      split
      · omega
      · dsimp only
        rw [timL_len]
        obtain ⟨n, hn⟩ : ∃ n : Nat, (t []).mn = n := ⟨(t []).mn.toNat, by omega⟩
        rw [hn] at hge ⊢
        obtain ⟨L, hL⟩ : ∃ L, L = (frF cmC m (kid t 0)).1.length := ⟨_, rfl⟩
        rw [← hL] at b ⊢
        have h5 : (n : Int) * (L : Int) ≤ (n : Int) * (4 * s) := Int.mul_le_mul_of_nonneg_left (by omega) (by omega)
        rw [Int.toNat_natCast, Int.natCast_mul]
        rw [show (n : Int) * (4 * s) = 4 * ((n : Int) * s) by rw [Int.mul_left_comm]] at h5
        omega
    rw [if_neg k6]
    by_cases k7 : (t []).kind = 7
    · have h7 := ndB_grp hnd k7
      have eL : lenK (t []) s = s + 2 := by unfold lenK; rw [if_neg (by omega), if_neg k5, if_pos k7]
      rw [if_pos k7, eL]
      have b := fr_len m _ (hk 0 (by omega)) (hkid (fun e => by omega) 0 (by omega))
      have c := hmem 0 (by omega)
      omega
    rw [if_neg k7]
    simp
    omega
end Go.Proofs.YtbciclnffokjjaaGreatDoor
/- commonText: the walk. -/
namespace Go.Proofs.YtbciclnffokjjaaGreatDoor
open Go.RowKit Go.Lib Go.Shelf

attribute [local go_sem] Oper.semAt_some

/-- The three boxes of commonText. -/
def CB (h : Nat) (a b : ByteArray) (W : World) (v : ByteArray) : Prop := Boxed W h 9 (.string a) ∧ Boxed W (h + 1) 9 (.string b) ∧ Boxed W (h + 2) 9 (.string v) ∧ h + 4 ≤ W.heap.size
theorem boxed_keep {X Y : World} {row : Option Nat} {B : Nat} {t : TypeId} {v : Value} (h : Boxed X B t v) (hg : X.grownBy Y row) (hrow : ∀ r, row = some r → ∃ o : Obj, X.heap[r]? = some o ∧ o.isCells = false) : Boxed Y B t v :=
  h.kept hg (fun e' => by
    obtain ⟨o, ho, hc⟩ := hrow B e'.symm
    rw [show X.heap[B]? = _ from h] at ho; cases ho; cases hc)
theorem CB.keep {h : Nat} {a b v : ByteArray} {X Y : World} {row : Option Nat} (g : CB h a b X v) (hg : X.grownBy Y row) (hrow : ∀ r, row = some r → ∃ o : Obj, X.heap[r]? = some o ∧ o.isCells = false) : CB h a b Y v :=
  ⟨boxed_keep g.1 hg hrow, boxed_keep g.2.1 hg hrow, boxed_keep g.2.2.1 hg hrow, Nat.le_trans g.2.2.2 hg.size⟩
theorem CB.below {h : Nat} {a b v : ByteArray} {X Y : World} (g : CB h a b X v) (hb : Below X.heap.size X Y) : CB h a b Y v := g.keep (grown_below hb) (fun r e => by cases e)
theorem CB.set {h : Nat} {a b v : ByteArray} {X : World} (g : CB h a b X v) (u : ByteArray) : CB h a b (X.setCell ⟨h + 2, 0, none⟩ (.string u)) u :=
  ⟨g.1.kept (grownBy_setCell' X _ _) (by simp), g.2.1.kept (grownBy_setCell' X _ _) (by simp), g.2.2.1.set _, Nat.le_trans g.2.2.2 (grownBy_setCell' X _ _).size⟩
/-- Up to here the second text has the same runes. -/
def okP {a : ByteArray} (b : ByteArray) (pre : List (Plc a)) : Prop := ∀ x ∈ pre, (nxt b x.1.1.toNat).1 = x.1.2
theorem keeps_below {X Y : World} (hb : Below X.heap.size X Y) : KeepsOthers X Y := KeepsOthers.of_grownBy (grown_below hb) (fun j o ej hj => by cases ej)

set_option maxRecDepth 100000 in
set_option maxHeartbeats 4000000 in
theorem common_in (n : Nat) (hn : 3 ≤ n) (a b : ByteArray) (ha : a.size ≤ 1048576) (hb : b.size ≤ 1048576) (w : World) (hT : Lib.Utf8Tabs 0 1 w) :
    CallsIn Fence.wide n Tryz.prog 57 #[.string a, .string b] w fun e w' => e = .returned (.string (a.extract 0 (cmF a b a.size 0))) ∧ Below w.heap.size w w' := by
  have hsz := tabs_size hT
  have h1 : 1 ≤ n := by omega
  have bA := Boxed.new w 9 (.string a)
  have bB := Boxed.new (w.alloc (.cells #[.string a] 9)) 9 (.string b)
  have bC := Boxed.new ((w.alloc (.cells #[.string a] 9)).alloc (.cells #[.string b] 9)) 9 (.string ⟨#[]⟩)
  rw [World.size_alloc] at bB
  rw [World.size_alloc, World.size_alloc] at bC
  have hB0 : Below w.heap.size w (((w.alloc (.cells #[.string a] 9)).alloc (.cells #[.string b] 9)).alloc (.cells #[.string ⟨#[]⟩] 9)) := (((Below.refl _ w).alloc (Nat.le_refl _) _).alloc (by simp) _).alloc (by simp; omega) _
  have G0 : Boxed (((w.alloc (.cells #[.string a] 9)).alloc (.cells #[.string b] 9)).alloc (.cells #[.string ⟨#[]⟩] 9)) w.heap.size 9 (.string a) ∧ Boxed (((w.alloc (.cells #[.string a] 9)).alloc (.cells #[.string b] 9)).alloc (.cells #[.string ⟨#[]⟩] 9)) (w.heap.size + 1) 9 (.string b) ∧ Boxed (((w.alloc (.cells #[.string a] 9)).alloc (.cells #[.string b] 9)).alloc (.cells #[.string ⟨#[]⟩] 9)) (w.heap.size + 2) 9 (.string ⟨#[]⟩) := ⟨(bA.alloc _).alloc _, bB.alloc _, bC⟩
  have hsz0 : (((w.alloc (.cells #[.string a] 9)).alloc (.cells #[.string b] 9)).alloc (.cells #[.string ⟨#[]⟩] 9)).heap.size = w.heap.size + 3 := by simp
  obtain ⟨W0, hW0⟩ : ∃ W0, W0 = ((w.alloc (.cells #[.string a] 9)).alloc (.cells #[.string b] 9)).alloc (.cells #[.string ⟨#[]⟩] 9) := ⟨_, rfl⟩
  have HW0 : Hid (W0 = ((w.alloc (.cells #[.string a] 9)).alloc (.cells #[.string b] 9)).alloc (.cells #[.string ⟨#[]⟩] 9)) := hW0
  rw [← hW0] at hB0 G0 hsz0
  have cA := all_in (n - 1) a W0
  have hc0 := G0.1.cell
  have HBX : Hid (Boxed (W0.alloc (.cells #[.string a] 9)) W0.heap.size 9 (.string a)) := Boxed.new W0 9 (.string a)
  have G1 : Hid (CB w.heap.size a b (W0.alloc (.cells #[.string a] 9)) ⟨#[]⟩) := ⟨G0.1.alloc _, G0.2.1.alloc _, G0.2.2.alloc _, by simp [hsz0]⟩
  have hB1 : Below w.heap.size w (W0.alloc (.cells #[.string a] 9)) := hB0.alloc hB0.size _
  have hT1 := tabs_below hT hsz hB1
  have hsz1 : (W0.alloc (.cells #[.string a] 9)).heap.size = w.heap.size + 4 := by simp [hsz0]
  rw [hsz0] at HBX cA
  obtain ⟨W1, hW1⟩ : ∃ W1, W1 = W0.alloc (.cells #[.string a] 9) := ⟨_, rfl⟩
  rw [← hW1] at HBX G1 hB1 hT1 hsz1 cA
  clear bA bB bC hW0 hW1 G0 hB0
  refine callsIn_of_wp_marks Tryz.func57 rfl trivial ?_ rfl
  simp only [Tryz.ntmps57, List.size_toArray, List.length_cons, List.length_nil, Nat.reduceAdd, Nat.reduceSub, Array.replicate_succ, Array.replicate_zero, List.push_toArray, List.append_toArray, List.nil_append, List.cons_append]
  gi_wp2_with (rw [← HW0.out])
  gi_wp2_with (refine ⟨trivial, ?_⟩; gi_at_call 72; refine cA.mono ?_; rintro e w1 ⟨rfl, rfl⟩)
  refine wpIn_rangeFunc_ownF rfl h1 (gf := 88) (lb := #[.pointer (some ⟨w.heap.size + 3, 0, none⟩)]) rfl trivial (enters_of Tryz.func88 (by kernel_rfl) rfl)
    (als_stops (n - 1) (by omega) (w.heap.size + 3) (w.heap.size + 4) a ha w1 HBX.out.cell (by omega) (by omega) (by omega) hT1) AK_t (AK_b (by omega)) (Below.refl _ _) (fun _ => rfl)
    (fun pre W => (CB w.heap.size a b W ⟨#[]⟩ ∧ okP b pre) ∧ Below w.heap.size w W)
    (fun c pre W => (c = .ret ∧ ∃ pre' x, pre = pre' ++ [x] ∧ okP b pre' ∧ (nxt b x.1.1.toNat).1 ≠ x.1.2 ∧ CB w.heap.size a b W (a.extract 0 x.1.1.toNat)) ∧ Below w.heap.size w W)
    (OwnFrom.and (Own.from (fun s A B row hs hg hr => by obtain ⟨g, h⟩ := hs; exact ⟨g.keep hg hr, h⟩) _) (ownFrom_below (Nat.le_refl _) hB1.size))
    (fun c => OwnFrom.and (Own.from (fun s A B row hs hg hr => by obtain ⟨hc, p', x, h1, h2, h3, g⟩ := hs; exact ⟨hc, p', x, h1, h2, h3, g.keep hg hr⟩) _) (ownFrom_below (Nat.le_refl _) hB1.size))
    ⟨⟨G1.out, fun x hx => by cases hx⟩, hB1⟩
    (fun x => { tmps := #[.string a, .string b, .pointer (some ⟨w.heap.size, 0, none⟩), .pointer (some ⟨w.heap.size + 1, 0, none⟩), .pointer (some ⟨w.heap.size + 1 + 1, 0, none⟩), .int .i64 x.1.1, .int .i32 x.1.2, undef, undef, .string a, .func (.func 88) #[] #[.pointer (some ⟨w.heap.size + 3, 0, none⟩)], .int .i64 x.1.1, .int .i32 x.1.2, undef, undef, undef, undef, undef, undef, undef, undef, undef, undef, undef, undef, undef], defers := [] }) ?assign ?body ?done ?stop
  case assign =>
    intro l x W K hK
    gi_wp2
    exact hK
  case body =>
    rintro l pre x W ⟨⟨G, hok⟩, hB⟩ hlt
    obtain ⟨⟨at_, r⟩, hx0, hx1⟩ := x
    dsimp only at hx0 hx1 ⊢
    obtain ⟨p, rfl⟩ : ∃ p : Nat, at_ = p := ⟨at_.toNat, by omega⟩
    have cN := next_any b p W (by unfold maxLen; omega) (tabs_below hT hsz hB)
    have e1 : nxtZ b (p : Int) = nxt b p := by unfold nxtZ; rw [if_pos (by omega)]; simp
    rw [e1] at cN
    have hcb := G.2.1.cell
    have HG : Hid (CB w.heap.size a b W ⟨#[]⟩) := G
    have HOK : Hid (okP b pre) := hok
    have HB : Hid (Below w.heap.size w W) := hB
    have HCC : Hid (∀ w2, Below W.heap.size W w2 → w2.cell? ⟨w.heap.size, 0, none⟩ = some (.string a) ∧ w2.cell? ⟨w.heap.size + 1 + 1, 0, none⟩ = some (.string ⟨#[]⟩) ∧ w2.frozen? ⟨w.heap.size + 1 + 1, 0, none⟩ = false) := fun w2 h => ⟨(G.below h).1.cell, (G.below h).2.2.1.cell, (G.below h).2.2.1.frozen⟩
    have hWz : w.heap.size + 4 ≤ W.heap.size := G.2.2.2
    by_cases he : (nxt b p).1 = r
    · have hbe : ((nxt b p).1 != r) = false := by simpa using he
      have HEE : Hid ((nxt b (p : Int).toNat).1 = r) := by unfold Hid; rw [Int.toNat_natCast]; exact he
      clear e1 G hok hB he
      generalize (nxt b p).2 = K2 at *
      generalize (nxt b p).1 = K1 at *
      gi_wp2_with (refine ⟨trivial, fun _ => by omega, ?_⟩; gi_at_call 73; refine (CallsIn.inRound l (callsIn_wide.2 cN)).mono ?_; rintro e w2 ⟨rfl, hb2⟩)
      refine ⟨keeps_below hb2, ⟨hb2.mono hWz, (keeps_below hb2).walks⟩, ⟨HG.out.below hb2, ?_⟩, HB.out.trans (hb2.mono HB.out.size)⟩
      intro y hy
      rcases List.mem_append.1 hy with hy | hy
      · exact HOK.out y hy
      · rcases List.mem_singleton.1 hy with rfl
        exact HEE.out
    · have hbe : ((nxt b p).1 != r) = true := by simpa using he
      have HEE : Hid (¬ (nxt b (p : Int).toNat).1 = r) := by unfold Hid; rw [Int.toNat_natCast]; exact he
      clear e1 G hok hB he
      generalize (nxt b p).2 = K2 at *
      generalize (nxt b p).1 = K1 at *
      gi_wp2_with (refine ⟨trivial, fun _ => by omega, ?_⟩; gi_at_call 73; refine (CallsIn.inRound l (callsIn_wide.2 cN)).mono ?_; rintro e w2 ⟨rfl, hb2⟩; obtain ⟨q1, q2, q3⟩ := HCC.out w2 hb2; clear hcb)
      exact ⟨(keeps_below hb2).trans (KeepsOthers.setCell _ _ _), ⟨rfl, pre, _, rfl, HOK.out, HEE.out, (HG.out.below hb2).set _⟩, (HB.out.trans (hb2.mono HB.out.size)).setCell (p := ⟨w.heap.size + 1 + 1, 0, none⟩) (show w.heap.size ≤ w.heap.size + 1 + 1 by omega) _⟩
  case done =>
    rintro D ys W hD hys ⟨⟨G, hok⟩, hB⟩ hK
    have hc1 := G.1.cell
    have hc2 : W.cell? ⟨w.heap.size + 1 + 1, 0, none⟩ = some (.string ⟨#[]⟩) := G.2.2.1.cell
    have hf2 : W.frozen? ⟨w.heap.size + 1 + 1, 0, none⟩ = false := G.2.2.1.frozen
    have HE : Hid (cmF a b a.size 0 = a.size) := cmF_all a b a.size 0 (fun x hx => by
      have hx' : x ∈ al a := hx
      rw [← hys] at hx'
      obtain ⟨y, hy, rfl⟩ := List.mem_map.1 hx'
      exact hok y hy)
    have hGs := (G.set a).2.2.1
    have hKs : (W.setCell ⟨w.heap.size + 2, 0, none⟩ (.string a)).heap[D]? = some (.deferred (some [])) := (Below.heap_setCell _ _ _ D (fun e => by dsimp only at e; omega)).trans hK
    gi_wp2
    refine ⟨by simp, .inl ⟨_, _, rfl, run_takeDeferred hKs, ?_⟩⟩
    have hq : ((W.setCell ⟨w.heap.size + 1 + 1, 0, none⟩ (.string a)).putObj D (.deferred none)).cell? ⟨w.heap.size + 1 + 1, 0, none⟩ = some (.string a) := (boxed_keep hGs (grownBy_putObj' _ D _) (fun r e => by cases e; exact ⟨_, hKs, rfl⟩)).cell
    refine ⟨.string a, ?_, ?_, ?_⟩
    · simp [results, Tryz.results57, go_sem, hq]
    · rw [HE.out]
      simp
    · exact (hB.setCell (p := ⟨w.heap.size + 1 + 1, 0, none⟩) (show w.heap.size ≤ w.heap.size + 1 + 1 by omega) _).trans (belowK_b (w := w) (Nat.le_refl _) _ D _ _ (by omega) hKs rfl rfl)
  case stop =>
    rintro D c pre W hD hpre ⟨⟨rfl, pre', x, rfl, hok, hx, G⟩, hB⟩ hK
    have hc2 : W.cell? ⟨w.heap.size + 1 + 1, 0, none⟩ = some (.string (a.extract 0 x.1.1.toNat)) := G.2.2.1.cell
    have HE : Hid (cmF a b a.size 0 = x.1.1.toNat) := cmF_part a b a.size 0 (pre'.map (·.1)) x.1 (by rw [List.map_append] at hpre; exact hpre) (fun y hy => by
      obtain ⟨z, hz, rfl⟩ := List.mem_map.1 hy
      exact hok z hz) hx
    gi_wp2
    refine ⟨by simp, .inl ⟨_, _, rfl, run_takeDeferred hK, ?_⟩⟩
    have hq : (W.putObj D (.deferred none)).cell? ⟨w.heap.size + 1 + 1, 0, none⟩ = some (.string (a.extract 0 x.1.1.toNat)) := (boxed_keep G.2.2.1 (grownBy_putObj' _ D _) (fun r e => by cases e; exact ⟨_, hK, rfl⟩)).cell
    refine ⟨.string (a.extract 0 x.1.1.toNat), ?_, ?_, ?_⟩
    · simp [results, Tryz.results57, go_sem, hq]
    · rw [HE.out]
    · exact hB.trans (belowK_b (w := w) (Nat.le_refl _) _ D _ _ (by omega) hK rfl rfl)
end Go.Proofs.YtbciclnffokjjaaGreatDoor
/- utf.Text of one rune. -/
namespace Go.Proofs.YtbciclnffokjjaaGreatDoor
open Go.RowKit Go.Lib

end Go.Proofs.YtbciclnffokjjaaGreatDoor
