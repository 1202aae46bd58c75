/- A bundle of texts. -/
import Derived.Test.YtbciclnffokjjaaBm24
import Derived.Lib.MapLaws
/- Programs run: a rune's width; places of a program. -/
namespace Go.Proofs.Ytbciclnffokjjaa
open Go.RowKit

theorem enc_len (r : Int) : (Utf8.encode r).size = (Lib.encodeRune r).length := by
  have hv : Utf8.valid r = decide ((0 ≤ r ∧ r < 55296) ∨ (57343 < r ∧ r ≤ 1114111)) := by
    unfold Utf8.valid
    rw [Bool.eq_iff_iff]
    simp
    try omega
  unfold Utf8.encode Lib.encodeRune
  rw [List.length_map]
  by_cases h : (0 ≤ r ∧ r < 55296) ∨ (57343 < r ∧ r ≤ 1114111)
  · rw [hv, decide_eq_true h]
    by_cases h1 : r ≤ 127
    · rw [Lib.encodeRuneZ_one (by omega) h1]
      have : r.toNat < 128 := by omega
      simp [this, ByteArray.size]
    · by_cases h2 : r ≤ 2047
      · rw [Lib.encodeRuneZ_two (by omega) h2]
        have a : ¬ r.toNat < 128 := by omega
        have b : r.toNat < 2048 := by omega
        simp [a, b, ByteArray.size]
      · by_cases h3 : r ≤ 65535
        · rw [Lib.encodeRuneZ_three (by omega)]
          have a : ¬ r.toNat < 128 := by omega
          have b : ¬ r.toNat < 2048 := by omega
          have c : r.toNat < 65536 := by omega
          simp [a, b, c, ByteArray.size]
        · rw [Lib.encodeRuneZ_four (by omega) (by omega)]
          have a : ¬ r.toNat < 128 := by omega
          have b : ¬ r.toNat < 2048 := by omega
          have c : ¬ r.toNat < 65536 := by omega
          simp [a, b, c, ByteArray.size]
  · rw [hv, decide_eq_false h]
    have a : ¬ (0 ≤ r ∧ r ≤ 127) := by omega
    have b : ¬ (128 ≤ r ∧ r ≤ 2047) := by omega
    have c : ¬ ((2048 ≤ r ∧ r < 55296) ∨ (57343 < r ∧ r ≤ 65535)) := by omega
    have d : ¬ (65536 ≤ r ∧ r ≤ 1114111) := by omega
    unfold Lib.encodeRuneZ
    rw [if_neg a, if_neg b, if_neg c, if_neg d]
    rfl
theorem wd_ok (s : ByteArray) : WdOk s := by
  intro i hi hb
  have hlen : (s.extract i s.size).data.toList.length = s.size - i := by
    have : (s.extract i s.size).size = s.size - i := by simp
    rw [← this, Array.length_toList]
    rfl
  by_cases h : rnR s i = 65533
  · have h3 : (Utf8.encode (65533 : Int)).size = 3 := by kernel_rfl
    unfold rnBad at hb
    rw [h, h3, Bool.and_eq_false_iff] at hb
    rw [h, h3]
    rcases hb with hb | hb
    · exact absurd hb (by decide)
    · have := of_decide_eq_false (Bool.or_eq_false_iff.1 hb).1
      omega
  · obtain ⟨l, hl⟩ : ∃ l, l = (s.extract i s.size).data.toList := ⟨_, rfl⟩
    have hd : Utf8.decode (s.extract i s.size) 0 = Lib.decodeL l := by rw [hl]; rfl
    have hne : l ≠ [] := fun e => by rw [← hl, e] at hlen; simp at hlen; omega
    have hr : rnR s i = ((Lib.decodeL l).1 : Int) := by unfold rnR; rw [hd]
    have hed := Lib.encode_decode l hne (fun e => h (by rw [hr, e.1]; rfl))
    have hle := Lib.decodeL_le l hne
    have hw := Lib.decodeL_width l
    rw [enc_len, hr, hed, List.length_take]
    rw [← hl] at hlen
    omega
theorem prgC_in {t : Tr} (h : WF 8195 t) : InC (prgC t) := by
  intro j i hj
  have hp := cod_pl 8195 t 0 h (by omega)
  unfold prgC at hj ⊢
  have hm := List.mem_of_getElem? hj
  rw [List.length_append]
  rcases List.mem_append.1 hm with hm | hm
  · obtain ⟨p1, p2, p3, p4⟩ := hp i hm
    simp
    omega
  · rcases List.mem_singleton.1 hm with rfl
    refine ⟨by simp, ?_, by simp, ?_⟩ <;> simp <;> omega
end Go.Proofs.Ytbciclnffokjjaa
/- The code of a tree, moved. -/
namespace Go.Proofs.Ytbciclnffokjjaa
open Go.RowKit

theorem Ia.ext' {i j : Ia} (h1 : i.op = j.op) (h2 : i.out = j.out) (h3 : i.alt = j.alt) (h4 : i.arg = j.arg) (h5 : i.rs = j.rs) : i = j := by
  cases i; cases j
  cases h1; cases h2; cases h3; cases h4; cases h5
  rfl
theorem mv_mv (a b : Int) (i : Ia) : mv a (mv b i) = mv (a + b) i := by
  refine Ia.ext' rfl ?_ ?_ rfl rfl
  · show (if i.op = 11 then _ else _) = (if i.op = 11 then _ else _)
    unfold mv
    dsimp only
    split <;> omega
  · show (if i.op = 3 then _ else _) = (if i.op = 3 then _ else _)
    unfold mv
    dsimp only
    split <;> omega
theorem mvs_mvs (a b : Int) (k : List Ia) : mvs a (mvs b k) = mvs (a + b) k := by
  unfold mvs
  rw [List.map_map]
  exact List.map_congr_left (fun i _ => mv_mv a b i)
theorem mvs_app (a : Int) (k l : List Ia) : mvs a (k ++ l) = mvs a k ++ mvs a l := by simp [mvs]
theorem mvs_cons (a : Int) (i : Ia) (l : List Ia) : mvs a (i :: l) = mv a i :: mvs a l := rfl
theorem mvs_nil (a : Int) : mvs a [] = [] := rfl
theorem mv_spl (a k l : Int) (lz : Bool) : mv a (spl k l lz) = spl (a + k) (a + l) lz := by
  cases lz <;> refine Ia.ext' rfl ?_ ?_ rfl rfl <;> simp [mv, spl] <;> omega
theorem mv_one {op out alt arg : Int} {rs : List Rg} (a : Int) (h1 : op ≠ 11) (h3 : op ≠ 3) : mv a ⟨op, out, alt, arg, rs⟩ = ⟨op, a + out, alt, arg, rs⟩ := by
  refine Ia.ext' rfl ?_ ?_ rfl rfl <;> simp [mv, h1, h3]
  omega
theorem mv_two {out alt arg : Int} {rs : List Rg} (a : Int) : mv a ⟨3, out, alt, arg, rs⟩ = ⟨3, a + out, a + alt, arg, rs⟩ := by
  refine Ia.ext' rfl ?_ ?_ rfl rfl <;> simp [mv] <;> omega
theorem catF_mv {F : Nat → Int → List Ia} (a b : Int) : ∀ j, (∀ i, i < j → ∀ b, mvs a (F i b) = F i (a + b)) → mvs a (catF F j b) = catF F j (a + b)
  | 0, _ => rfl
  | j + 1, h => by
    have ih := catF_mv a b j (fun i hi => h i (by omega))
    unfold catF
    rw [mvs_app, ih, h j (by omega), ← ih, mvs_len, Int.add_assoc]
theorem altF_mv {F : Nat → Int → List Ia} (a e b : Int) : ∀ j, (∀ i, i < j → ∀ b, mvs a (F i b) = F i (a + b)) → mvs a (altF F e j b) = altF F (a + e) j (a + b)
  | 0, _ => rfl
  | j + 1, h => by
    have ih := altF_mv a e b j (fun i hi => h i (by omega))
    unfold altF
    rw [mvs_app, ih, mvs_cons, mvs_app, h j (by omega), ← ih, mvs_len, mv_two, mvs_cons, mvs_nil, mv_one a (by decide) (by decide)]
    have hl : (F j (a + (b + ((altF F e j b).length : Int) + 1))).length = (F j (b + ((altF F e j b).length : Int) + 1)).length := by rw [← h j (by omega), mvs_len]
    have e1 : a + (b + ((altF F e j b).length : Int) + 1) = a + b + ((altF F e j b).length : Int) + 1 := by omega
    rw [e1] at hl ⊢
    rw [← hl]
    have e2 : a + (b + ((altF F e j b).length : Int) + 1 + ((F j (a + b + ((altF F e j b).length : Int) + 1)).length : Int) + 1) = a + b + ((altF F e j b).length : Int) + 1 + ((F j (a + b + ((altF F e j b).length : Int) + 1)).length : Int) + 1 := by omega
    rw [e2]
theorem altC_mv {F : Nat → Int → List Ia} (a b : Int) (n : Nat) (h : ∀ i, i ≤ n → ∀ b, mvs a (F i b) = F i (a + b)) : mvs a (altC F n b) = altC F n (a + b) := by
  have h0 : ∀ e, mvs a (altF F e n b) = altF F (a + e) n (a + b) := fun e => altF_mv a e b n (fun i hi => h i (by omega))
  have hl : (altF F 0 n (a + b)).length = (altF F 0 n b).length := by
    rw [← mvs_len a (altF F 0 n b), h0 0]
    exact altF_len F 0 _ _ n
  unfold altC
  rw [mvs_app, h0, h n (Nat.le_refl _), hl]
  have hl2 : (F n (a + (b + ((altF F 0 n b).length : Int)))).length = (F n (b + ((altF F 0 n b).length : Int))).length := by rw [← h n (Nat.le_refl _), mvs_len]
  have e1 : a + (b + ((altF F 0 n b).length : Int)) = a + b + ((altF F 0 n b).length : Int) := by omega
  rw [e1] at hl2 ⊢
  rw [← hl2]
  have e2 : a + (b + ((altF F 0 n b).length : Int) + ((F n (a + b + ((altF F 0 n b).length : Int))).length : Int)) = a + b + ((altF F 0 n b).length : Int) + ((F n (a + b + ((altF F 0 n b).length : Int))).length : Int) := by omega
  rw [e2]
theorem layF_mv (k : List Ia) (a b : Int) : ∀ j, mvs a (layF k j b) = layF k j (a + b)
  | 0 => rfl
  | j + 1 => by
    have ih := layF_mv k a b j
    unfold layF
    rw [mvs_app, ih, mvs_mvs, ← ih, mvs_len, Int.add_assoc]
theorem optF_mv (k : List Ia) (lz : Bool) (a e b : Int) : ∀ j, mvs a (optF k lz e j b) = optF k lz (a + e) j (a + b)
  | 0 => rfl
  | j + 1 => by
    have ih := optF_mv k lz a e b j
    unfold optF
    rw [mvs_app, ih, mvs_cons, mv_spl, mvs_mvs, ← ih, mvs_len]
    have e1 : a + (b + ((optF k lz e j b).length : Int)) = a + b + ((optF k lz e j b).length : Int) := by omega
    have e2 : a + (b + ((optF k lz e j b).length : Int) + 1) = a + b + ((optF k lz e j b).length : Int) + 1 := by omega
    rw [e1, e2]
theorem repC_mv (k : List Ia) (mn mx : Int) (lz : Bool) (a b : Int) : mvs a (repC k mn mx lz b) = repC k mn mx lz (a + b) := by
  unfold repC
  split
  · rfl
  · split
    · rw [mvs_app, layF_mv, mvs_cons, mvs_app, mv_spl, mvs_mvs, mvs_cons, mvs_nil, mv_one a (by decide) (by decide), layF_len, layF_len]
      have e1 : a + (b + ((mn.toNat * k.length : Nat) : Int)) = a + b + ((mn.toNat * k.length : Nat) : Int) := by omega
      have e2 : a + (b + ((mn.toNat * k.length : Nat) : Int) + 1) = a + b + ((mn.toNat * k.length : Nat) : Int) + 1 := by omega
      have e3 : a + (b + ((mn.toNat * k.length : Nat) : Int) + 1 + (k.length : Int) + 1) = a + b + ((mn.toNat * k.length : Nat) : Int) + 1 + (k.length : Int) + 1 := by omega
      rw [e1, e2, e3]
    · rw [mvs_app, layF_mv, optF_mv, layF_len, layF_len]
      generalize (mx - mn) * (1 + (k.length : Int)) = z
      have e1 : a + (b + ((mn.toNat * k.length : Nat) : Int)) = a + b + ((mn.toNat * k.length : Nat) : Int) := by omega
      have e2 : a + (b + ((mn.toNat * k.length : Nat) : Int) + z) = a + b + ((mn.toNat * k.length : Nat) : Int) + z := by omega
      rw [e1, e2]
theorem cod_mv (a : Int) : ∀ (m : Nat) (t : Tr) (b : Int), WF m t → mvs a (cod m t b) = cod m t (a + b)
  | 0, _, _, h => by cases h
  | m + 1, t, b, hw => by
    obtain ⟨⟨hnd, _⟩, _, hk⟩ := hw
    have hkd := ndB_kind hnd
    unfold cod
    by_cases k2 : (t []).kind = 2
    · rw [if_pos k2, if_pos k2, mvs_cons, mvs_nil, mv_one a (by decide) (by decide), Int.add_assoc]
    rw [if_neg k2, if_neg k2]
    by_cases k3 : (t []).kind = 3
    · rw [if_pos k3, if_pos k3, mvs_cons, mvs_nil]
      unfold clsC
      split
      · rfl
      · rw [mv_one a (by decide) (by decide), Int.add_assoc]
    rw [if_neg k3, if_neg k3]
    by_cases k4 : (t []).kind = 4
    · rw [if_pos k4, if_pos k4]
      exact catF_mv a b _ (fun i hi b => cod_mv a m _ b (hk i hi))
    rw [if_neg k4, if_neg k4]
    by_cases k5 : (t []).kind = 5
    · rw [if_pos k5, if_pos k5]
      have h2 := ndB_row hnd (.inr k5)
      exact altC_mv a b _ (fun i hi b => cod_mv a m _ b (hk i (by omega)))
    rw [if_neg k5, if_neg k5]
    by_cases k6 : (t []).kind = 6
    · rw [if_pos k6, if_pos k6]
      exact repC_mv _ _ _ _ a b
    rw [if_neg k6, if_neg k6]
    by_cases k7 : (t []).kind = 7
    · rw [if_pos k7, if_pos k7]
      have h7 := ndB_grp hnd k7
      have ih := cod_mv a m (kid t 0) (b + 1) (hk 0 (by omega))
      rw [mvs_cons, mvs_app, ih, mvs_cons, mvs_nil, mv_one a (by decide) (by decide), mv_one a (by decide) (by decide)]
      have hl : (cod m (kid t 0) (a + (b + 1))).length = (cod m (kid t 0) (b + 1)).length := by rw [← ih, mvs_len]
      have e1 : a + (b + 1) = a + b + 1 := by omega
      rw [e1] at hl ⊢
      rw [← hl]
      have e2 : a + (b + 1 + ((cod m (kid t 0) (a + b + 1)).length : Int) + 1) = a + b + 1 + ((cod m (kid t 0) (a + b + 1)).length : Int) + 1 := by omega
      rw [e2]
    rw [if_neg k7, if_neg k7]
    by_cases k13 : (t []).kind = 13
    · rw [if_pos k13, if_pos k13, mvs_cons, mvs_nil, mv_one a (by decide) (by decide), Int.add_assoc]
    rw [if_neg k13, if_neg k13]
    by_cases k8 : 8 ≤ (t []).kind
    · rw [if_pos k8, if_pos k8, mvs_cons, mvs_nil, mv_one a (by omega) (by omega), Int.add_assoc]
    · rw [if_neg k8, if_neg k8]
      rfl
/-- No instruction of a tree's code is the end. -/
theorem catF_op {F : Nat → Int → List Ia} (b : Int) : ∀ j, (∀ i, i < j → ∀ b, ∀ x ∈ F i b, x.op ≠ 1) → ∀ x ∈ catF F j b, x.op ≠ 1
  | 0, _, x, hx => by cases hx
  | j + 1, h, x, hx => by
    unfold catF at hx
    rcases List.mem_append.1 hx with hx | hx
    · exact catF_op b j (fun i hi => h i (by omega)) x hx
    · exact h j (by omega) _ x hx
theorem altF_op {F : Nat → Int → List Ia} (e b : Int) : ∀ j, (∀ i, i < j → ∀ b, ∀ x ∈ F i b, x.op ≠ 1) → ∀ x ∈ altF F e j b, x.op ≠ 1
  | 0, _, x, hx => by cases hx
  | j + 1, h, x, hx => by
    unfold altF at hx
    rcases List.mem_append.1 hx with hx | hx
    · exact altF_op e b j (fun i hi => h i (by omega)) x hx
    · rcases List.mem_cons.1 hx with rfl | hx
      · exact fun h => absurd h (by decide : ¬ (3 : Int) = 1)
      · rcases List.mem_append.1 hx with hx | hx
        · exact h j (by omega) _ x hx
        · rcases List.mem_singleton.1 hx with rfl
          exact fun h => absurd h (by decide : ¬ (10 : Int) = 1)
theorem mvs_op {k : List Ia} (b : Int) (h : ∀ x ∈ k, x.op ≠ 1) : ∀ x ∈ mvs b k, x.op ≠ 1 := by
  intro x hx
  obtain ⟨j, hj, rfl⟩ := List.mem_map.1 hx
  exact h j hj
theorem layF_op {k : List Ia} (h : ∀ x ∈ k, x.op ≠ 1) (b : Int) : ∀ j, ∀ x ∈ layF k j b, x.op ≠ 1
  | 0, x, hx => by cases hx
  | j + 1, x, hx => by
    unfold layF at hx
    rcases List.mem_append.1 hx with hx | hx
    · exact layF_op h b j x hx
    · exact mvs_op _ h x hx
theorem optF_op {k : List Ia} (h : ∀ x ∈ k, x.op ≠ 1) (lz : Bool) (e b : Int) : ∀ j, ∀ x ∈ optF k lz e j b, x.op ≠ 1
  | 0, x, hx => by cases hx
  | j + 1, x, hx => by
    unfold optF at hx
    rcases List.mem_append.1 hx with hx | hx
    · exact optF_op h lz e b j x hx
    · rcases List.mem_cons.1 hx with rfl | hx
      · exact fun h => absurd h (by decide : ¬ (3 : Int) = 1)
      · exact mvs_op _ h x hx
theorem cod_op : ∀ (m : Nat) (t : Tr) (b : Int), ∀ x ∈ cod m t b, x.op ≠ 1
  | 0, _, _, x, hx => by cases hx
  | m + 1, t, b, x, hx => by
    unfold cod at hx
    split at hx
    · rcases List.mem_singleton.1 hx with rfl; exact fun h => absurd h (by decide : ¬ (2 : Int) = 1)
    split at hx
    · rcases List.mem_singleton.1 hx with rfl
      unfold clsC
      split
      · exact fun h => absurd h (by decide : ¬ (11 : Int) = 1)
      · exact fun h => absurd h (by decide : ¬ (2 : Int) = 1)
    split at hx
    · exact catF_op b _ (fun i _ b => cod_op m _ b) x hx
    split at hx
    · unfold altC at hx
      rcases List.mem_append.1 hx with hx | hx
      · exact altF_op _ b _ (fun i _ b => cod_op m _ b) x hx
      · exact cod_op m _ _ x hx
    split at hx
    · have h0 := cod_op m (kid t 0) 0
      unfold repC at hx
      split at hx
      · cases hx
      split at hx
      · rcases List.mem_append.1 hx with hx | hx
        · exact layF_op h0 _ _ x hx
        · rcases List.mem_cons.1 hx with rfl | hx
          · exact fun h => absurd h (by decide : ¬ (3 : Int) = 1)
          · rcases List.mem_append.1 hx with hx | hx
            · exact mvs_op _ h0 x hx
            · rcases List.mem_singleton.1 hx with rfl; exact fun h => absurd h (by decide : ¬ (10 : Int) = 1)
      · rcases List.mem_append.1 hx with hx | hx
        · exact layF_op h0 _ _ x hx
        · exact optF_op h0 _ _ _ _ x hx
    split at hx
    · rcases List.mem_cons.1 hx with rfl | hx
      · exact fun h => absurd h (by decide : ¬ (4 : Int) = 1)
      · rcases List.mem_append.1 hx with hx | hx
        · exact cod_op m _ _ x hx
        · rcases List.mem_singleton.1 hx with rfl; exact fun h => absurd h (by decide : ¬ (4 : Int) = 1)
    split at hx
    · rcases List.mem_singleton.1 hx with rfl; exact fun h => absurd h (by decide : ¬ (9 : Int) = 1)
    split at hx
    · rename_i h8
      rcases List.mem_singleton.1 hx with rfl
      exact fun h => (by dsimp only at h; omega)
    · cases hx
end Go.Proofs.Ytbciclnffokjjaa
/- Ways through a program; pieces of code and what they mean. -/
namespace Go.Proofs.Ytbciclnffokjjaa
open Go.RowKit

/-- The rune at i is taken out of the ranges. -/
def TkR (s : ByteArray) (rs : List Rg) (i j : Nat) : Prop := i < s.size ∧ rnBad s i = false ∧ inR (rnR s i) rs ∧ j = i + (Utf8.encode (rnR s i)).size
/-- What an instruction does. -/
def StI (s : ByteArray) (ins : Ia) (i y j : Nat) : Prop :=
  (goB ins.op ins.arg s i = true ∧ j = i ∧ (y = ins.out.toNat ∨ (ins.op = 3 ∧ y = ins.alt.toNat))) ∨ (ins.op = 2 ∧ TkR s ins.rs i j ∧ y = ins.out.toNat)
def Stp (c : List Ia) (s : ByteArray) (x i y j : Nat) : Prop := ∃ ins, c[x]? = some ins ∧ StI s ins i y j
/-- A way of n steps. -/
def Pth (c : List Ia) (s : ByteArray) : Nat → Nat → Nat → Nat → Nat → Prop
  | 0, x, i, y, j => x = y ∧ i = j
  | n + 1, x, i, y, j => ∃ x' i', Stp c s x i x' i' ∧ Pth c s n x' i' y j
theorem Pth.trans {c : List Ia} {s : ByteArray} : ∀ {n m x i y j z k : Nat}, Pth c s n x i y j → Pth c s m y j z k → Pth c s (n + m) x i z k
  | 0, m, x, i, y, j, z, k, h, h' => by
    obtain ⟨rfl, rfl⟩ := h
    rw [Nat.zero_add]
    exact h'
  | n + 1, m, x, i, y, j, z, k, ⟨x', i', h0, h1⟩, h' => by
    rw [Nat.add_right_comm]
    exact ⟨x', i', h0, h1.trans h'⟩
theorem Pth.one {c : List Ia} {s : ByteArray} {x i y j : Nat} (h : Stp c s x i y j) : Pth c s 1 x i y j := ⟨y, j, h, rfl, rfl⟩
/-- The code from b on, L instructions, takes what M says, and goes on behind. -/
structure Wrk (c : List Ia) (s : ByteArray) (b L : Nat) (M : Nat → Nat → Prop) : Prop where
  snd : ∀ n i y j, Pth c s n b i y j → ¬ (b ≤ y ∧ y < b + L) → ∃ n' k, n' ≤ n ∧ M i k ∧ Pth c s n' (b + L) k y j
  cmp : ∀ i k, M i k → ∃ n, Pth c s n b i (b + L) k
theorem Wrk.imp {c : List Ia} {s : ByteArray} {b L : Nat} {M M' : Nat → Nat → Prop} (h : Wrk c s b L M) (e : ∀ i k, M i k ↔ M' i k) : Wrk c s b L M' :=
  ⟨fun n i y j hp hy => by obtain ⟨n', k, h1, h2, h3⟩ := h.snd n i y j hp hy; exact ⟨n', k, h1, (e i k).1 h2, h3⟩, fun i k hm => h.cmp i k ((e i k).2 hm)⟩
theorem Wrk.nil (c : List Ia) (s : ByteArray) (b : Nat) : Wrk c s b 0 (fun i j => i = j) :=
  ⟨fun n i _ _ hp _ => ⟨n, i, Nat.le_refl _, rfl, hp⟩, fun _ _ e => ⟨0, rfl, e⟩⟩
theorem Wrk.one {c : List Ia} {s : ByteArray} {b : Nat} {ins : Ia} {M : Nat → Nat → Prop} (hi : c[b]? = some ins) (h : ∀ i y j, StI s ins i y j ↔ (y = b + 1 ∧ M i j)) : Wrk c s b 1 M := by
  refine ⟨fun n i y j hp hy => ?_, fun i k hm => ⟨1, Pth.one ⟨ins, hi, (h i _ k).2 ⟨rfl, hm⟩⟩⟩⟩
  cases n with
  | zero => exact absurd hp.1 (by omega)
  | succ n =>
    obtain ⟨x', i', ⟨ins', hi', hs⟩, hp'⟩ := hp
    rw [hi] at hi'
    cases hi'
    obtain ⟨rfl, hm⟩ := (h i x' i').1 hs
    exact ⟨n, i', by omega, hm, hp'⟩
theorem Wrk.seq {c : List Ia} {s : ByteArray} {b L1 L2 : Nat} {M1 M2 : Nat → Nat → Prop} (h1 : Wrk c s b L1 M1) (h2 : Wrk c s (b + L1) L2 M2) : Wrk c s b (L1 + L2) (fun i j => ∃ k, M1 i k ∧ M2 k j) := by
  refine ⟨fun n i y j hp hy => ?_, fun i k ⟨q, hm1, hm2⟩ => ?_⟩
  · obtain ⟨n1, k1, l1, m1, p1⟩ := h1.snd n i y j hp (by omega)
    obtain ⟨n2, k2, l2, m2, p2⟩ := h2.snd n1 k1 y j p1 (by omega)
    exact ⟨n2, k2, by omega, ⟨k1, m1, m2⟩, by rw [← Nat.add_assoc]; exact p2⟩
  · obtain ⟨n1, p1⟩ := h1.cmp _ _ hm1
    obtain ⟨n2, p2⟩ := h2.cmp _ _ hm2
    exact ⟨n1 + n2, by rw [← Nat.add_assoc]; exact p1.trans p2⟩
/-- What a choice does. -/
theorem spl_sti {s : ByteArray} {k l : Int} {lz : Bool} {i y j : Nat} : StI s (spl k l lz) i y j ↔ (j = i ∧ (y = (k + 1).toNat ∨ y = l.toNat)) := by
  unfold StI spl
  have hg : ∀ a, goB 3 a s i = true := fun a => by unfold goB; simp
  cases lz <;> simp [hg]
  · exact fun _ => Or.comm
/-- Piece 1 behind a choice, with a jump to the end; piece 2 else. -/
theorem Wrk.alt {c : List Ia} {s : ByteArray} {b L1 L2 : Nat} {M1 M2 : Nat → Nat → Prop} {i1 i2 : Ia} (e1 : c[b]? = some i1) (e2 : c[b + 1 + L1]? = some i2)
    (s1 : ∀ i y j, StI s i1 i y j ↔ (j = i ∧ (y = b + 1 ∨ y = b + 1 + L1 + 1))) (s2 : ∀ i y j, StI s i2 i y j ↔ (j = i ∧ y = b + 1 + L1 + 1 + L2))
    (h1 : Wrk c s (b + 1) L1 M1) (h2 : Wrk c s (b + 1 + L1 + 1) L2 M2) : Wrk c s b (1 + L1 + 1 + L2) (fun i j => M1 i j ∨ M2 i j) := by
  have e : b + (1 + L1 + 1 + L2) = b + 1 + L1 + 1 + L2 := by omega
  refine ⟨fun n i y j hp hy => ?_, fun i k hm => ?_⟩
  · cases n with
    | zero => exact absurd hp.1 (by omega)
    | succ n =>
      obtain ⟨x', i', ⟨ins', hi', hs⟩, hp'⟩ := hp
      rw [e1] at hi'
      cases hi'
      obtain ⟨rfl, rfl | rfl⟩ := (s1 _ _ _).1 hs
      · obtain ⟨n1, k1, l1, m1, p1⟩ := h1.snd n _ y j hp' (by omega)
        cases n1 with
        | zero => exact absurd p1.1 (by omega)
        | succ n1 =>
          obtain ⟨x2, j2, ⟨ins2, hi2, hs2⟩, hp2⟩ := p1
          rw [e2] at hi2
          cases hi2
          obtain ⟨rfl, rfl⟩ := (s2 _ _ _).1 hs2
          exact ⟨n1, _, by omega, .inl m1, by rw [e]; exact hp2⟩
      · obtain ⟨n1, k1, l1, m1, p1⟩ := h2.snd n _ y j hp' (by omega)
        exact ⟨n1, k1, by omega, .inr m1, by rw [e]; exact p1⟩
  · rw [e]
    rcases hm with hm | hm
    · obtain ⟨n1, p1⟩ := h1.cmp _ _ hm
      exact ⟨1 + (n1 + 1), (Pth.one ⟨i1, e1, (s1 _ _ _).2 ⟨rfl, .inl rfl⟩⟩).trans (p1.trans (Pth.one ⟨i2, e2, (s2 _ _ _).2 ⟨rfl, rfl⟩⟩))⟩
    · obtain ⟨n1, p1⟩ := h2.cmp _ _ hm
      exact ⟨1 + n1, (Pth.one ⟨i1, e1, (s1 _ _ _).2 ⟨rfl, .inr rfl⟩⟩).trans p1⟩
/-- n times. -/
def itM (K : Nat → Nat → Prop) : Nat → Nat → Nat → Prop
  | 0, i, j => i = j
  | n + 1, i, j => ∃ k, K i k ∧ itM K n k j
theorem itM_snoc {K : Nat → Nat → Prop} : ∀ {n i j : Nat}, itM K (n + 1) i j ↔ ∃ k, itM K n i k ∧ K k j
  | 0, i, j => ⟨fun ⟨k, h, e⟩ => ⟨i, rfl, by have e' : k = j := e; rwa [← e']⟩, fun ⟨k, e, h⟩ => ⟨j, by have e' : i = k := e; rwa [e'], rfl⟩⟩
  | n + 1, i, j => by
    constructor
    · rintro ⟨k, h, hn⟩
      obtain ⟨q, h1, h2⟩ := itM_snoc.1 hn
      exact ⟨q, ⟨k, h, h1⟩, h2⟩
    · rintro ⟨q, ⟨k, h, h1⟩, h2⟩
      exact ⟨k, h, itM_snoc.2 ⟨q, h1, h2⟩⟩
theorem itM_add {K : Nat → Nat → Prop} : ∀ {n m i j : Nat}, itM K (n + m) i j ↔ ∃ k, itM K n i k ∧ itM K m k j
  | 0, m, i, j => ⟨fun h => ⟨i, rfl, by rwa [Nat.zero_add] at h⟩, fun ⟨k, e, h⟩ => by have e' : i = k := e; rw [Nat.zero_add, e']; exact h⟩
  | n + 1, m, i, j => by
    rw [Nat.add_right_comm]
    constructor
    · rintro ⟨k, h, hn⟩
      obtain ⟨q, h1, h2⟩ := itM_add.1 hn
      exact ⟨q, ⟨k, h, h1⟩, h2⟩
    · rintro ⟨q, ⟨k, h, h1⟩, h2⟩
      exact ⟨k, h, itM_add.2 ⟨q, h1, h2⟩⟩
/-- A piece that may be gone through any number of times. -/
theorem Wrk.star {c : List Ia} {s : ByteArray} {b L : Nat} {K : Nat → Nat → Prop} {i1 i2 : Ia} (e1 : c[b]? = some i1) (e2 : c[b + 1 + L]? = some i2)
    (s1 : ∀ i y j, StI s i1 i y j ↔ (j = i ∧ (y = b + 1 ∨ y = b + 1 + L + 1))) (s2 : ∀ i y j, StI s i2 i y j ↔ (j = i ∧ y = b))
    (h : Wrk c s (b + 1) L K) : Wrk c s b (1 + L + 1) (fun i j => ∃ n, itM K n i j) := by
  have e : b + (1 + L + 1) = b + 1 + L + 1 := by omega
  refine ⟨?_, ?_⟩
  · intro n
    induction n using Nat.strongRecOn with
    | ind n ih =>
      intro i y j hp hy
      cases n with
      | zero => exact absurd hp.1 (by omega)
      | succ n =>
        obtain ⟨x', i', ⟨ins', hi', hs⟩, hp'⟩ := hp
        rw [e1] at hi'
        cases hi'
        obtain ⟨rfl, rfl | rfl⟩ := (s1 _ _ _).1 hs
        · obtain ⟨n1, k1, l1, m1, p1⟩ := h.snd n _ y j hp' (by omega)
          cases n1 with
          | zero => exact absurd p1.1 (by omega)
          | succ n1 =>
            obtain ⟨x2, j2, ⟨ins2, hi2, hs2⟩, hp2⟩ := p1
            rw [e2] at hi2
            cases hi2
            obtain ⟨rfl, rfl⟩ := (s2 _ _ _).1 hs2
            obtain ⟨n3, k3, l3, ⟨q, m3⟩, p3⟩ := ih n1 (by omega) _ y j hp2 hy
            exact ⟨n3, k3, by omega, ⟨q + 1, _, m1, m3⟩, p3⟩
        · exact ⟨n, _, by omega, ⟨0, rfl⟩, by rw [e]; exact hp'⟩
  · rintro i k ⟨n, hm⟩
    rw [e]
    induction n generalizing i with
    | zero =>
      have e' : i = k := hm
      exact ⟨1, Pth.one ⟨i1, e1, (s1 _ _ _).2 ⟨e'.symm, .inr rfl⟩⟩⟩
    | succ n ih =>
      obtain ⟨q, h1, h2⟩ := hm
      obtain ⟨n1, p1⟩ := h.cmp _ _ h1
      obtain ⟨n2, p2⟩ := ih q h2
      exact ⟨1 + (n1 + (1 + n2)), (Pth.one ⟨i1, e1, (s1 _ _ _).2 ⟨rfl, .inl rfl⟩⟩).trans (p1.trans ((Pth.one ⟨i2, e2, (s2 _ _ _).2 ⟨rfl, rfl⟩⟩).trans p2))⟩
/-- A piece that may be left out, with all that follows up to the place e = b + 1 + L + R. -/
theorem Wrk.opt {c : List Ia} {s : ByteArray} {b L R : Nat} {K N : Nat → Nat → Prop} {i1 : Ia} (e1 : c[b]? = some i1)
    (s1 : ∀ i y j, StI s i1 i y j ↔ (j = i ∧ (y = b + 1 ∨ y = b + 1 + L + R)))
    (h : Wrk c s (b + 1) L K) (hr : Wrk c s (b + 1 + L) R N) : Wrk c s b (1 + L + R) (fun i j => i = j ∨ ∃ k, K i k ∧ N k j) := by
  have e : b + (1 + L + R) = b + 1 + L + R := by omega
  have hs := h.seq hr
  have e' : b + 1 + (L + R) = b + 1 + L + R := by omega
  refine ⟨fun n i y j hp hy => ?_, fun i k hm => ?_⟩
  · cases n with
    | zero => exact absurd hp.1 (by omega)
    | succ n =>
      obtain ⟨x', i', ⟨ins', hi', hst⟩, hp'⟩ := hp
      rw [e1] at hi'
      cases hi'
      obtain ⟨rfl, rfl | rfl⟩ := (s1 _ _ _).1 hst
      · obtain ⟨n1, k1, l1, m1, p1⟩ := hs.snd n _ y j hp' (by omega)
        exact ⟨n1, k1, by omega, .inr m1, by rw [e, ← e']; exact p1⟩
      · exact ⟨n, _, by omega, .inl rfl, by rw [e]; exact hp'⟩
  · rw [e]
    rcases hm with rfl | hm
    · exact ⟨1, Pth.one ⟨i1, e1, (s1 _ _ _).2 ⟨rfl, .inr rfl⟩⟩⟩
    · obtain ⟨n1, p1⟩ := hs.cmp _ _ hm
      rw [e'] at p1
      exact ⟨1 + n1, (Pth.one ⟨i1, e1, (s1 _ _ _).2 ⟨rfl, .inl rfl⟩⟩).trans p1⟩
end Go.Proofs.Ytbciclnffokjjaa
