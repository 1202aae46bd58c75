/- Texts made of pieces, as lists of bytes: how a literal closes, what a body means, and that it is UTF-8. The mathematics. -/
import Derived.Test.YtdnbkgbgpfmipabDoorUnq
import Derived.Test.YtdnbkgbgpfmipabDoorWrt
import Derived.Test.YtdnbkgbgpfmipabDoorEnc
namespace Go.Proofs.YtdnbkgbgpfmipabDoor
open Go.RowKit Go.Lib

theorem nums_size (L : List Int) : (strOfNums L).size = L.length := by simp [strOfNums, ByteArray.size]
theorem nums_app (L M : List Int) : strOfNums (L ++ M) = strOfNums L ++ strOfNums M := by
  apply ByteArray.ext
  simp [strOfNums]
theorem bt_nums (L : List Int) (i : Nat) (v : Int) (h : L[i]? = some v) (h0 : 0 ≤ v) (h1 : v ≤ 255) : bt (strOfNums L) i = v := by
  have hi : i < L.length := (List.getElem?_eq_some_iff.1 h).1
  unfold bt strOfNums
  rw [get!_mk (L.map fun n => UInt8.ofNat n.toNat) i (UInt8.ofNat v.toNat) (by rw [List.getElem?_map, h]; rfl)]
  rw [byte_of _ (by omega)]
  omega
theorem nums_drop (L : List Int) (a : Nat) : (strOfNums L).extract a (strOfNums L).size = strOfNums (L.drop a) := by
  apply ByteArray.ext
  apply Array.toList_inj.1
  rw [suffix_data]
  simp [strOfNums, List.map_drop]
theorem nums_body (q r : Int) (X : List Int) : (strOfNums (q :: X ++ [r])).extract 1 ((strOfNums (q :: X ++ [r])).size - 1) = strOfNums X := by
  rw [nums_size]
  apply ByteArray.ext
  simp [strOfNums]
theorem nums_bts (s : ByteArray) : ∀ (k i : Nat), i + k = s.size → strOfNums (bts s k i) = s.extract i s.size
  | 0, i, h => by
    apply ByteArray.ext
    simp [bts, strOfNums]
    omega
  | k + 1, i, h => by
    have ih := nums_bts s k (i + 1) (by omega)
    show strOfNums ([bt s i] ++ bts s k (i + 1)) = _
    rw [nums_app, ih]
    apply ByteArray.ext
    apply Array.toList_inj.1
    rw [ByteArray.data_append, Array.toList_append, suffix_data, suffix_data, data_drop s i (by omega)]
    simp only [strOfNums, bt, List.map_cons, List.map_nil, List.cons_append, List.nil_append, List.cons.injEq, and_true]
    simp
theorem nums_all (s : ByteArray) : strOfNums (bts s s.size 0) = s := by
  rw [nums_bts s s.size 0 (by omega)]
  simp

/-- All of a list are bytes. -/
def byts (L : List Int) : Prop := ∀ x ∈ L, 0 ≤ x ∧ x ≤ 255

/-- How a literal closes, from a place on. -/
def lit (T : ByteArray) (q : Int) (i : Nat) : Option Nat := litF T q true T.size i
theorem lit_go (T : ByteArray) (q : Int) (i : Nat) (h : i < T.size) (hq : bt T i ≠ q) (h1 : bt T i ≠ 10) (h2 : bt T i ≠ 92) : lit T q i = lit T q (i + 1) := by
  unfold lit
  rw [litF_go T q true T.size i h (by omega) hq (fun x => h1 x.2) (fun x => h2 x.2), litF_fuel T q true (T.size - 1) T.size (i + 1) (by omega) (by omega)]
theorem lit_bs (T : ByteArray) (q : Int) (i : Nat) (h : i < T.size) (hq : bt T i ≠ q) (hb : bt T i = 92) (hn : bt T (i + 1) ≠ 10) : lit T q i = lit T q (i + 2) := by
  unfold lit
  rw [litF_bs T q T.size i h (by omega) hq hb (fun x => hn x.2), litF_fuel T q true (T.size - 1) T.size (i + 2) (by omega) (by omega)]
theorem lit_run (T : ByteArray) (q : Int) : ∀ (k i : Nat), i + k ≤ T.size → (∀ j, i ≤ j → j < i + k → bt T j ≠ q ∧ bt T j ≠ 10 ∧ bt T j ≠ 92) → lit T q i = lit T q (i + k)
  | 0, i, _, _ => rfl
  | k + 1, i, h, hp => by
    obtain ⟨a, b, c⟩ := hp i (by omega) (by omega)
    rw [lit_go T q i (by omega) a b c, lit_run T q k (i + 1) (by omega) (fun j h1 h2 => hp j (by omega) (by omega)), show i + 1 + k = i + (k + 1) by omega]

/-- A piece that a literal's end does not lie in. -/
def LitOk (q : Int) (x : List Int) : Prop := (∀ c ∈ x, c ≠ q ∧ c ≠ 10 ∧ c ≠ 92) ∨ ∃ d e, x = 92 :: d :: e ∧ d ≠ 10 ∧ ∀ c ∈ e, c ≠ q ∧ c ≠ 10 ∧ c ≠ 92

theorem at_mid (pre x rest : List Int) (j : Nat) (h1 : pre.length ≤ j) (h2 : j < pre.length + x.length) (hb : byts x) : ∃ c, c ∈ x ∧ x[j - pre.length]? = some c ∧ bt (strOfNums (pre ++ x ++ rest)) j = c := by
  have hj : j - pre.length < x.length := by omega
  refine ⟨x[j - pre.length], List.getElem_mem hj, List.getElem?_eq_getElem hj, ?_⟩
  have hm := hb _ (List.getElem_mem hj)
  refine bt_nums _ j _ ?_ hm.1 hm.2
  rw [List.append_assoc, List.getElem?_append_right h1, List.getElem?_append_left hj, List.getElem?_eq_getElem hj]

theorem lit_piece (q : Int) (hq : q ≠ 92) (pre x rest : List Int) (hb : byts x) (h : LitOk q x) : lit (strOfNums (pre ++ x ++ rest)) q pre.length = lit (strOfNums (pre ++ x ++ rest)) q (pre.length + x.length) := by
  have hs : (strOfNums (pre ++ x ++ rest)).size = pre.length + x.length + rest.length := by rw [nums_size]; simp; omega
  rcases h with h | ⟨d, e, rfl, hd, he⟩
  · refine lit_run _ q x.length pre.length (by omega) (fun j h1 h2 => ?_)
    obtain ⟨c, hc, _, e⟩ := at_mid pre x rest j h1 h2 hb
    rw [e]; exact h c hc
  · have hl : (92 :: d :: e).length = e.length + 2 := rfl
    obtain ⟨c0, _, g0, e0⟩ := at_mid pre (92 :: d :: e) rest pre.length (by omega) (by omega) hb
    obtain ⟨c1, _, g1, e1⟩ := at_mid pre (92 :: d :: e) rest (pre.length + 1) (by omega) (by omega) hb
    rw [Nat.sub_self] at g0
    rw [show pre.length + 1 - pre.length = 1 by omega] at g1
    simp at g0 g1
    subst g0 g1
    rw [lit_bs _ q pre.length (by omega) (by rw [e0]; exact fun x => hq x.symm) e0 (by rw [e1]; exact hd), lit_run _ q e.length (pre.length + 2) (by omega) (fun j h1 h2 => ?_)]
    · congr 1; omega
    · obtain ⟨c, _, g, ee⟩ := at_mid pre (92 :: d :: e) rest j (by omega) (by omega) hb
      rw [ee]
      refine he c ?_
      obtain ⟨m, hm⟩ : ∃ m, j - pre.length = m + 2 := ⟨j - pre.length - 2, by omega⟩
      rw [hm] at g
      simp at g
      exact List.mem_of_getElem? g

theorem lit_pieces (q : Int) (hq : q ≠ 92) : ∀ (xs : List (List Int)) (pre rest : List Int), (∀ x ∈ xs, byts x ∧ LitOk q x) → lit (strOfNums (pre ++ xs.flatten ++ rest)) q pre.length = lit (strOfNums (pre ++ xs.flatten ++ rest)) q (pre.length + xs.flatten.length)
  | [], pre, rest, _ => by simp
  | x :: xs, pre, rest, h => by
    have h0 := h x (by simp)
    have p := lit_piece q hq pre x (xs.flatten ++ rest) h0.1 h0.2
    have i := lit_pieces q hq xs (pre ++ x) rest (fun y hy => h y (by simp [hy]))
    have e1 : pre ++ x ++ (xs.flatten ++ rest) = pre ++ (x :: xs).flatten ++ rest := by simp
    have e2 : pre ++ x ++ xs.flatten ++ rest = pre ++ (x :: xs).flatten ++ rest := by simp
    rw [e1] at p
    rw [e2] at i
    rw [p, ← List.length_append, i]
    congr 1
    simp
    omega

/-- A literal of pieces between two quotes closes just behind the second. -/
theorem lit_whole (q : Int) (hq : q = 34 ∨ q = 39) (xs : List (List Int)) (head rest : List Int) (h : ∀ x ∈ xs, byts x ∧ LitOk q x) :
    litZ (strOfNums (head ++ (q :: xs.flatten ++ [q]) ++ rest)) (head.length : Int) = (((head.length + (q :: xs.flatten ++ [q]).length : Nat) : Int), 0) := by
  have e1 : head ++ (q :: xs.flatten ++ [q]) ++ rest = (head ++ [q]) ++ xs.flatten ++ (q :: rest) := by simp
  have p := lit_pieces q (by omega) xs (head ++ [q]) (q :: rest) h
  rw [← e1] at p
  have hs : (strOfNums (head ++ (q :: xs.flatten ++ [q]) ++ rest)).size = head.length + xs.flatten.length + 2 + rest.length := by rw [nums_size]; simp; omega
  have b0 : bt (strOfNums (head ++ (q :: xs.flatten ++ [q]) ++ rest)) head.length = q := bt_nums _ _ q (by simp) (by omega) (by omega)
  have b1 : bt (strOfNums (head ++ (q :: xs.flatten ++ [q]) ++ rest)) (head.length + 1 + xs.flatten.length) = q := by
    refine bt_nums _ _ q ?_ (by omega) (by omega)
    have hl : (head ++ [q] ++ xs.flatten).length = head.length + 1 + xs.flatten.length := by rw [List.length_append, List.length_append]; rfl
    rw [e1, List.getElem?_append_right (by omega), hl, Nat.sub_self]
    rfl
  generalize strOfNums (head ++ (q :: xs.flatten ++ [q]) ++ rest) = T at *
  have hl : (head ++ [q]).length = head.length + 1 := by simp
  rw [hl] at p
  have hz : (0 : Int) ≤ (head.length : Int) := by omega
  unfold litZ
  rw [if_pos hz, Int.toNat_natCast]
  unfold litR
  rw [b0, if_pos ⟨by omega, by omega⟩, show decide (q ≠ 96) = true by simp; omega]
  have e2 : lit T q (head.length + 1) = some (head.length + (q :: xs.flatten ++ [q]).length) := by
    rw [p]
    unfold lit
    rw [litF_q T q true T.size _ (by omega) (by omega) b1]
    congr 1
    simp
    omega
  unfold lit at e2
  rw [e2]
  rfl

/-- A number told by digits at the head of a text. -/
theorem numA_list (base : Int) (hb : base ≤ 16) : ∀ (ds pre rest : List Int) (acc : Int), (∀ d ∈ ds, dg d < base) → numA (strOfNums (pre ++ ds ++ rest)) base ds.length pre.length acc = some (ds.foldl (fun a d => a * base + dg d) acc)
  | [], _, _, _, _ => rfl
  | d :: ds, pre, rest, acc, h => by
    have h0 := h d (by simp)
    have hd : 0 ≤ d ∧ d ≤ 255 := by
      unfold dg at h0
      split at h0
      · omega
      · split at h0
        · omega
        · split at h0
          · omega
          · omega
    have e0 : bt (strOfNums (pre ++ (d :: ds) ++ rest)) pre.length = d := bt_nums _ _ d (by simp) hd.1 hd.2
    have ih := numA_list base hb ds (pre ++ [d]) rest (acc * base + dg d) (fun x hx => h x (by simp [hx]))
    rw [show pre ++ [d] ++ ds ++ rest = pre ++ (d :: ds) ++ rest by simp, List.length_append] at ih
    show numA (strOfNums (pre ++ (d :: ds) ++ rest)) base (ds.length + 1) pre.length acc = _
    rw [numA, e0, if_pos h0]
    exact ih
theorem num_list (base : Int) (hb : base ≤ 16) (ds rest : List Int) (h : ∀ d ∈ ds, dg d < base) : num (strOfNums (ds ++ rest)) ds.length base = some (ds.foldl (fun a d => a * base + dg d) 0) := by
  unfold num
  rw [if_neg (by rw [nums_size]; simp)]
  exact numA_list base hb ds [] rest 0 h
theorem num_list1 (base : Int) (hb : base ≤ 16) (c : Int) (ds rest : List Int) (h : ∀ d ∈ ds, dg d < base) : num ((strOfNums (c :: ds ++ rest)).extract 1 (strOfNums (c :: ds ++ rest)).size) ds.length base = some (ds.foldl (fun a d => a * base + dg d) 0) := by
  rw [nums_drop]
  exact num_list base hb ds rest h

theorem dg_hx (n : Int) (h0 : 0 ≤ n) (h1 : n < 16) : dg (hx n) = n := by
  unfold hx dg
  split
  · rw [if_pos (by omega)]; omega
  · rw [if_neg (by omega), if_pos (by omega)]; omega
theorem hx_bd (n : Int) (h0 : 0 ≤ n) (h1 : n < 16) : (48 ≤ hx n ∧ hx n ≤ 57) ∨ (97 ≤ hx n ∧ hx n ≤ 102) := by
  unfold hx
  split
  · omega
  · omega

/-- A piece and what it means, the escapes read by 'esc'. -/
def PieceOk (esc : ByteArray → Option (List Int × Nat)) (x y : List Int) : Prop := (x = y ∧ byts x ∧ ∀ c ∈ x, c ≠ 92) ∨ ∃ e, x = 92 :: e ∧ ∀ rest, esc (strOfNums (e ++ rest)) = some (y, e.length)

theorem bts_mid (pre x rest : List Int) (hb : byts x) : bts (strOfNums (pre ++ x ++ rest)) x.length pre.length = x := by
  refine (bts_eq _ _ _ _ rfl (fun j hj => ?_)).symm
  obtain ⟨c, _, g, e⟩ := at_mid pre x rest (pre.length + j) (by omega) (by omega) hb
  rw [show pre.length + j - pre.length = j by omega] at g
  rw [e]; simp [List.getD, g]

theorem mn_piece (q : Int) (pre x y rest : List Int) (h : PieceOk (fun e => escS e q) x y) : mn (strOfNums (pre ++ x ++ rest)) q pre.length = (mn (strOfNums (pre ++ x ++ rest)) q (pre.length + x.length)).map (y ++ ·) := by
  have hs : (strOfNums (pre ++ x ++ rest)).size = pre.length + x.length + rest.length := by rw [nums_size]; simp; omega
  rcases h with ⟨rfl, hb, h⟩ | ⟨e, rfl, h⟩
  · rw [mn_run _ q x.length pre.length (by omega) (fun j h1 h2 => by obtain ⟨c, hc, _, e⟩ := at_mid pre x rest j h1 h2 hb; rw [e]; exact h c hc), bts_mid pre x rest hb]
  · have e0 : bt (strOfNums (pre ++ (92 :: e) ++ rest)) pre.length = 92 := bt_nums _ _ 92 (by simp) (by omega) (by omega)
    have hl : (92 :: e).length = e.length + 1 := rfl
    have hx : (strOfNums (pre ++ (92 :: e) ++ rest)).extract (pre.length + 1) (strOfNums (pre ++ (92 :: e) ++ rest)).size = strOfNums (e ++ rest) := by
      rw [nums_drop]
      congr 1
      rw [show pre ++ (92 :: e) ++ rest = (pre ++ [92]) ++ (e ++ rest) by simp, List.drop_left' (by simp)]
    rw [mn_some _ q pre.length y e.length (by omega) e0 (by rw [hx]; exact h rest), show pre.length + 1 + e.length = pre.length + (92 :: e).length by simp; omega]
theorem mn_pieces (q : Int) : ∀ (cs : List (List Int × List Int)) (pre : List Int), (∀ c ∈ cs, PieceOk (fun e => escS e q) c.1 c.2) → mn (strOfNums (pre ++ cs.flatMap (·.1))) q pre.length = some (cs.flatMap (·.2))
  | [], pre, _ => by
    rw [mn_end _ q _ (by rw [nums_size]; simp)]
    rfl
  | c :: cs, pre, h => by
    have p := mn_piece q pre c.1 c.2 (cs.flatMap (·.1)) (h c (by simp))
    have i := mn_pieces q cs (pre ++ c.1) (fun y hy => h y (by simp [hy]))
    rw [List.flatMap_cons, ← List.append_assoc, p, ← List.length_append, i]
    simp

/-- Runes as bytes. -/
theorem enc_nums (x : Int) (h : isRune x = true) : Utf8.encode x = strOfNums (formL x) := by
  have hq := (isRune_iff x).1 h
  unfold Utf8.encode formL
  rw [valid_iff, h]
  simp only [if_true]
  by_cases h1 : x < 128
  · rw [if_pos (show x.toNat < 0x80 by omega), if_pos h1]; rfl
  · rw [if_neg (show ¬ x.toNat < 0x80 by omega), if_neg h1]
    by_cases h2 : x < 2048
    · rw [if_pos (show x.toNat < 0x800 by omega), if_pos h2]
      have e1 : (192 + x / 64).toNat = 192 + x.toNat / 64 := by omega
      have e2 : (128 + x % 64).toNat = 128 + x.toNat % 64 := by omega
      show _ = (⟨#[UInt8.ofNat (192 + x / 64).toNat, UInt8.ofNat (128 + x % 64).toNat]⟩ : ByteArray)
      rw [e1, e2]
    · rw [if_neg (show ¬ x.toNat < 0x800 by omega), if_neg h2]
      by_cases h3 : x < 65536
      · rw [if_pos (show x.toNat < 0x10000 by omega), if_pos h3]
        have e1 : (224 + x / 4096).toNat = 224 + x.toNat / 4096 := by omega
        have e2 : (128 + x / 64 % 64).toNat = 128 + x.toNat / 64 % 64 := by omega
        have e3 : (128 + x % 64).toNat = 128 + x.toNat % 64 := by omega
        show _ = (⟨#[UInt8.ofNat (224 + x / 4096).toNat, UInt8.ofNat (128 + x / 64 % 64).toNat, UInt8.ofNat (128 + x % 64).toNat]⟩ : ByteArray)
        rw [e1, e2, e3]
      · rw [if_neg (show ¬ x.toNat < 0x10000 by omega), if_neg h3]
        have e1 : (240 + x / 262144).toNat = 240 + x.toNat / 262144 := by omega
        have e2 : (128 + x / 4096 % 64).toNat = 128 + x.toNat / 4096 % 64 := by omega
        have e3 : (128 + x / 64 % 64).toNat = 128 + x.toNat / 64 % 64 := by omega
        have e4 : (128 + x % 64).toNat = 128 + x.toNat % 64 := by omega
        show _ = (⟨#[UInt8.ofNat (240 + x / 262144).toNat, UInt8.ofNat (128 + x / 4096 % 64).toNat, UInt8.ofNat (128 + x / 64 % 64).toNat, UInt8.ofNat (128 + x % 64).toNat]⟩ : ByteArray)
        rw [e1, e2, e3, e4]
theorem rb_nums : ∀ (xs : List Int), (∀ x ∈ xs, isRune x = true) → runesBytes xs = strOfNums (xs.flatMap formL)
  | [], _ => rfl
  | x :: xs, h => by
    rw [rb_cons, enc_nums x (h x (by simp)), rb_nums xs (fun y hy => h y (by simp [hy])), List.flatMap_cons, nums_app]
theorem nums_vld (xs : List Int) (h : ∀ x ∈ xs, isRune x = true) : vld (strOfNums (xs.flatMap formL)) (strOfNums (xs.flatMap formL)).size 0 = true := by
  rw [← rb_nums xs h]
  exact (rb_vld xs h).1
theorem formL_byts (n : Int) (h : isRune n = true) : byts (formL n) := by
  have hq := (isRune_iff n).1 h
  unfold byts formL
  rw [if_pos h]
  intro x
  repeat' split
  all_goals simp
  all_goals omega
theorem ascii_form : ∀ (l : List Int), (∀ x ∈ l, 0 ≤ x ∧ x < 128) → l.flatMap formL = l
  | [], _ => rfl
  | x :: l, h => by
    rw [List.flatMap_cons, form1 x (h x (by simp)), ascii_form l (fun y hy => h y (by simp [hy]))]; rfl
theorem ascii_rune (x : Int) (h : 0 ≤ x ∧ x < 128) : isRune x = true := (isRune_iff x).2 (by omega)

/-- A rune written, as runes. -/
def runeR (B : Int → List Int) (r : Int) : List Int := if r < 128 then B r else [r]
theorem runeW_runes (B : Int → List Int) (hB : ∀ r, 0 ≤ r → r < 128 → ∀ x ∈ B r, 0 ≤ x ∧ x < 128) (r : Int) (h : isRune r = true) : runeW B r = (runeR B r).flatMap formL ∧ ∀ x ∈ runeR B r, isRune x = true := by
  have hq := (isRune_iff r).1 h
  unfold runeW runeR
  split
  · rename_i hl
    exact ⟨(ascii_form _ (hB r hq.1 hl)).symm, fun x hx => ascii_rune x (hB r hq.1 hl x hx)⟩
  · exact ⟨by simp, fun x hx => by simp at hx; rw [hx]; exact h⟩
theorem wrF_rns (B : Int → List Int) (s : ByteArray) : ∀ (f p : Nat), wrF B s f p = (rns s f p).flatMap (runeW B)
  | 0, _ => rfl
  | f + 1, p => by
    unfold wrF rns
    split
    · rw [wrF_rns B s f, List.flatMap_cons]
    · rfl
theorem wrF_rb (B : Int → List Int) (R : List Int) (h : ∀ x ∈ R, isRune x = true) : wrF B (runesBytes R) (runesBytes R).size 0 = R.flatMap (runeW B) := by
  rw [wrF_rns, (rb_vld R h).2]
/-- A text of written runes between two quotes is UTF-8. -/
theorem written_vld (B : Int → List Int) (hB : ∀ r, 0 ≤ r → r < 128 → ∀ x ∈ B r, 0 ≤ x ∧ x < 128) (R : List Int) (h : ∀ x ∈ R, isRune x = true) :
    vld (strOfNums ([34] ++ R.flatMap (runeW B) ++ [34])) (strOfNums ([34] ++ R.flatMap (runeW B) ++ [34])).size 0 = true := by
  have e : [34] ++ R.flatMap (runeW B) ++ [34] = ([34] ++ R.flatMap (runeR B) ++ [34]).flatMap formL := by
    rw [List.flatMap_append, List.flatMap_append, ascii_form [34] (by simp), List.flatMap_assoc]
    congr 2
    induction R with
    | nil => rfl
    | cons r R ih =>
      rw [List.flatMap_cons, List.flatMap_cons, (runeW_runes B hB r (h r (by simp))).1, ih (fun x hx => h x (by simp [hx]))]
  rw [e]
  refine nums_vld _ (fun x hx => ?_)
  simp only [List.mem_append, List.mem_flatMap, List.mem_singleton] at hx
  rcases hx with (rfl | ⟨r, hr, hx⟩) | rfl
  · rfl
  · exact (runeW_runes B hB r (h r hr)).2 x hx
  · rfl
theorem flat_map_flatten {α β : Type} (l : List α) (f : α → List β) : l.flatMap f = (l.map f).flatten := by
  rw [List.flatMap_def]
end Go.Proofs.YtdnbkgbgpfmipabDoor
