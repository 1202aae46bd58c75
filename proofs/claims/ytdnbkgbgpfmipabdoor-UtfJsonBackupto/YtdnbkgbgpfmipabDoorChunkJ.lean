/- What Json writes, and what Unjson makes of it. The mathematics. -/
import Derived.Test.YtdnbkgbgpfmipabDoorChunk
import Derived.Test.YtdnbkgbgpfmipabDoorUj
namespace Go.Proofs.YtdnbkgbgpfmipabDoor
open Go.RowKit Go.Lib

theorem mg_piece (esc : ByteArray → Option (List Int × Nat)) (pre x y rest : List Int) (h : PieceOk esc x y) : mg esc (strOfNums (pre ++ x ++ rest)) pre.length = (mg esc (strOfNums (pre ++ x ++ rest)) (pre.length + x.length)).map (y ++ ·) := by
  have hs : (strOfNums (pre ++ x ++ rest)).size = pre.length + x.length + rest.length := by rw [nums_size]; simp; omega
  rcases h with ⟨rfl, hb, h⟩ | ⟨e, rfl, h⟩
  · rw [mg_run esc _ x.length pre.length (by omega) (fun j h1 h2 => by obtain ⟨c, hc, _, e⟩ := at_mid pre x rest j h1 h2 hb; rw [e]; exact h c hc), bts_mid pre x rest hb]
  · have e0 : bt (strOfNums (pre ++ (92 :: e) ++ rest)) pre.length = 92 := bt_nums _ _ 92 (by simp) (by omega) (by omega)
    have hl : (92 :: e).length = e.length + 1 := rfl
    have hx : (strOfNums (pre ++ (92 :: e) ++ rest)).extract (pre.length + 1) (strOfNums (pre ++ (92 :: e) ++ rest)).size = strOfNums (e ++ rest) := by
      rw [nums_drop]
      congr 1
      rw [show pre ++ (92 :: e) ++ rest = (pre ++ [92]) ++ (e ++ rest) by simp, List.drop_left' (by simp)]
    rw [mg_some esc _ pre.length y e.length (by omega) e0 (by rw [hx]; exact h rest), show pre.length + 1 + e.length = pre.length + (92 :: e).length by simp; omega]
theorem mg_pieces (esc : ByteArray → Option (List Int × Nat)) : ∀ (cs : List (List Int × List Int)) (pre : List Int), (∀ c ∈ cs, PieceOk esc c.1 c.2) → mg esc (strOfNums (pre ++ cs.flatMap (·.1))) pre.length = some (cs.flatMap (·.2))
  | [], pre, _ => by
    rw [mg_end esc _ _ (by rw [nums_size]; simp)]
    rfl
  | c :: cs, pre, h => by
    have p := mg_piece esc pre c.1 c.2 (cs.flatMap (·.1)) (h c (by simp))
    have i := mg_pieces esc cs (pre ++ c.1) (fun y hy => h y (by simp [hy]))
    rw [List.flatMap_cons, ← List.append_assoc, p, ← List.length_append, i]
    simp

/-- A piece as the law looks through it. -/
def JsOk (x : List Int) : Prop := (∀ c ∈ x, 32 ≤ c ∧ c ≤ 255 ∧ c ≠ 34 ∧ c ≠ 92) ∨ ∃ d e, x = 92 :: d :: e ∧ 32 ≤ d ∧ d ≤ 255 ∧ ∀ c ∈ e, 32 ≤ c ∧ c ≤ 255 ∧ c ≠ 34 ∧ c ≠ 92
theorem JsOk.low {x : List Int} (h : JsOk x) : ∀ c ∈ x, 32 ≤ c ∧ c ≤ 255 := by
  rcases h with h | ⟨d, e, rfl, h1, h2, h⟩
  · exact fun c hc => ⟨(h c hc).1, (h c hc).2.1⟩
  · intro c hc
    simp at hc
    rcases hc with rfl | rfl | hc
    · omega
    · omega
    · exact ⟨(h c hc).1, (h c hc).2.1⟩
theorem JsOk.byts {x : List Int} (h : JsOk x) : byts x := fun c hc => by have := h.low c hc; omega
theorem JsOk.lit {x : List Int} (h : JsOk x) : LitOk 34 x := by
  rcases h with h | ⟨d, e, rfl, h1, h2, h⟩
  · exact .inl fun c hc => by have := h c hc; omega
  · exact .inr ⟨d, e, rfl, by omega, fun c hc => by have := h c hc; omega⟩

theorem bt_head (c : Int) (l : List Int) (h0 : 0 ≤ c) (h1 : c ≤ 255) : bt (strOfNums (c :: l)) 0 = c := bt_nums _ 0 c rfl h0 h1

theorem jesc_self (c : Int) (h : c = 34 ∨ c = 92) (rest : List Int) : jescS (strOfNums ([c] ++ rest)) = some ([c], [c].length) := by
  have hb : bt (strOfNums ([c] ++ rest)) 0 = c := bt_head c rest (by omega) (by omega)
  unfold jescS
  rw [hb, if_neg (by omega), if_pos (by omega)]
  rfl
theorem jesc_letter (c : Int) (h : 8 ≤ c ∧ c ≤ 13 ∧ c ≠ 11) (rest : List Int) : jescS (strOfNums ([l7 c] ++ rest)) = some ([c], [l7 c].length) := by
  have hl : l7 c = 98 ∧ c = 8 ∨ l7 c = 116 ∧ c = 9 ∨ l7 c = 110 ∧ c = 10 ∨ l7 c = 102 ∧ c = 12 ∨ l7 c = 114 ∧ c = 13 := by
    unfold l7
    repeat' split
    all_goals omega
  have hb : bt (strOfNums ([l7 c] ++ rest)) 0 = l7 c := bt_head _ rest (by omega) (by omega)
  unfold jescS
  rw [hb, if_neg (by omega), if_neg (by omega)]
  rcases hl with ⟨e, rfl⟩ | ⟨e, rfl⟩ | ⟨e, rfl⟩ | ⟨e, rfl⟩ | ⟨e, rfl⟩ <;> rw [e] <;> rfl
theorem jesc_unit (c : Int) (h0 : 0 ≤ c) (h1 : c < 32) (rest : List Int) : jescS (strOfNums ([117, 48, 48, hx (c / 16), hx (c % 16)] ++ rest)) = some ([c], [117, 48, 48, hx (c / 16), hx (c % 16)].length) := by
  have hb : bt (strOfNums ([117, 48, 48, hx (c / 16), hx (c % 16)] ++ rest)) 0 = 117 := bt_head _ _ (by omega) (by omega)
  have d1 := dg_hx (c / 16) (by omega) (by omega)
  have d2 := dg_hx (c % 16) (by omega) (by omega)
  have hn := num_list1 16 (by omega) 117 [48, 48, hx (c / 16), hx (c % 16)] rest (by
    intro d hd
    simp at hd
    rcases hd with rfl | rfl | rfl
    · decide
    · omega
    · omega)
  have d0 : dg 48 = 0 := rfl
  simp only [List.foldl_cons, List.foldl_nil, d1, d2, d0] at hn
  rw [show (((0 * 16 + 0) * 16 + 0) * 16 + c / 16) * 16 + c % 16 = c by omega] at hn
  have hn' : num ((strOfNums ([117, 48, 48, hx (c / 16), hx (c % 16)] ++ rest)).extract 1 (strOfNums ([117, 48, 48, hx (c / 16), hx (c % 16)] ++ rest)).size) 4 16 = some c := hn
  have hr : isRune c = true := ascii_rune c (by omega)
  unfold jescS
  rw [hb, if_pos rfl]
  unfold unitsS
  rw [hn']
  simp only
  rw [if_neg (by omega)]
  unfold runeS
  rw [hn']
  simp only [hr, if_true]
  rw [form1 c (by omega)]
  rfl

theorem byteJ_ok (c : Int) (h0 : 0 ≤ c) (h1 : c < 128) : PieceOk jescS (byteJ c) [c] ∧ JsOk (byteJ c) ∧ ∀ x ∈ byteJ c, 0 ≤ x ∧ x < 128 := by
  unfold byteJ
  by_cases h2 : c = 34 ∨ c = 92
  · rw [if_pos h2]
    exact ⟨.inr ⟨[c], rfl, jesc_self c h2⟩, .inr ⟨c, [], rfl, by omega, by omega, by simp⟩, by simp; omega⟩
  · rw [if_neg h2]
    by_cases h3 : 8 ≤ c ∧ c ≤ 13 ∧ c ≠ 11
    · rw [if_pos h3]
      have hl : 97 ≤ l7 c ∧ l7 c ≤ 118 := by
        unfold l7
        repeat' split
        all_goals omega
      exact ⟨.inr ⟨[l7 c], rfl, jesc_letter c h3⟩, .inr ⟨l7 c, [], rfl, by omega, by omega, by simp⟩, by simp; omega⟩
    · rw [if_neg h3]
      by_cases h4 : c < 32
      · rw [if_pos h4]
        have b1 := hx_bd (c / 16) (by omega) (by omega)
        have b2 := hx_bd (c % 16) (by omega) (by omega)
        refine ⟨.inr ⟨[117, 48, 48, hx (c / 16), hx (c % 16)], rfl, jesc_unit c h0 h4⟩, .inr ⟨117, [48, 48, hx (c / 16), hx (c % 16)], rfl, by omega, by omega, ?_⟩, ?_⟩
        · intro x hx
          simp at hx
          omega
        · intro x hx
          simp at hx
          omega
      · rw [if_neg h4]
        refine ⟨.inl ⟨rfl, ?_, ?_⟩, .inl ?_, ?_⟩
        · intro x hx
          simp at hx
          omega
        · intro x hx
          simp at hx
          omega
        · intro x hx
          simp at hx
          omega
        · intro x hx
          simp at hx
          omega
theorem byteJ_ascii (r : Int) (h0 : 0 ≤ r) (h1 : r < 128) : ∀ x ∈ byteJ r, 0 ≤ x ∧ x < 128 := (byteJ_ok r h0 h1).2.2
theorem runeJ_ok (r : Int) (h : isRune r = true) : PieceOk jescS (runeW byteJ r) (formL r) ∧ JsOk (runeW byteJ r) := by
  have hq := (isRune_iff r).1 h
  unfold runeW
  split
  · rename_i hl
    rw [form1 r ⟨hq.1, hl⟩]
    exact ⟨(byteJ_ok r hq.1 hl).1, (byteJ_ok r hq.1 hl).2.1⟩
  · rename_i hl
    have hh := formL_high r (by omega)
    have hb := formL_byts r h
    exact ⟨.inl ⟨rfl, hb, fun c hc => by have := hh c hc; omega⟩, .inl fun c hc => by have := hh c hc; have := hb c hc; omega⟩

/-- How the law looks through what Json wrote. -/
def jsF (T : ByteArray) : Nat → Nat → Bool
  | 0, _ => true
  | f + 1, i => if i + 1 < T.size then (if bt T i < 32 ∨ bt T i = 34 then false else if bt T i = 92 then (if T.size ≤ i + 2 ∨ bt T (i + 1) < 32 then false else jsF T f (i + 2)) else jsF T f (i + 1)) else true
theorem jsF_end (T : ByteArray) (f i : Nat) (h : ¬ i + 1 < T.size) : jsF T f i = true := by
  cases f with
  | zero => rfl
  | succ f => unfold jsF; rw [if_neg h]
theorem jsF_run (T : ByteArray) : ∀ (k f i : Nat), i + k < T.size → (∀ j, i ≤ j → j < i + k → 32 ≤ bt T j ∧ bt T j ≠ 34 ∧ bt T j ≠ 92) → (∀ g, jsF T g (i + k) = true) → jsF T f i = true
  | 0, f, i, _, _, h => h f
  | k + 1, 0, i, _, _, _ => rfl
  | k + 1, f + 1, i, hs, hp, h => by
    have := hp i (by omega) (by omega)
    unfold jsF
    rw [if_pos (by omega), if_neg (by omega), if_neg (by omega)]
    exact jsF_run T k f (i + 1) (by omega) (fun j h1 h2 => hp j (by omega) (by omega)) (by rw [show i + 1 + k = i + (k + 1) by omega]; exact h)
theorem js_piece (pre x rest : List Int) (hx : JsOk x) (hr : 0 < rest.length) (h : ∀ g, jsF (strOfNums (pre ++ x ++ rest)) g (pre.length + x.length) = true) (f : Nat) : jsF (strOfNums (pre ++ x ++ rest)) f pre.length = true := by
  have hs : (strOfNums (pre ++ x ++ rest)).size = pre.length + x.length + rest.length := by rw [nums_size]; simp; omega
  have hb := hx.byts
  rcases hx with hx | ⟨d, e, rfl, h1, h2, hx⟩
  · refine jsF_run _ x.length f pre.length (by omega) (fun j h1 h2 => ?_) h
    obtain ⟨c, hc, _, e⟩ := at_mid pre x rest j h1 h2 hb
    rw [e]
    have := hx c hc
    omega
  · have hl : (92 :: d :: e).length = e.length + 2 := rfl
    obtain ⟨c0, _, g0, e0⟩ := at_mid pre (92 :: d :: e) rest pre.length (by omega) (by omega) hb
    obtain ⟨c1, _, g1, e1⟩ := at_mid pre (92 :: d :: e) rest (pre.length + 1) (by omega) (by omega) hb
    rw [Nat.sub_self] at g0
    rw [show pre.length + 1 - pre.length = 1 by omega] at g1
    simp at g0 g1
    subst g0 g1
    cases f with
    | zero => rfl
    | succ f =>
      unfold jsF
      rw [if_pos (by omega), e0, if_neg (by omega), if_pos rfl, e1, if_neg (by omega)]
      refine jsF_run _ e.length f (pre.length + 2) (by omega) (fun j h1 h2 => ?_) (by rw [show pre.length + 2 + e.length = pre.length + (92 :: d :: e).length by omega]; exact h)
      obtain ⟨c, _, g, ee⟩ := at_mid pre (92 :: d :: e) rest j (by omega) (by omega) hb
      rw [ee]
      have := hx c (by
        obtain ⟨m, hm⟩ : ∃ m, j - pre.length = m + 2 := ⟨j - pre.length - 2, by omega⟩
        rw [hm] at g
        simp at g
        exact List.mem_of_getElem? g)
      omega
theorem js_pieces : ∀ (xs : List (List Int)) (pre : List Int), (∀ x ∈ xs, JsOk x) → ∀ f, jsF (strOfNums (pre ++ xs.flatten ++ [34])) f pre.length = true
  | [], pre, _, f => jsF_end _ _ _ (by rw [nums_size]; simp)
  | x :: xs, pre, h, f => by
    have i := js_pieces xs (pre ++ x) (fun y hy => h y (by simp [hy]))
    have e1 : pre ++ x ++ (xs.flatten ++ [34]) = pre ++ (x :: xs).flatten ++ [34] := by simp
    have e2 : pre ++ x ++ xs.flatten ++ [34] = pre ++ (x :: xs).flatten ++ [34] := by simp
    rw [e2, List.length_append] at i
    have p := js_piece pre x (xs.flatten ++ [34]) (h x (by simp)) (by simp) (by rw [e1]; exact i) f
    rw [e1] at p
    exact p

/-- All that the law asks of what Json wrote. -/
theorem json_back (R : List Int) (h : ∀ x ∈ R, isRune x = true) (hp : 0 < R.length) :
    let T := strOfNums ([34] ++ wrF byteJ (runesBytes R) (runesBytes R).size 0 ++ [34])
    ujR T = (runesBytes R, 0) ∧ (∀ f, jsF T f 1 = true) ∧ bt T 0 = 34 ∧ bt T (T.size - 1) = 34 ∧ 3 ≤ T.size := by
  intro T
  have eT : T = strOfNums ([34] ++ R.flatMap (runeW byteJ) ++ [34]) := by
    show strOfNums _ = _
    rw [wrF_rb byteJ R h]
  have hok : ∀ x ∈ R.map (runeW byteJ), JsOk x := by
    intro x hx
    obtain ⟨r, hr, rfl⟩ := List.mem_map.1 hx
    exact (runeJ_ok r (h r hr)).2
  have hv := written_vld byteJ byteJ_ascii R h
  have hl := lit_whole 34 (.inl rfl) (R.map (runeW byteJ)) [] [] (fun x hx => ⟨(hok x hx).byts, (hok x hx).lit⟩)
  have hj := js_pieces (R.map (runeW byteJ)) [34] hok
  rw [← flat_map_flatten] at hl hj
  have hm := mg_pieces jescS (R.map (fun r => (runeW byteJ r, formL r))) [] (by
    intro c hc
    obtain ⟨r, hr, rfl⟩ := List.mem_map.1 hc
    exact (runeJ_ok r (h r hr)).1)
  have hbody := nums_body 34 34 (R.flatMap (runeW byteJ))
  have f1 : (R.map (fun r => (runeW byteJ r, formL r))).flatMap (·.1) = R.flatMap (runeW byteJ) := by rw [List.flatMap_map]
  have f2 : (R.map (fun r => (runeW byteJ r, formL r))).flatMap (·.2) = R.flatMap formL := by rw [List.flatMap_map]
  rw [f1, f2] at hm
  have hlow : ∀ c ∈ [34] ++ R.flatMap (runeW byteJ) ++ [34], 32 ≤ c ∧ c ≤ 255 := by
    intro c hc
    simp only [List.mem_append, List.mem_flatMap, List.mem_singleton] at hc
    rcases hc with (rfl | ⟨r, hr, hx⟩) | rfl
    · omega
    · exact (runeJ_ok r (h r hr)).2.low c hx
    · omega
  have hsz : T.size = (R.flatMap (runeW byteJ)).length + 2 := by rw [eT, nums_size]; simp
  have hlen : 1 ≤ (R.flatMap (runeW byteJ)).length := by
    obtain ⟨r, R', rfl⟩ : ∃ r R', R = r :: R' := by
      cases R with
      | nil => simp at hp
      | cons r R' => exact ⟨r, R', rfl⟩
    have hr := h r (by simp)
    have := (runeJ_ok r hr).2
    rw [List.flatMap_cons, List.length_append]
    have : 1 ≤ (runeW byteJ r).length := by
      unfold runeW byteJ formL
      rw [if_pos hr]
      repeat' split
      all_goals simp
    omega
  have hbts : bts T T.size 0 = [34] ++ R.flatMap (runeW byteJ) ++ [34] := by
    have := bts_mid [] ([34] ++ R.flatMap (runeW byteJ) ++ [34]) [] (fun c hc => by have := hlow c hc; omega)
    rw [List.append_nil, List.nil_append, ← eT, List.length_nil] at this
    have e : T.size = ([34] ++ R.flatMap (runeW byteJ) ++ [34]).length := by rw [eT, nums_size]
    rw [← e] at this
    exact this
  rw [← eT] at hv
  have hb0 : bt T 0 = 34 := by rw [eT]; exact bt_head 34 _ (by omega) (by omega)
  refine ⟨?_, ?_, hb0, ?_, by omega⟩
  · unfold ujR
    rw [if_pos hv, if_pos]
    · rw [eT]
      have hbody' : (strOfNums ([34] ++ R.flatMap (runeW byteJ) ++ [34])).extract 1 ((strOfNums ([34] ++ R.flatMap (runeW byteJ) ++ [34])).size - 1) = strOfNums (R.flatMap (runeW byteJ)) := hbody
      rw [hbody']
      rw [List.nil_append] at hm
      have hm' : mg jescS (strOfNums (R.flatMap (runeW byteJ))) 0 = some (R.flatMap formL) := hm
      rw [hm', rb_nums R h]
      rfl
    · refine ⟨hb0, ?_, ?_⟩
      · rw [ctF_bytes T T.size 0 (by omega) (by omega) hv, Nat.sub_zero, hbts, List.any_eq_false]
        intro c hc
        have := hlow c hc
        simp
        omega
      · simp only [List.nil_append, List.append_nil] at hl
        have hl' : litZ T 0 = (((34 :: R.flatMap (runeW byteJ) ++ [34]).length : Int), 0) := by
          rw [eT]
          simpa using hl
        rw [hl', eT, nums_size]
        rfl
  · rw [eT]; exact hj
  · rw [hsz, eT]
    exact bt_nums _ _ 34 (by simp) (by omega) (by omega)
end Go.Proofs.YtdnbkgbgpfmipabDoor
