/- What Quote writes, and what Unquote and Literal make of it. The mathematics. -/
import Derived.Test.YtdnbkgbgpfmipabDoorChunk
namespace Go.Proofs.YtdnbkgbgpfmipabDoor
open Go.RowKit Go.Lib

theorem bt_first (c : Int) (l : List Int) (h0 : 0 ≤ c) (h1 : c ≤ 255) : bt (strOfNums (c :: l)) 0 = c := bt_nums _ 0 c rfl h0 h1
theorem esc_self (q c : Int) (h : c = q ∨ c = 92) (h0 : 0 ≤ c) (h1 : c ≤ 255) (rest : List Int) : escS (strOfNums ([c] ++ rest)) q = some ([c], [c].length) := by
  have hb : bt (strOfNums ([c] ++ rest)) 0 = c := bt_first c rest h0 h1
  unfold escS
  rw [hb, if_pos (by omega)]
  rfl
theorem esc_letter (q c : Int) (hq : q = 34 ∨ q = 39) (h : 7 ≤ c ∧ c ≤ 13) (rest : List Int) : escS (strOfNums ([l7 c] ++ rest)) q = some ([c], [l7 c].length) := by
  have hl : l7 c = 97 ∧ c = 7 ∨ l7 c = 98 ∧ c = 8 ∨ l7 c = 116 ∧ c = 9 ∨ l7 c = 110 ∧ c = 10 ∨ l7 c = 118 ∧ c = 11 ∨ l7 c = 102 ∧ c = 12 ∨ l7 c = 114 ∧ c = 13 := by
    unfold l7
    repeat' split
    all_goals omega
  have hb : bt (strOfNums ([l7 c] ++ rest)) 0 = l7 c := bt_first _ rest (by omega) (by omega)
  unfold escS
  rw [hb, if_neg (by omega)]
  rcases hl with ⟨e, rfl⟩ | ⟨e, rfl⟩ | ⟨e, rfl⟩ | ⟨e, rfl⟩ | ⟨e, rfl⟩ | ⟨e, rfl⟩ | ⟨e, rfl⟩ <;> rw [e] <;> rfl
theorem esc_x (q a b : Int) (hq : q = 34 ∨ q = 39) (h1 : dg a < 16) (h2 : dg b < 16) (rest : List Int) : escS (strOfNums ([120, a, b] ++ rest)) q = some ([dg a * 16 + dg b], 3) := by
  have hb : bt (strOfNums ([120, a, b] ++ rest)) 0 = 120 := bt_first _ _ (by omega) (by omega)
  have hn := num_list1 16 (by omega) 120 [a, b] rest (by simp; omega)
  simp only [List.foldl_cons, List.foldl_nil, Int.zero_mul, Int.zero_add] at hn
  have hn' : num ((strOfNums ([120, a, b] ++ rest)).extract 1 (strOfNums ([120, a, b] ++ rest)).size) 2 16 = some (dg a * 16 + dg b) := hn
  have := dg_bd a
  have := dg_bd b
  unfold escS
  rw [hb, if_neg (by omega), if_neg (by decide), if_pos rfl]
  unfold byteS
  rw [hn']
  simp only
  rw [if_pos (by omega)]

/-- A piece in one line, without bytes that are no letters. -/
def QsOk (x : List Int) : Prop := (∀ c ∈ x, 32 ≤ c ∧ c ≤ 255 ∧ c ≠ 127) ∧ LitOk 34 x
theorem QsOk.byts {x : List Int} (h : QsOk x) : byts x := fun c hc => by have := h.1 c hc; omega
theorem byteQ_ok (c : Int) (h0 : 0 ≤ c) (h1 : c < 128) : PieceOk (fun e => escS e 34) (byteQ c) [c] ∧ QsOk (byteQ c) ∧ ∀ x ∈ byteQ c, 0 ≤ x ∧ x < 128 := by
  unfold byteQ
  by_cases h2 : c = 34 ∨ c = 92
  · rw [if_pos h2]
    exact ⟨.inr ⟨[c], rfl, esc_self 34 c h2 (by omega) (by omega)⟩, ⟨by simp; omega, .inr ⟨c, [], rfl, by omega, by simp⟩⟩, by simp; omega⟩
  · rw [if_neg h2]
    by_cases h3 : 7 ≤ c ∧ c ≤ 13
    · rw [if_pos h3]
      have hl : 97 ≤ l7 c ∧ l7 c ≤ 118 := by
        unfold l7
        repeat' split
        all_goals omega
      exact ⟨.inr ⟨[l7 c], rfl, esc_letter 34 c (.inl rfl) h3⟩, ⟨by simp; omega, .inr ⟨l7 c, [], rfl, by omega, by simp⟩⟩, by simp; omega⟩
    · rw [if_neg h3]
      by_cases h4 : c < 32 ∨ c = 127
      · rw [if_pos h4]
        have b1 := hx_bd (c / 16) (by omega) (by omega)
        have b2 := hx_bd (c % 16) (by omega) (by omega)
        have d1 := dg_hx (c / 16) (by omega) (by omega)
        have d2 := dg_hx (c % 16) (by omega) (by omega)
        refine ⟨.inr ⟨[120, hx (c / 16), hx (c % 16)], rfl, fun rest => ?_⟩, ⟨?_, .inr ⟨120, [hx (c / 16), hx (c % 16)], rfl, by omega, ?_⟩⟩, ?_⟩
        · have e := esc_x 34 (hx (c / 16)) (hx (c % 16)) (.inl rfl) (by omega) (by omega) rest
          rw [d1, d2, show c / 16 * 16 + c % 16 = c by omega] at e
          exact e
        · intro x hx
          simp at hx
          omega
        · intro x hx
          simp at hx
          omega
        · intro x hx
          simp at hx
          omega
      · rw [if_neg h4]
        refine ⟨.inl ⟨rfl, ?_, ?_⟩, ⟨?_, .inl ?_⟩, ?_⟩ <;> intro x hx <;> simp at hx <;> omega
theorem byteQ_ascii (r : Int) (h0 : 0 ≤ r) (h1 : r < 128) : ∀ x ∈ byteQ r, 0 ≤ x ∧ x < 128 := (byteQ_ok r h0 h1).2.2
theorem runeQ_ok (r : Int) (h : isRune r = true) : PieceOk (fun e => escS e 34) (runeW byteQ r) (formL r) ∧ QsOk (runeW byteQ r) := by
  have hq := (isRune_iff r).1 h
  unfold runeW
  split
  · rename_i hl
    rw [form1 r ⟨hq.1, hl⟩]
    exact ⟨(byteQ_ok r hq.1 hl).1, (byteQ_ok r hq.1 hl).2.1⟩
  · rename_i hl
    have hh := formL_high r (by omega)
    have hb := formL_byts r h
    exact ⟨.inl ⟨rfl, hb, fun c hc => by have := hh c hc; omega⟩, fun c hc => by have := hh c hc; have := hb c hc; omega, .inl fun c hc => by have := hh c hc; omega⟩

/-- A text that is a literal of pieces, and what it means. -/
theorem unq_pieces (q : Int) (hq : q = 34 ∨ q = 39) (cs : List (List Int × List Int)) (hm : ∀ c ∈ cs, PieceOk (fun e => escS e q) c.1 c.2) (hl : ∀ c ∈ cs, byts c.1 ∧ LitOk q c.1)
    (hv : vld (strOfNums (q :: cs.flatMap (·.1) ++ [q])) (strOfNums (q :: cs.flatMap (·.1) ++ [q])).size 0 = true) (hy : vld (strOfNums (cs.flatMap (·.2))) (strOfNums (cs.flatMap (·.2))).size 0 = true) :
    unqR (strOfNums (q :: cs.flatMap (·.1) ++ [q])) = (strOfNums (cs.flatMap (·.2)), 0) := by
  have h1 := lit_whole q hq (cs.map (·.1)) [] [] (fun x hx => by obtain ⟨c, hc, rfl⟩ := List.mem_map.1 hx; exact hl c hc)
  have h2 := mn_pieces q cs [] hm
  have hb := nums_body q q (cs.flatMap (·.1))
  have hb0 : bt (strOfNums (q :: cs.flatMap (·.1) ++ [q])) 0 = q := bt_first q _ (by omega) (by omega)
  have hsz : (strOfNums (q :: cs.flatMap (·.1) ++ [q])).size = (q :: cs.flatMap (·.1) ++ [q]).length := nums_size _
  rw [← flat_map_flatten] at h1
  have h1' : litZ (strOfNums (q :: cs.flatMap (·.1) ++ [q])) 0 = (((q :: cs.flatMap (·.1) ++ [q]).length : Int), 0) := by simpa using h1
  have h2' : mn (strOfNums (cs.flatMap (·.1))) q 0 = some (cs.flatMap (·.2)) := h2
  unfold unqR
  rw [if_pos hv, h1', hsz, if_pos rfl, hb0, if_neg (by omega), ← hsz, hb, h2']
  unfold unqV
  simp only
  rw [if_pos hy]

/-- All that the law asks of what Quote wrote. -/
theorem quote_back (R : List Int) (h : ∀ x ∈ R, isRune x = true) (hp : 0 < R.length) :
    let T := strOfNums ([34] ++ wrF byteQ (runesBytes R) (runesBytes R).size 0 ++ [34])
    unqR T = (runesBytes R, 0) ∧ (∀ i, i < T.size → 32 ≤ bt T i ∧ bt T i ≠ 127) ∧ bt T 0 = 34 ∧ 3 ≤ T.size ∧ ∀ head rest : ByteArray, litZ (head ++ T ++ rest) (head.size : Int) = (((head.size + T.size : Nat) : Int), 0) := by
  intro T
  have eT : T = strOfNums ([34] ++ R.flatMap (runeW byteQ) ++ [34]) := by
    show strOfNums _ = _
    rw [wrF_rb byteQ R h]
  have hok : ∀ x ∈ R.map (runeW byteQ), QsOk x := by
    intro x hx
    obtain ⟨r, hr, rfl⟩ := List.mem_map.1 hx
    exact (runeQ_ok r (h r hr)).2
  have hv := written_vld byteQ byteQ_ascii R h
  have f1 : (R.map (fun r => (runeW byteQ r, formL r))).flatMap (·.1) = R.flatMap (runeW byteQ) := by rw [List.flatMap_map]
  have f2 : (R.map (fun r => (runeW byteQ r, formL r))).flatMap (·.2) = R.flatMap formL := by rw [List.flatMap_map]
  have hu := unq_pieces 34 (.inl rfl) (R.map (fun r => (runeW byteQ r, formL r)))
    (by intro c hc; obtain ⟨r, hr, rfl⟩ := List.mem_map.1 hc; exact (runeQ_ok r (h r hr)).1)
    (by intro c hc; obtain ⟨r, hr, rfl⟩ := List.mem_map.1 hc; exact ⟨(runeQ_ok r (h r hr)).2.byts, (runeQ_ok r (h r hr)).2.2⟩)
  rw [f1, f2] at hu
  have hu' := hu hv (nums_vld R h)
  have hlow : ∀ c ∈ [34] ++ R.flatMap (runeW byteQ) ++ [34], 32 ≤ c ∧ c ≤ 255 ∧ c ≠ 127 := by
    intro c hc
    simp only [List.mem_append, List.mem_flatMap, List.mem_singleton] at hc
    rcases hc with (rfl | ⟨r, hr, hx⟩) | rfl
    · omega
    · exact (runeQ_ok r (h r hr)).2.1 c hx
    · omega
  have hsz : T.size = (R.flatMap (runeW byteQ)).length + 2 := by rw [eT, nums_size]; simp
  have hlen : 1 ≤ (R.flatMap (runeW byteQ)).length := by
    obtain ⟨r, R', rfl⟩ : ∃ r R', R = r :: R' := by
      cases R with
      | nil => simp at hp
      | cons r R' => exact ⟨r, R', rfl⟩
    have hr := h r (by simp)
    rw [List.flatMap_cons, List.length_append]
    have : 1 ≤ (runeW byteQ r).length := by
      unfold runeW byteQ formL
      rw [if_pos hr]
      repeat' split
      all_goals simp
    omega
  refine ⟨?_, ?_, ?_, by omega, ?_⟩
  · rw [eT, rb_nums R h]; exact hu'
  · intro i hi
    have hx : i < ([34] ++ R.flatMap (runeW byteQ) ++ [34]).length := by rw [eT, nums_size] at hi; exact hi
    have hm := hlow _ (List.getElem_mem hx)
    have : bt T i = ([34] ++ R.flatMap (runeW byteQ) ++ [34])[i] := by
      rw [eT]
      exact bt_nums _ i _ (List.getElem?_eq_getElem hx) (by omega) (by omega)
    rw [this]
    omega
  · rw [eT]; exact bt_first 34 _ (by omega) (by omega)
  · intro head rest
    have hl := lit_whole 34 (.inl rfl) (R.map (runeW byteQ)) (bts head head.size 0) (bts rest rest.size 0) (fun x hx => ⟨(hok x hx).byts, (hok x hx).2⟩)
    rw [← flat_map_flatten, nums_app, nums_app, nums_all, nums_all, bts_len] at hl
    have hl' : litZ (head ++ strOfNums ([34] ++ R.flatMap (runeW byteQ) ++ [34]) ++ rest) (head.size : Int) = (((head.size + (34 :: R.flatMap (runeW byteQ) ++ [34]).length : Nat) : Int), 0) := hl
    rw [eT, hl', nums_size]
    rfl
end Go.Proofs.YtdnbkgbgpfmipabDoor
