/- Ways of spelling a rune in a literal: the mathematics. -/
import Derived.Test.YtdnbkgbgpfmipabDoorDig
namespace Go.Proofs.YtdnbkgbgpfmipabDoor
open Go.RowKit Go.Lib

/-- The letter for a rune behind a backslash; -1: none. -/
def lt8 (r : Int) : Int := if r = 92 then 92 else if 7 ≤ r ∧ r ≤ 13 then l7 r else -1
/-- A rune spelled as it is, or by its number where it must not stand bare. -/
def spB (r q : Int) : List (List Int × List Int) := if r = 10 ∨ r = 92 ∨ r = q then [(92 :: 120 :: dgs 16 2 r, [r])] else [(formL r, formL r)]
/-- The pieces of a rune's spelling, and what each means. -/
def sp (r how q : Int) : List (List Int × List Int) :=
  if how = 1 then [(92 :: 85 :: dgs 16 8 r, formL r)]
  else if how = 2 then (if r < 65536 then [(92 :: 117 :: dgs 16 4 r, formL r)] else spB r q)
  else if how = 3 then (formL r).map (fun c => (92 :: 120 :: dgs 16 2 c, [c]))
  else if how = 4 then (formL r).map (fun c => (92 :: dgs 8 3 c, [c]))
  else if how = 5 then (if r = q then [([92, q], [q])] else if 0 ≤ lt8 r then [([92, lt8 r], [r])] else spB r q)
  else spB r q

theorem pow16_2 : (16 : Int) ^ 2 = 256 := by decide
theorem pow16_4 : (16 : Int) ^ 4 = 65536 := by decide
theorem pow16_8 : (16 : Int) ^ 8 = 4294967296 := by decide
theorem pow8_3 : (8 : Int) ^ 3 = 512 := by decide

theorem esc_rune (q a : Int) (k : Nat) (hq : q = 34 ∨ q = 39) (hk : a = 117 ∧ k = 4 ∨ a = 85 ∧ k = 8) (r : Int) (hr : isRune r = true) (hb : r < 16 ^ k) (rest : List Int) : escS (strOfNums ((a :: dgs 16 k r) ++ rest)) q = some (formL r, (a :: dgs 16 k r).length) := by
  have h0 := ((isRune_iff r).1 hr).1
  have hb0 : bt (strOfNums ((a :: dgs 16 k r) ++ rest)) 0 = a := bt_first a _ (by omega) (by omega)
  have hn := num_list1 16 (by omega) a (dgs 16 k r) rest (fun d hd => (dgs_all 16 (.inr rfl) k r h0 d hd).1)
  rw [dgs_fold 16 (.inr rfl) k r h0 hb, dgs_len] at hn
  have hl : (a :: dgs 16 k r).length = 1 + k := by rw [List.length_cons, dgs_len]; omega
  have hR : runeS (strOfNums ((a :: dgs 16 k r) ++ rest)) k = some (formL r, (a :: dgs 16 k r).length) := by
    unfold runeS
    rw [hn]
    simp only [hr, if_true]
    rw [hl]
  unfold escS
  rw [hb0]
  rcases hk with ⟨rfl, rfl⟩ | ⟨rfl, rfl⟩
  · rw [if_neg (by omega), if_neg (by decide), if_neg (by decide), if_pos rfl]
    exact hR
  · rw [if_neg (by omega), if_neg (by decide), if_neg (by decide), if_neg (by decide), if_pos rfl]
    exact hR
theorem esc_x2 (q c : Int) (hq : q = 34 ∨ q = 39) (h0 : 0 ≤ c) (h1 : c ≤ 255) (rest : List Int) : escS (strOfNums ((120 :: dgs 16 2 c) ++ rest)) q = some ([c], (120 :: dgs 16 2 c).length) := by
  have e : dgs 16 2 c = [dch (c / 16 % 16) (c / 16 / 16), dch (c % 16) (c / 16)] := rfl
  have d1 := dg_dch (c / 16 % 16) (c / 16 / 16) (by omega) (by omega)
  have d2 := dg_dch (c % 16) (c / 16) (by omega) (by omega)
  have := esc_x q (dch (c / 16 % 16) (c / 16 / 16)) (dch (c % 16) (c / 16)) hq (by omega) (by omega) rest
  rw [d1, d2, show c / 16 % 16 * 16 + c % 16 = c by omega] at this
  rw [e]
  exact this
theorem esc_oct (q c : Int) (hq : q = 34 ∨ q = 39) (h0 : 0 ≤ c) (h1 : c ≤ 255) (rest : List Int) : escS (strOfNums (dgs 8 3 c ++ rest)) q = some ([c], (dgs 8 3 c).length) := by
  have e : dgs 8 3 c = [dch (c / 8 / 8 % 8) (c / 8 / 8 / 8), dch (c / 8 % 8) (c / 8 / 8), dch (c % 8) (c / 8)] := rfl
  have hn := num_list 8 (by omega) (dgs 8 3 c) rest (fun d hd => (dgs_all 8 (.inl rfl) 3 c h0 d hd).1)
  rw [dgs_fold 8 (.inl rfl) 3 c h0 (by rw [pow8_3]; omega), dgs_len] at hn
  have hf : dch (c / 8 / 8 % 8) (c / 8 / 8 / 8) = 48 + c / 8 / 8 % 8 := by unfold dch; rw [if_neg (by omega)]
  have hb0 : bt (strOfNums (dgs 8 3 c ++ rest)) 0 = 48 + c / 8 / 8 % 8 := by
    rw [e, hf]
    exact bt_first _ _ (by omega) (by omega)
  have hi : idx7 (48 + c / 8 / 8 % 8) = -1 := by
    unfold idx7
    rw [if_neg (by omega), if_neg (by omega), if_neg (by omega), if_neg (by omega), if_neg (by omega), if_neg (by omega), if_neg (by omega)]
  unfold escS
  rw [hb0, if_neg (by omega), hi, if_neg (by decide), if_neg (by omega), if_neg (by omega), if_neg (by omega)]
  unfold byteS
  have ez : (strOfNums (dgs 8 3 c ++ rest)).extract 0 (strOfNums (dgs 8 3 c ++ rest)).size = strOfNums (dgs 8 3 c ++ rest) := by
    rw [nums_drop]; rfl
  rw [ez, hn]
  simp only
  rw [if_pos h1, dgs_len]
theorem esc_lt8 (q r : Int) (hq : q = 34 ∨ q = 39) (h : 0 ≤ lt8 r) (rest : List Int) : escS (strOfNums ([lt8 r] ++ rest)) q = some ([r], [lt8 r].length) := by
  unfold lt8 at h ⊢
  by_cases h1 : r = 92
  · rw [if_pos h1, h1]
    exact esc_self q 92 (.inr rfl) (by omega) (by omega) rest
  · rw [if_neg h1] at h ⊢
    by_cases h2 : 7 ≤ r ∧ r ≤ 13
    · rw [if_pos h2]
      exact esc_letter q r hq h2 rest
    · rw [if_neg h2] at h
      omega

/-- All that the law wants of a piece. -/
def SpOk (q : Int) (c : List Int × List Int) : Prop := PieceOk (fun e => escS e q) c.1 c.2 ∧ byts c.1 ∧ LitOk q c.1
theorem dgs_plain (b : Int) (hb : b = 8 ∨ b = 16) (q : Int) (hq : q = 34 ∨ q = 39) (k : Nat) (n : Int) (h0 : 0 ≤ n) : ∀ c ∈ dgs b k n, (0 ≤ c ∧ c < 128) ∧ c ≠ q ∧ c ≠ 10 ∧ c ≠ 92 := by
  intro c hc
  have := (dgs_all b hb k n h0 c hc).2
  omega
theorem sp_esc (q a : Int) (hq : q = 34 ∨ q = 39) (ha : a = 85 ∨ a = 117 ∨ a = 120) (b : Int) (hb : b = 8 ∨ b = 16) (k : Nat) (n : Int) (h0 : 0 ≤ n) (y : List Int) (h : ∀ rest, escS (strOfNums ((a :: dgs b k n) ++ rest)) q = some (y, (a :: dgs b k n).length)) :
    SpOk q (92 :: a :: dgs b k n, y) := by
  refine ⟨.inr ⟨a :: dgs b k n, rfl, h⟩, ?_, .inr ⟨a, dgs b k n, rfl, by omega, fun c hc => (dgs_plain b hb q hq k n h0 c hc).2⟩⟩
  intro c hc
  simp only [List.mem_cons] at hc
  rcases hc with rfl | rfl | hc
  · omega
  · omega
  · have := (dgs_plain b hb q hq k n h0 c hc).1
    omega
theorem spB_ok (r q : Int) (hr : isRune r = true) (hq : q = 34 ∨ q = 39) : ∀ c ∈ spB r q, SpOk q c := by
  have hi := (isRune_iff r).1 hr
  unfold spB
  by_cases h : r = 10 ∨ r = 92 ∨ r = q
  · rw [if_pos h]
    intro c hc
    rw [List.mem_singleton] at hc
    rw [hc]
    exact sp_esc q 120 hq (by omega) 16 (.inr rfl) 2 r hi.1 [r] (esc_x2 q r hq hi.1 (by omega))
  · rw [if_neg h]
    intro c hc
    rw [List.mem_singleton] at hc
    rw [hc]
    have hb := formL_byts r hr
    have hp : ∀ x ∈ formL r, x ≠ q ∧ x ≠ 10 ∧ x ≠ 92 := by
      by_cases hl : r < 128
      · rw [form1 r ⟨hi.1, hl⟩]
        intro x hx
        rw [List.mem_singleton] at hx
        omega
      · intro x hx
        have := formL_high r (by omega) x hx
        omega
    exact ⟨.inl ⟨rfl, hb, fun x hx => (hp x hx).2.2⟩, hb, .inl hp⟩
theorem sp_ok (r how q : Int) (hr : isRune r = true) (hq : q = 34 ∨ q = 39) : ∀ c ∈ sp r how q, SpOk q c := by
  have hi := (isRune_iff r).1 hr
  have hb := formL_byts r hr
  unfold sp
  split
  · intro c hc
    rw [List.mem_singleton] at hc
    rw [hc]
    exact sp_esc q 85 hq (by omega) 16 (.inr rfl) 8 r hi.1 _ (esc_rune q 85 8 hq (.inr ⟨rfl, rfl⟩) r hr (by rw [pow16_8]; omega))
  · split
    · split
      · intro c hc
        rw [List.mem_singleton] at hc
        rw [hc]
        exact sp_esc q 117 hq (by omega) 16 (.inr rfl) 4 r hi.1 _ (esc_rune q 117 4 hq (.inl ⟨rfl, rfl⟩) r hr (by rw [pow16_4]; assumption))
      · exact spB_ok r q hr hq
    · split
      · intro c hc
        obtain ⟨x, hx, rfl⟩ := List.mem_map.1 hc
        have := hb x hx
        exact sp_esc q 120 hq (by omega) 16 (.inr rfl) 2 x this.1 [x] (esc_x2 q x hq this.1 this.2)
      · split
        · intro c hc
          obtain ⟨x, hx, rfl⟩ := List.mem_map.1 hc
          have hx2 := hb x hx
          have e : dgs 8 3 x = [dch (x / 8 / 8 % 8) (x / 8 / 8 / 8), dch (x / 8 % 8) (x / 8 / 8), dch (x % 8) (x / 8)] := rfl
          have hp := dgs_plain 8 (.inl rfl) q hq 3 x hx2.1
          refine ⟨.inr ⟨dgs 8 3 x, rfl, esc_oct q x hq hx2.1 hx2.2⟩, ?_, .inr ⟨_, _, by rw [e], ?_, ?_⟩⟩
          · intro c hc
            simp only [List.mem_cons] at hc
            rcases hc with rfl | hc
            · omega
            · have := (hp c hc).1
              omega
          · have := hp (dch (x / 8 / 8 % 8) (x / 8 / 8 / 8)) (by rw [e]; simp)
            omega
          · intro c hc
            exact (hp c (by rw [e]; simp at hc ⊢; omega)).2
        · split
          · split
            · rename_i hrq
              intro c hc
              rw [List.mem_singleton] at hc
              rw [hc]
              exact ⟨.inr ⟨[q], rfl, esc_self q q (.inl rfl) (by omega) (by omega)⟩, by intro x hx; simp at hx; omega, .inr ⟨q, [], rfl, by omega, by simp⟩⟩
            · split
              · rename_i hlt
                intro c hc
                rw [List.mem_singleton] at hc
                rw [hc]
                have hl : 92 ≤ lt8 r ∧ lt8 r ≤ 118 := by
                  unfold lt8 l7 at hlt ⊢
                  repeat' split at hlt
                  all_goals first | omega | (repeat' split)
                  all_goals omega
                exact ⟨.inr ⟨[lt8 r], rfl, esc_lt8 q r hq hlt⟩, by intro x hx; simp at hx; omega, .inr ⟨lt8 r, [], rfl, by omega, by simp⟩⟩
              · exact spB_ok r q hr hq
          · exact spB_ok r q hr hq
end Go.Proofs.YtdnbkgbgpfmipabDoor
