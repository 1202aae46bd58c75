/- UtfSpells: the walk of the law. -/
import Derived.Test.YtdnbkgbgpfmipabDoorSpellC
import Derived.Test.YtdnbkgbgpfmipabDoorOwnUnq
namespace Go.Proofs.YtdnbkgbgpfmipabDoor
open Go.RowKit Go.Lib

theorem rts_a' (ns : List Int) : rts ([97] ++ ns) = [97] ++ rts ns := by
  unfold rts
  rw [List.filter_append]
  rfl

/-- What a spelling's pieces are as runes, and what they mean together. -/
theorem sp_runes (r how q : Int) (hr : isRune r = true) (hq : q = 34 ∨ q = 39) : (∃ R : List Int, (∀ x ∈ R, isRune x = true) ∧ (sp r how q).flatMap (·.1) = R.flatMap formL) ∧ (sp r how q).flatMap (·.2) = formL r ∧ ((sp r how q).flatMap (·.1)).length ≤ 16 := by
  have hi := (isRune_iff r).1 hr
  have hb := formL_byts r hr
  have hl4 := formL_len r
  have ascii : ∀ l : List Int, (∀ x ∈ l, 0 ≤ x ∧ x < 128) → ∃ R : List Int, (∀ x ∈ R, isRune x = true) ∧ l = R.flatMap formL := fun l h => ⟨l, fun x hx => ascii_rune x (h x hx), (ascii_form l h).symm⟩
  have dp : ∀ (b : Int) (k : Nat) (n : Int), b = 8 ∨ b = 16 → 0 ≤ n → ∀ c ∈ dgs b k n, 0 ≤ c ∧ c < 128 := fun b k n hb hn c hc => (dgs_plain b hb q hq k n hn c hc).1
  have hB : (∃ R : List Int, (∀ x ∈ R, isRune x = true) ∧ (spB r q).flatMap (·.1) = R.flatMap formL) ∧ (spB r q).flatMap (·.2) = formL r ∧ ((spB r q).flatMap (·.1)).length ≤ 16 := by
    unfold spB
    by_cases h : r = 10 ∨ r = 92 ∨ r = q
    · rw [if_pos h]
      simp only [List.flatMap_cons, List.flatMap_nil, List.append_nil]
      refine ⟨ascii _ ?_, ?_, ?_⟩
      · intro x hx
        simp only [List.mem_cons] at hx
        rcases hx with rfl | rfl | hx
        · omega
        · omega
        · exact dp 16 2 r (.inr rfl) hi.1 x hx
      · rw [form1 r (by omega)]
      · simp [dgs_len]
    · rw [if_neg h]
      simp only [List.flatMap_cons, List.flatMap_nil, List.append_nil]
      exact ⟨⟨[r], by simpa using hr, by simp⟩, trivial, by omega⟩
  unfold sp
  split
  · simp only [List.flatMap_cons, List.flatMap_nil, List.append_nil]
    refine ⟨ascii _ ?_, trivial, by simp [dgs_len]⟩
    intro x hx
    simp only [List.mem_cons] at hx
    rcases hx with rfl | rfl | hx
    · omega
    · omega
    · exact dp 16 8 r (.inr rfl) hi.1 x hx
  · split
    · split
      · simp only [List.flatMap_cons, List.flatMap_nil, List.append_nil]
        refine ⟨ascii _ ?_, trivial, by simp [dgs_len]⟩
        intro x hx
        simp only [List.mem_cons] at hx
        rcases hx with rfl | rfl | hx
        · omega
        · omega
        · exact dp 16 4 r (.inr rfl) hi.1 x hx
      · exact hB
    · split
      · rw [List.flatMap_map, List.flatMap_map]
        refine ⟨ascii _ ?_, by simp, ?_⟩
        · intro x hx
          obtain ⟨c, hc, hx⟩ := List.mem_flatMap.1 hx
          simp only [List.mem_cons] at hx
          rcases hx with rfl | rfl | hx
          · omega
          · omega
          · exact dp 16 2 c (.inr rfl) (hb c hc).1 x hx
        · have := by3_len (formL r)
          unfold by3 at this
          rw [this]
          omega
      · split
        · rw [List.flatMap_map, List.flatMap_map]
          refine ⟨ascii _ ?_, by simp, ?_⟩
          · intro x hx
            obtain ⟨c, hc, hx⟩ := List.mem_flatMap.1 hx
            simp only [List.mem_cons] at hx
            rcases hx with rfl | hx
            · omega
            · exact dp 8 3 c (.inl rfl) (hb c hc).1 x hx
          · have := by4_len (formL r)
            unfold by4 at this
            rw [this]
            omega
        · split
          · split
            · rename_i hrq
              simp only [List.flatMap_cons, List.flatMap_nil, List.append_nil]
              refine ⟨ascii _ ?_, ?_, by simp⟩
              · intro x hx
                simp at hx
                omega
              · rw [form1 r (by omega), hrq]
            · split
              · rename_i hlt
                have hl : 92 ≤ lt8 r ∧ lt8 r ≤ 118 ∧ r < 128 := by
                  unfold lt8 l7 at hlt ⊢
                  repeat' split at hlt
                  all_goals first | omega | (repeat' split)
                  all_goals omega
                simp only [List.flatMap_cons, List.flatMap_nil, List.append_nil]
                refine ⟨ascii _ ?_, ?_, by simp⟩
                · intro x hx
                  simp at hx
                  omega
                · rw [form1 r (by omega)]
              · exact hB
          · exact hB

/-- The pieces of many runes. -/
def spAll (q : Int) (P : List (Int × Int)) : List (List Int × List Int) := P.flatMap (fun x => sp x.1 x.2 q)
theorem spAll_runes (q : Int) (hq : q = 34 ∨ q = 39) : ∀ P : List (Int × Int), (∀ x ∈ P, isRune x.1 = true) → (∃ R : List Int, (∀ x ∈ R, isRune x = true) ∧ (spAll q P).flatMap (·.1) = R.flatMap formL) ∧ (spAll q P).flatMap (·.2) = (P.map (·.1)).flatMap formL ∧ ((spAll q P).flatMap (·.1)).length ≤ 16 * P.length
  | [], _ => ⟨⟨[], by simp, rfl⟩, rfl, by simp [spAll]⟩
  | x :: P, h => by
    obtain ⟨⟨R1, a1, a2⟩, a3, a4⟩ := sp_runes x.1 x.2 q (h x (by simp)) hq
    obtain ⟨⟨R2, b1, b2⟩, b3, b4⟩ := spAll_runes q hq P (fun y hy => h y (by simp [hy]))
    have e : spAll q (x :: P) = sp x.1 x.2 q ++ spAll q P := by unfold spAll; rw [List.flatMap_cons]
    rw [e, List.flatMap_append, List.flatMap_append, a2, b2, a3, b3]
    refine ⟨⟨R1 ++ R2, fun y hy => ?_, by rw [List.flatMap_append]⟩, by simp, ?_⟩
    · rcases List.mem_append.1 hy with hy | hy
      · exact a1 y hy
      · exact b1 y hy
    · rw [← a2, ← b2, List.length_append, List.length_cons]
      omega
theorem spells_back (q : Int) (hq : q = 34 ∨ q = 39) (P : List (Int × Int)) (h : ∀ x ∈ P, isRune x.1 = true) :
    unqR (strOfNums (q :: (spAll q P).flatMap (·.1) ++ [q])) = (runesBytes (P.map (·.1)), 0) := by
  obtain ⟨⟨R, b1, b2⟩, b3, _⟩ := spAll_runes q hq P h
  have hok : ∀ c ∈ spAll q P, SpOk q c := by
    intro c hc
    obtain ⟨x, hx, hc⟩ := List.mem_flatMap.1 hc
    exact sp_ok x.1 x.2 q (h x hx) hq c hc
  have hall : ∀ x ∈ P.map (·.1), isRune x = true := by
    intro x hx
    obtain ⟨y, hy, rfl⟩ := List.mem_map.1 hx
    exact h y hy
  have hv : vld (strOfNums (q :: (spAll q P).flatMap (·.1) ++ [q])) (strOfNums (q :: (spAll q P).flatMap (·.1) ++ [q])).size 0 = true := by
    have e : q :: (spAll q P).flatMap (·.1) ++ [q] = (q :: R ++ [q]).flatMap formL := by
      rw [b2]
      simp [form1 q (by omega)]
    rw [e]
    refine nums_vld _ (fun x hx => ?_)
    simp only [List.cons_append, List.mem_cons, List.mem_append, List.mem_nil_iff, or_false] at hx
    rcases hx with rfl | hx | rfl
    · exact ascii_rune _ (by omega)
    · exact b1 x hx
    · exact ascii_rune _ (by omega)
  have hu := unq_pieces q hq (spAll q P) (fun c hc => (hok c hc).1) (fun c hc => (hok c hc).2) hv (by rw [b3]; exact nums_vld _ hall)
  rw [hu, b3, rb_nums _ hall]
end Go.Proofs.YtdnbkgbgpfmipabDoor
