/- What With answers is what the reference's With answers. -/
import Derived.Test.YtjmninjaoemhjaaKv
namespace Go.Proofs.Ytjmninjaoemhjaa
open Go.RowKit Go.Lib

theorem tw_app1 {α : Type} (p : α → Bool) (l : α) : ∀ D : List α, D.all p = true → (D ++ [l]).takeWhile p = (if p l then D ++ [l] else D) ∧ (D ++ [l]).dropWhile p = (if p l then [] else [l])
  | [], _ => by by_cases h : p l <;> simp [h]
  | d :: D, h => by
    simp at h
    have ih := tw_app1 p l D (by simpa using h.2)
    rw [List.cons_append, List.takeWhile_cons, List.dropWhile_cons, if_pos h.1, if_pos h.1, ih.1, ih.2]
    by_cases hl : p l <;> simp [hl]
theorem tw_app2 {α : Type} (p : α → Bool) (l : α) : ∀ D : List α, D.all p = false → (D ++ [l]).takeWhile p = D.takeWhile p ∧ (D ++ [l]).dropWhile p = D.dropWhile p ++ [l]
  | [], h => by simp at h
  | d :: D, h => by
    by_cases hd : p d
    · have ih := tw_app2 p l D (by simp only [List.all_cons, hd, Bool.true_and] at h; exact h)
      rw [List.cons_append, List.takeWhile_cons, List.takeWhile_cons, List.dropWhile_cons, List.dropWhile_cons, if_pos hd, if_pos hd, if_pos hd, if_pos hd, ih.1, ih.2]
      exact ⟨rfl, rfl⟩
    · rw [List.cons_append, List.takeWhile_cons, List.takeWhile_cons, List.dropWhile_cons, List.dropWhile_cons, if_neg hd, if_neg hd, if_neg hd, if_neg hd]
      exact ⟨rfl, rfl⟩
theorem tw_full {α : Type} (p : α → Bool) : ∀ D : List α, D.all p = true → D.takeWhile p = D ∧ D.dropWhile p = []
  | [], _ => by simp
  | d :: D, h => by
    simp at h
    have ih := tw_full p D (by simpa using h.2)
    rw [List.takeWhile_cons, List.dropWhile_cons, if_pos h.1, if_pos h.1, ih.1, ih.2]
    exact ⟨rfl, rfl⟩
theorem rw_empty (f : Nat → Lb) (nm vl : ByteArray) (hv : vl.toList.isEmpty = true) : ∀ n, rwF f nm vl n = (dropL f nm n, true)
  | 0 => by unfold rwF; rw [hv]; rfl
  | n + 1 => by
    unfold rwF
    rw [rw_empty f nm vl hv n, dropL_succ]
    unfold rwS
    cases h : ((f n).1.toList == nm.toList) <;> simp
theorem rw_full (f : Nat → Lb) (nm vl : ByteArray) (hv : vl.toList.isEmpty = false) : ∀ n, rwF f nm vl n = if (dropL f nm n).all (fun l => !gtB l.1 nm) then (dropL f nm n, false) else (insL nm vl (dropL f nm n), true)
  | 0 => by unfold rwF; rw [hv]; rfl
  | n + 1 => by
    unfold rwF
    rw [rw_full f nm vl hv n, dropL_succ]
    unfold rwS
    cases h : ((f n).1.toList == nm.toList)
    · simp only [Bool.false_eq_true, if_false]
      cases ha : (dropL f nm n).all (fun l => !gtB l.1 nm)
      · obtain ⟨e1, e2⟩ := tw_app2 (fun l : Lb => !gtB l.1 nm) (f n) (dropL f nm n) ha
        have ha2 : (dropL f nm n ++ [f n]).all (fun l => !gtB l.1 nm) = false := by rw [List.all_append, ha, Bool.false_and]
        rw [ha2]
        simp only [Bool.false_eq_true, if_false, Bool.not_true, Bool.false_and]
        unfold insL
        rw [e1, e2]
        simp
      · obtain ⟨e1, e2⟩ := tw_app1 (fun l : Lb => !gtB l.1 nm) (f n) (dropL f nm n) ha
        cases hg : gtB (f n).1 nm
        · have ha2 : (dropL f nm n ++ [f n]).all (fun l => !gtB l.1 nm) = true := by rw [List.all_append, ha]; simp [hg]
          rw [ha2]
          simp
        · have ha2 : (dropL f nm n ++ [f n]).all (fun l => !gtB l.1 nm) = false := by rw [List.all_append, ha]; simp [hg]
          rw [ha2]
          simp only [hg, Bool.not_true, Bool.false_eq_true, if_false] at e1 e2
          simp only [if_true, Bool.not_false, Bool.true_and, Bool.false_eq_true, if_false]
          unfold insL
          rw [e1, e2]
          simp
    · simp only [if_true, List.append_nil]
theorem with_eq (f : Nat → Lb) (nm vl : ByteArray) (n : Nat) : rwL f nm vl n = wthL f nm vl n := by
  unfold rwL wthL
  cases hv : vl.toList.isEmpty
  · rw [rw_full f nm vl hv n]
    cases ha : (dropL f nm n).all (fun l => !gtB l.1 nm)
    · simp
    · obtain ⟨e1, e2⟩ := tw_full (fun l : Lb => !gtB l.1 nm) (dropL f nm n) ha
      simp only [if_true, Bool.false_eq_true, if_false]
      unfold insL
      rw [e1, e2]
  · rw [rw_empty f nm vl hv n]
    simp
end Go.Proofs.Ytjmninjaoemhjaa
