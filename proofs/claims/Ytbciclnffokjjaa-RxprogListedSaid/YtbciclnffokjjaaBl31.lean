/- A bundle of texts. -/
import Derived.Test.YtbciclnffokjjaaBl30
/- Code: its length; Compile. -/
namespace Go.Proofs.Ytbciclnffokjjaa
open Go.RowKit

theorem catF_sum {F : Nat → Int → List Ia} {L : Nat → Int} (b : Int) : ∀ n, (∀ j, j < n → ∀ b, ((F j b).length : Int) = L j) → ((catF F n b).length : Int) = sumN L n
  | 0, _ => rfl
  | n + 1, h => by
    unfold catF sumN
    rw [List.length_append, Int.natCast_add, catF_sum b n (fun j hj => h j (by omega)), h n (by omega)]
theorem altF_sum {F : Nat → Int → List Ia} {L : Nat → Int} (e b : Int) : ∀ n, (∀ j, j < n → ∀ b, ((F j b).length : Int) = L j) → ((altF F e n b).length : Int) = sumN L n + 2 * n
  | 0, _ => rfl
  | n + 1, h => by
    have ih := altF_sum (F := F) (L := L) e b n (fun j hj => h j (by omega))
    have hn := h n (by omega) (b + (altF F e n b).length + 1)
    unfold altF sumN
    rw [List.length_append, List.length_cons, List.length_append, List.length_singleton]
    push_cast
    omega
theorem sumN_mem {L : Nat → Int} : ∀ {n : Nat}, (∀ j, j < n → 0 ≤ L j) → ∀ j, j < n → L j ≤ sumN L n
  | 0, _, j, hj => by omega
  | n + 1, h, j, hj => by
    have h0 : 0 ≤ sumN L n := by
      have key : ∀ m, m ≤ n → 0 ≤ sumN L m := by
        intro m
        induction m with
        | zero => intro _; exact Int.le_refl _
        | succ m ih => intro hm; unfold sumN; have := ih (by omega); have := h m (by omega); omega
      exact key n (Nat.le_refl _)
    unfold sumN
    by_cases e : j = n
    · subst e; omega
    · have := sumN_mem (n := n) (fun j hj => h j (by omega)) j (by omega)
      have := h n (by omega)
      omega
theorem repC_len (k : List Ia) (mn mx : Int) (lz : Bool) (b : Int) (h0 : 0 ≤ mn) (hx : mx = -1 ∨ mn ≤ mx) (hm : ¬ mx = 0) : ((repC k mn mx lz b).length : Int) = if mx = -1 then mn * k.length + k.length + 2 else mn * k.length + (mx - mn) * (k.length + 1) := by
  unfold repC
  rw [if_neg hm]
  have hl : ((layF k mn.toNat b).length : Int) = mn * k.length := by rw [layF_len]; push_cast; rw [Int.toNat_of_nonneg h0]
  by_cases h1 : mx = -1
  · rw [if_pos h1, if_pos h1, List.length_append, List.length_cons, List.length_append, mvs_len, List.length_singleton]
    push_cast
    omega
  · rw [if_neg h1, if_neg h1, List.length_append, optF_len]
    push_cast
    rw [Int.toNat_of_nonneg (by omega), hl, Int.add_comm 1 (k.length : Int)]
theorem cod_len : ∀ (m : Nat) (t : Tr) (b : Int), WF m t → lenF m t ≤ 10000 → ((cod m t b).length : Int) = lenF m t
  | 0, _, _, h, _ => by cases h
  | m + 1, t, b, hw, hl => by
    obtain ⟨⟨hnd, _⟩, hkn, hk⟩ := hw
    have hbd : ∀ j, j < (t []).kn → 0 ≤ lenF m (kid t j) ∧ lenF m (kid t j) ≤ 10001 := fun j hj => lenF_bd m _ (hk j hj)
    have hkd := ndB_kind hnd
    rw [lenF_succ] at hl ⊢
    obtain ⟨s, hs⟩ : ∃ s, sumN (fun j => lenF m (kid t j)) (t []).kn = s := ⟨_, rfl⟩
    rw [hs] at hl ⊢
    have hmem : ∀ j, j < (t []).kn → lenF m (kid t j) ≤ s := fun j hj => by rw [← hs]; exact sumN_mem (L := fun j => lenF m (kid t j)) (fun j hj => (hbd j hj).1) j hj
    have hs0 : 0 ≤ s := by
      rw [← hs]
      exact (sumN_bd (f := fun j => lenF m (kid t j)) (b := 10001) (by omega) _ hbd).1
    have ih : s ≤ 10000 → ∀ j, j < (t []).kn → ∀ b, (((fun j b => cod m (kid t j) b) j b).length : Int) = lenF m (kid t j) := fun h j hj b => cod_len m _ b (hk j hj) (by have := hmem j hj; omega)
    have hmin : lenK (t []) s ≤ 10000 := by omega
    rw [show min (lenK (t []) s) 10001 = lenK (t []) s by omega]
    by_cases k2 : (t []).kind = 2
    · have eC : cod (m + 1) t b = [⟨2, b + 1, 0, 0, [((t []).r, (t []).r)]⟩] := by unfold cod; rw [if_pos k2]
      have eL : lenK (t []) s = 1 := by unfold lenK; rw [if_neg (by omega), if_neg (by omega), if_neg (by omega), if_neg (by omega)]
      rw [eC, eL]; rfl
    by_cases k3 : (t []).kind = 3
    · have eC : cod (m + 1) t b = [clsC (rsL (t [])) b] := by unfold cod; rw [if_neg k2, if_pos k3]
      have eL : lenK (t []) s = 1 := by unfold lenK; rw [if_neg (by omega), if_neg (by omega), if_neg (by omega), if_neg (by omega)]
      rw [eC, eL]; rfl
    by_cases k4 : (t []).kind = 4
    · have eC : cod (m + 1) t b = catF (fun j b => cod m (kid t j) b) (t []).kn b := by
        conv => lhs; unfold cod
        rw [if_neg k2, if_neg k3, if_pos k4]
      have eL : lenK (t []) s = s := by unfold lenK; rw [if_pos (Or.inr k4)]
      rw [eL] at hmin ⊢
      rw [eC, catF_sum b _ (ih hmin), hs]
    by_cases k5 : (t []).kind = 5
    · have h2 := ndB_row hnd (.inr k5)
      have eC : cod (m + 1) t b = altC (fun j b => cod m (kid t j) b) ((t []).kn - 1) b := by
        conv => lhs; unfold cod
        rw [if_neg k2, if_neg k3, if_neg k4, if_pos k5]
      have eL : lenK (t []) s = s + 2 * (((t []).kn : Int) - 1) := by unfold lenK; rw [if_neg (by omega), if_pos k5]
      rw [eL] at hmin ⊢
      rw [eC]
      have ih' := ih (by omega)
      have e0 : ((altF (fun j b => cod m (kid t j) b) (b + (altF (fun j b => cod m (kid t j) b) 0 ((t []).kn - 1) b).length + ((fun j b => cod m (kid t j) b) ((t []).kn - 1) (b + (altF (fun j b => cod m (kid t j) b) 0 ((t []).kn - 1) b).length)).length) ((t []).kn - 1) b).length : Int) = sumN (fun j => lenF m (kid t j)) ((t []).kn - 1) + 2 * (((t []).kn - 1 : Nat) : Int) := altF_sum _ b _ (fun j hj => ih' j (by omega))
      have e2 := ih' ((t []).kn - 1) (by omega) (b + (altF (fun j b => cod m (kid t j) b) 0 ((t []).kn - 1) b).length)
      have e1 : sumN (fun j => lenF m (kid t j)) (t []).kn = sumN (fun j => lenF m (kid t j)) ((t []).kn - 1) + lenF m (kid t ((t []).kn - 1)) := by
        obtain ⟨q, hq⟩ : ∃ q, (t []).kn = q + 1 := ⟨(t []).kn - 1, by omega⟩
        rw [hq, Nat.add_sub_cancel]
        rfl
      unfold altC
      rw [List.length_append, Int.natCast_add, e0, e2]
      omega
    by_cases k6 : (t []).kind = 6
    · have h6 := ndB_rep hnd k6
      have eC : cod (m + 1) t b = repC (cod m (kid t 0) 0) (t []).mn (t []).mx (t []).lz b := by
        conv => lhs; unfold cod
        rw [if_neg k2, if_neg k3, if_neg k4, if_neg k5, if_pos k6]
      have eL : lenK (t []) s = if (t []).mx = -1 then (t []).mn * s + s + 2 else (t []).mn * s + ((t []).mx - (t []).mn) * (s + 1) := by unfold lenK; rw [if_neg (by omega), if_neg k5, if_neg (by omega), if_pos k6]
      rw [eL] at hmin ⊢
      rw [eC]
      have hs1 : lenF m (kid t 0) = s := by
        have e : sumN (fun j => lenF m (kid t j)) 1 = s := by rw [← hs, h6.1]
        simpa [sumN] using e
      by_cases hx : (t []).mx = 0
      · have hmn : (t []).mn = 0 := by omega
        unfold repC
        rw [if_pos hx, if_neg (by omega), hx, hmn]
        simp
      · have hsl : s ≤ 10000 := by
          by_cases h : s ≤ 10000
          · exact h
          · exfalso
            split at hmin
            · have := Int.mul_nonneg h6.2.1 hs0
              omega
            · by_cases hm0 : (t []).mn = 0
              · rw [hm0] at hmin
                have h3 : 1 * (s + 1) ≤ ((t []).mx - 0) * (s + 1) := Int.mul_le_mul_of_nonneg_right (by omega) (by omega)
                omega
              · have h3 : 1 * s ≤ (t []).mn * s := Int.mul_le_mul_of_nonneg_right (by omega) hs0
                have h4 := Int.mul_nonneg (show 0 ≤ (t []).mx - (t []).mn by omega) (show 0 ≤ s + 1 by omega)
                omega
        have hk0 : ((cod m (kid t 0) 0).length : Int) = s := by rw [cod_len m _ 0 (hk 0 (by omega)) (by omega), hs1]
        rw [repC_len _ _ _ _ _ h6.2.1 (by omega) hx, hk0]
    by_cases k7 : (t []).kind = 7
    · have h7 := ndB_grp hnd k7
      have eC : cod (m + 1) t b = ⟨4, b + 1, 0, 2 * (t []).cp, []⟩ :: (cod m (kid t 0) (b + 1) ++ [⟨4, b + 1 + (cod m (kid t 0) (b + 1)).length + 1, 0, 2 * (t []).cp + 1, []⟩]) := by
        conv => lhs; unfold cod
        rw [if_neg k2, if_neg k3, if_neg k4, if_neg k5, if_neg k6, if_pos k7]
      have eL : lenK (t []) s = s + 2 := by unfold lenK; rw [if_neg (by omega), if_neg k5, if_pos k7]
      rw [eL] at hmin ⊢
      rw [eC]
      have hs1 : lenF m (kid t 0) = s := by
        have e : sumN (fun j => lenF m (kid t j)) 1 = s := by rw [← hs, h7]
        simpa [sumN] using e
      have := ih (by omega) 0 (by omega) (b + 1)
      dsimp only at this
      rw [List.length_cons, List.length_append, List.length_singleton]
      push_cast
      omega
    by_cases k13 : (t []).kind = 13
    · have eC : cod (m + 1) t b = [⟨9, b + 1, 0, 1, []⟩] := by unfold cod; rw [if_neg k2, if_neg k3, if_neg k4, if_neg k5, if_neg k6, if_neg k7, if_pos k13]
      have eL : lenK (t []) s = 1 := by unfold lenK; rw [if_neg (by omega), if_neg (by omega), if_neg (by omega), if_neg (by omega)]
      rw [eC, eL]; rfl
    by_cases k8 : 8 ≤ (t []).kind
    · have eC : cod (m + 1) t b = [⟨(t []).kind - 3, b + 1, 0, 0, []⟩] := by unfold cod; rw [if_neg k2, if_neg k3, if_neg k4, if_neg k5, if_neg k6, if_neg k7, if_neg k13, if_pos k8]
      have eL : lenK (t []) s = 1 := by unfold lenK; rw [if_neg (by omega), if_neg (by omega), if_neg (by omega), if_neg (by omega)]
      rw [eC, eL]; rfl
    · have eC : cod (m + 1) t b = [] := by unfold cod; rw [if_neg k2, if_neg k3, if_neg k4, if_neg k5, if_neg k6, if_neg k7, if_neg k13, if_neg k8]
      have eL : lenK (t []) s = s := by unfold lenK; rw [if_pos (Or.inl (by omega))]
      rw [eC, eL]
      have h0 := ndB_leaf hnd (.inl (by omega))
      rw [h0] at hs
      have : s = 0 := hs.symm
      rw [this]
      rfl
end Go.Proofs.Ytbciclnffokjjaa
