/- A bundle of texts. -/
import Derived.Test.YtajaadagejhllaaGreatDoorBs09
/- Trees: valid trees; length. -/
namespace Go.Proofs.YtajaadagejhllaaGreatDoor
open Go.RowKit

/-- Each node of a tree is as its kind asks. -/
def WF : Nat → Tr → Prop
  | 0, _ => False
  | m + 1, t => (ndB (t []) = true ∧ ((t []).kind = 7 → 1 ≤ (t []).cp ∧ (t []).cp ≤ 100)) ∧ (t []).kn ≤ 8194 ∧ ∀ j, j < (t []).kn → WF m (kid t j)
theorem vds_cut {F : Tr → Int → St → Option St} {t : Tr} {op : Int} {s : St} : ∀ {n : Nat} {s1 : St}, vds F t op n s = some s1 → ∀ j, j < n → ∃ s2 s3 op', vds F t op j s = some s2 ∧ F (kid t j) op' s2 = some s3
  | 0, _, _, j, hj => by omega
  | n + 1, s1, h, j, hj => by
    unfold vds at h
    cases hn : vds F t op n s with
    | none => rw [hn] at h; cases h
    | some s2 =>
      rw [hn] at h
      by_cases e : j = n
      · subst e
        exact ⟨s2, s1, _, hn, h⟩
      · exact vds_cut hn j (by omega)
theorem vds_many {m : Nat} {t : Tr} {op : Int} {s : St} : ∀ {n : Nat} {s1 : St}, vds (vd m) t op n s = some s1 → s.k + n ≤ s1.k
  | 0, _, h => by cases h; omega
  | n + 1, s1, h => by
    unfold vds at h
    cases hn : vds (vd m) t op n s with
    | none => rw [hn] at h; cases h
    | some s2 =>
      rw [hn] at h
      have := vds_many hn
      have := vd_k m _ _ _ _ h
      omega
theorem WF_of : ∀ (m : Nat) (t : Tr) (op : Int) (s s1 : St), s.n ≤ 100 → vd m t op s = some s1 → WF m t
  | 0, _, _, _, _, _, h => by cases h
  | m + 1, t, op, s, s1, hN, h => by
    have hk := vd_k _ _ _ _ _ h
    unfold vd at h
    split at h
    · cases h
    · rename_i hc
      cases hm : mid (t []) { s with k := s.k + 1 } with
      | none => rw [hm] at h; cases h
      | some s2 =>
        rw [hm] at h
        have h' : vds (vd m) t (if (t []).kind = 7 then op + 1 else op) (t []).kn s2 = some s1 := h
        refine ⟨⟨?_, fun k7 => ?_⟩, ?_, fun j hj => ?_⟩
        · cases hn : ndB (t []) with
          | true => rfl
          | false => exact absurd (.inr (.inr hn)) hc
        · unfold mid grp at hm
          rw [if_neg (by omega), if_pos k7] at hm
          split at hm
          · cases hm
          · rename_i hh
            have e : (t []).cp = (s.n : Int) + 1 := by
              by_cases e : (t []).cp = (s.n : Int) + 1
              · exact e
              · exact absurd (.inr (.inl e)) hh
            have : s.n < 100 := by
              have := hN
              have : ¬ s.n = 100 := fun e => hh (.inl e)
              omega
            omega
        · have := vds_many h'
          omega
        · obtain ⟨s3, s4, op', h3, h4⟩ := vds_cut h' j hj
          exact WF_of m _ _ _ _ (vds_n h3 (mid_n hm hN)) h4
theorem WF_ok {t : Tr} (h : okT t = true) : WF 8195 t := by
  unfold okT svd at h
  cases hv : vd 8195 t 0 s0 with
  | none => rw [hv] at h; cases h
  | some s1 => exact WF_of _ _ _ _ _ (by decide) hv

/-- What a sound node's kind says of its fields. -/
theorem ndB_kind {d : Nd} (h : ndB d = true) : 1 ≤ d.kind ∧ d.kind ≤ 13 := by
  unfold ndB kdB at h
  simp only [Bool.and_eq_true] at h
  have h2 := h.2
  by_cases k : 1 ≤ d.kind ∧ d.kind ≤ 13
  · exact k
  · rw [if_neg (by omega), if_neg (by omega), if_neg (by omega), if_neg (by omega), if_neg (by omega), if_neg (by omega)] at h2
    cases h2
theorem ndB_rep {d : Nd} (h : ndB d = true) (k : d.kind = 6) : d.kn = 1 ∧ 0 ≤ d.mn ∧ d.mn ≤ 1000 ∧ (d.mx = -1 ∨ d.mn ≤ d.mx ∧ d.mx ≤ 1000) := by
  unfold ndB kdB at h
  simp only [Bool.and_eq_true] at h
  have h2 := h.2
  rw [if_neg (by omega), if_neg (by omega), if_neg (by omega), if_pos k] at h2
  simp only [Bool.and_eq_true, beq_iff_eq, tiB, decide_eq_true_iff] at h2
  exact ⟨by omega, h2.2.1, h2.2.2.1, h2.2.2.2⟩
theorem ndB_grp {d : Nd} (h : ndB d = true) (k : d.kind = 7) : d.kn = 1 := by
  unfold ndB kdB at h
  simp only [Bool.and_eq_true] at h
  have h2 := h.2
  rw [if_neg (by omega), if_neg (by omega), if_neg (by omega), if_neg (by omega), if_pos k] at h2
  simp only [Bool.and_eq_true, beq_iff_eq] at h2
  omega
theorem ndB_row {d : Nd} (h : ndB d = true) (k : d.kind = 4 ∨ d.kind = 5) : 2 ≤ d.kn := by
  unfold ndB kdB at h
  simp only [Bool.and_eq_true] at h
  have h2 := h.2
  rw [if_neg (by omega), if_neg (by omega), if_pos k] at h2
  simp only [decide_eq_true_iff] at h2
  omega
theorem ndB_leaf {d : Nd} (h : ndB d = true) (k : d.kind ≤ 3 ∨ 8 ≤ d.kind) : d.kn = 0 := by
  have hk := ndB_kind h
  unfold ndB kdB at h
  simp only [Bool.and_eq_true] at h
  have h2 := h.2
  by_cases k2 : d.kind = 2
  · rw [if_pos k2] at h2
    simp only [Bool.and_eq_true, beq_iff_eq] at h2
    omega
  by_cases k3 : d.kind = 3
  · rw [if_neg k2, if_pos k3] at h2
    simp only [Bool.and_eq_true, beq_iff_eq] at h2
    omega
  rw [if_neg k2, if_neg k3, if_neg (by omega), if_neg (by omega), if_neg (by omega), if_pos (by omega)] at h2
  simp only [beq_iff_eq] at h2
  omega

/-- The sum over the first n. -/
def sumN (f : Nat → Int) : Nat → Int
  | 0 => 0
  | n + 1 => sumN f n + f n
/-- How many instructions a node's code has, its kids' lengths being s in all. -/
def lenK (d : Nd) (s : Int) : Int := if d.kind = 1 ∨ d.kind = 4 then s else if d.kind = 5 then s + 2 * ((d.kn : Int) - 1) else if d.kind = 7 then s + 2 else if d.kind = 6 then (if d.mx = -1 then d.mn * s + s + 2 else d.mn * s + (d.mx - d.mn) * (s + 1)) else 1
def lenF : Nat → Tr → Int
  | 0, _ => 0
  | m + 1, t => min (lenK (t []) (sumN (fun j => lenF m (kid t j)) (t []).kn)) 10001
theorem sumN_bd {f : Nat → Int} {b : Int} (hb : 0 ≤ b) : ∀ n : Nat, (∀ j, j < n → 0 ≤ f j ∧ f j ≤ b) → 0 ≤ sumN f n ∧ sumN f n ≤ n * b
  | 0, _ => by simp [sumN]
  | n + 1, h => by
    have a := sumN_bd hb n (fun j hj => h j (by omega))
    have c := h n (by omega)
    unfold sumN
    have e : ((n + 1 : Nat) : Int) * b = n * b + b := by rw [Int.natCast_add]; simp [Int.add_mul]
    rw [e]
    omega
theorem sumN_one (f : Nat → Int) : sumN f 1 = f 0 := by simp [sumN]
theorem lenF_bd : ∀ (m : Nat) (t : Tr), WF m t → 0 ≤ lenF m t ∧ lenF m t ≤ 10001
  | 0, _, h => by cases h
  | m + 1, t, h => by
    obtain ⟨⟨hn, _⟩, hk, hkid⟩ := h
    have hs := sumN_bd (f := fun j => lenF m (kid t j)) (b := 10001) (by omega) (t []).kn (fun j hj => lenF_bd m _ (hkid j hj))
    obtain ⟨s, hs'⟩ : ∃ s, sumN (fun j => lenF m (kid t j)) (t []).kn = s := ⟨_, rfl⟩
    rw [hs'] at hs
    have key : 0 ≤ lenK (t []) s := by
      unfold lenK
      split
      · omega
      · split
        · have := ndB_row hn (by omega)
          omega
        · split
          · omega
          · split
            · rename_i k6
              have := ndB_rep hn k6
              split
              · have := Int.mul_nonneg this.2.1 hs.1
                omega
              · have a := Int.mul_nonneg this.2.1 hs.1
                have b := Int.mul_nonneg (show 0 ≤ (t []).mx - (t []).mn by omega) (show 0 ≤ s + 1 by omega)
                omega
            · omega
    show 0 ≤ min (lenK (t []) (sumN _ _)) 10001 ∧ min (lenK (t []) (sumN _ _)) 10001 ≤ 10001
    rw [hs']
    omega
end Go.Proofs.YtajaadagejhllaaGreatDoor
