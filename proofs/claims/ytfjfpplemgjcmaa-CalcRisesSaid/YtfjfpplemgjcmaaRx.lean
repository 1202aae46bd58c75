/- The quantile of a histogram of whole numbers doesn't fall. -/
import Derived.Test.YtfjfpplemgjcmaaRv
namespace Go.Proofs.Ytfjfpplemgjcmaa
open Go.RowKit Ieee

theorem fst_spec (P : Nat → Bool) : ∀ k i, (fstI P k i = -1 ∧ ∀ j, i ≤ j → j < i + k → P j = false) ∨ ∃ t : Nat, fstI P k i = t ∧ i ≤ t ∧ t < i + k ∧ P t = true ∧ ∀ j, i ≤ j → j < t → P j = false
  | 0, i => .inl ⟨rfl, fun j h1 h2 => by omega⟩
  | k + 1, i => by
    unfold fstI
    cases hp : P i
    · rw [if_neg (by decide)]
      rcases fst_spec P k (i + 1) with ⟨h1, h2⟩ | ⟨t, h1, h2, h3, h4, h5⟩
      · refine .inl ⟨h1, fun j a1 a2 => ?_⟩
        by_cases e : j = i
        · subst e; exact hp
        · exact h2 j (by omega) (by omega)
      · refine .inr ⟨t, h1, by omega, by omega, h4, fun j a1 a2 => ?_⟩
        by_cases e : j = i
        · subst e; exact hp
        · exact h5 j (by omega) a2
    · rw [if_pos rfl]
      exact .inr ⟨i, rfl, Nat.le_refl _, by omega, hp, fun j a1 a2 => by omega⟩
theorem nb_iff (a : Int) (r : Nat) (ha1 : -9007199254740992 ≤ a) (ha2 : a ≤ 9007199254740992) (hr : r % 2 ^ 63 < 0x7ff0000000000000) : nbB (some (iw a)) (some r) = true ↔ ky r ≤ ky (iw a) := by
  obtain ⟨fa, _, _⟩ := iw_facts a ha1 ha2
  have e : fo (some (iw a)) (some r) = some (compare (ky (iw a)) (ky r)) := key_order _ _ (ky_fin _ fa).1 (ky_fin _ hr).1
  unfold nbB
  rw [e]
  rcases cmp_cases (ky (iw a)) (ky r) with ⟨c, h⟩ | ⟨c, h⟩ | ⟨c, h⟩
  · rw [h]
    constructor
    · intro h2; cases h2
    · intro h2; omega
  · rw [h]
    exact ⟨fun _ => by omega, fun _ => rfl⟩
  · rw [h]
    exact ⟨fun _ => by omega, fun _ => rfl⟩
/-- Whole bounds that rise, whole counts that don't fall. -/
structure Hw (Z : Nat → Ab) (m : Nat) (b s : Nat → Int) : Prop where
  one : 1 ≤ m
  val : ∀ j, j < m → Z j = (iw (b j), some (iw (s j)))
  rise : ∀ i j, i < j → j < m → b i < b j
  keep : ∀ i j, i ≤ j → j < m → s i ≤ s j
  pos : 0 < s 0
  bb : ∀ j, j < m → -4294967296 ≤ b j ∧ b j ≤ 4294967296
  sb : ∀ j, j < m → s j ≤ 4294967296
def lbT (b : Nat → Int) (m : Nat) : Int → Int
  | .negSucc _ => b (m - 1)
  | .ofNat 0 => if b 0 ≤ 0 then b 0 else 0
  | .ofNat (k + 1) => b k
def ubT (b : Nat → Int) (m : Nat) : Int → Int
  | .negSucc _ => b (m - 1)
  | .ofNat k => b k
section
variable {Z : Nat → Ab} {m : Nat} {b s : Nat → Int}
theorem Hw.s0 (h : Hw Z m b s) (j : Nat) (hj : j < m) : 0 < s j ∧ -9007199254740992 ≤ s j ∧ s j ≤ 9007199254740992 := by
  have h1 := h.keep 0 j (by omega) hj
  have h2 := h.pos
  have h3 := h.sb j hj
  omega
theorem Hw.P (h : Hw Z m b s) (r : Nat) (hr : r % 2 ^ 63 < 0x7ff0000000000000) (j : Nat) (hj : j < m) : nbB (Z j).2 (some r) = true ↔ ky r ≤ ky (iw (s j)) := by
  rw [h.val j hj]
  have := h.s0 j hj
  exact nb_iff (s j) r this.2.1 this.2.2 hr
theorem res_same (h : Hw Z m b s) (r r' : Nat) (hr : r % 2 ^ 63 < 0x7ff0000000000000) (hr' : r' % 2 ^ 63 < 0x7ff0000000000000) (h0 : 0 ≤ ky r) (hle : ky r ≤ ky r') (X : Int) (hX : fstI (fun j => nbB (Z j).2 (some r)) m 0 = X) (hX' : fstI (fun j => nbB (Z j).2 (some r')) m 0 = X) :
    ∃ z z', anC Z (m + 1) (some r) = some z ∧ anC Z (m + 1) (some r') = some z' ∧ ky (iw (lbT b m X)) ≤ ky z ∧ ky z ≤ ky z' ∧ ky z' ≤ ky (iw (ubT b m X)) := by
  have h1m := h.one
  have e1 : ∀ r X, fstI (fun j => nbB (Z j).2 (some r)) m 0 = X → anC Z (m + 1) (some r) = match X with
      | .negSucc _ => cl (Z (m + 1 - 2)).1
      | .ofNat 0 => if fo (cl (Z 0).1) (some 0) = some .lt ∨ fo (cl (Z 0).1) (some 0) = some .eq then cl (Z 0).1 else lnK (cl (Z 0).1) (Z 0).2 (some r) (some 0) (some 0)
      | .ofNat (k + 1) => lnK (cl (Z (k + 1)).1) (Z (k + 1)).2 (some r) (cl (Z k).1) (Z k).2 := fun r X hX => by
    unfold anC
    rw [show m + 1 - 1 = m from rfl, hX]
    rfl
  rw [e1 r X hX, e1 r' X hX']
  have hcl : ∀ j, j < m → cl (Z j).1 = some (iw (b j)) := fun j hj => by
    have hb := h.bb j hj
    rw [h.val j hj]
    exact (iw_facts (b j) (by omega) (by omega)).2.2
  have sp := fst_spec (fun j => nbB (Z j).2 (some r)) m 0
  have sp' := fst_spec (fun j => nbB (Z j).2 (some r')) m 0
  rw [hX] at sp
  rw [hX'] at sp'
  cases X with
  | negSucc k =>
    have hm := h.bb (m - 1) (by omega)
    dsimp only
    rw [show m + 1 - 2 = m - 1 by omega, hcl (m - 1) (by omega)]
    exact ⟨_, _, rfl, rfl, Int.le_refl _, Int.le_refl _, Int.le_refl _⟩
  | ofNat k =>
    obtain ⟨t, ht, _, ht2, hp, hall⟩ := sp.resolve_left fun hc => by cases hc.1
    obtain ⟨t', ht', _, _, hp', _⟩ := sp'.resolve_left fun hc => by cases hc.1
    have et : k = t := Int.ofNat.inj ht
    have et' : k = t' := Int.ofNat.inj ht'
    subst et
    subst et'
    have hkm : k < m := by omega
    have hPr' := (h.P r' hr' k hkm).1 hp'
    have hbk := h.bb k hkm
    have hsk := h.sb k hkm
    cases k with
    | zero =>
      have ho : fo (cl (Z 0).1) (some 0) = some (compare (ky (iw (b 0))) 0) := by
        rw [hcl 0 hkm]
        have := key_order (iw (b 0)) 0 (ky_fin _ (iw_facts (b 0) (by omega) (by omega)).1).1 (by decide)
        rw [ky0] at this
        exact this
      have hb0 : ky (iw (b 0)) ≤ 0 ↔ b 0 ≤ 0 := by
        have := iw_ky (b 0) 0 (by omega) (by omega) (by omega) (by omega)
        rw [ky_iw0] at this
        exact this
      dsimp only
      by_cases hc : b 0 ≤ 0
      · have hk := hb0.2 hc
        have hcond : fo (cl (Z 0).1) (some 0) = some .lt ∨ fo (cl (Z 0).1) (some 0) = some .eq := by
          rw [ho]
          rcases cmp_cases (ky (iw (b 0))) 0 with ⟨c, e⟩ | ⟨c, e⟩ | ⟨c, e⟩
          · left; rw [e]
          · right; rw [e]
          · omega
        rw [if_pos hcond, if_pos hcond, hcl 0 hkm]
        refine ⟨_, _, rfl, rfl, ?_, Int.le_refl _, Int.le_refl _⟩
        show ky (iw (if b 0 ≤ 0 then b 0 else 0)) ≤ _
        rw [if_pos hc]
        exact Int.le_refl _
      · have hk : 0 < ky (iw (b 0)) := by
          have := fun h2 => hc (hb0.1 h2)
          omega
        have hcond : ¬ (fo (cl (Z 0).1) (some 0) = some .lt ∨ fo (cl (Z 0).1) (some 0) = some .eq) := by
          rw [ho, Int.compare_eq_gt.2 hk]
          decide
        rw [if_neg hcond, if_neg hcond, hcl 0 hkm, h.val 0 hkm]
        have hs0 := h.pos
        obtain ⟨z, z', a1, a2, a3, a4, a5⟩ := line_ok 0 (b 0) 0 (s 0) r r' (by omega) (by omega) (by omega) (by omega) hs0 hsk hr hr' (by rw [ky_iw0]; exact h0) hle hPr'
        rw [iw0] at a1 a2
        refine ⟨z, z', a1, a2, ?_, a4, a5⟩
        show ky (iw (if b 0 ≤ 0 then b 0 else 0)) ≤ _
        rw [if_neg hc]
        exact a3
    | succ k =>
      have hP0 : ¬ ky r ≤ ky (iw (s k)) := fun hc => by
        have h2 := (h.P r hr k (by omega)).2 hc
        have h3 := hall k (by omega) (by omega)
        rw [h2] at h3
        cases h3
      have s1 := h.s0 k (by omega)
      have s2 := h.s0 (k + 1) hkm
      have hbk1 := h.bb k (by omega)
      have hss : s k < s (k + 1) := by
        refine Int.not_le.1 fun hc => ?_
        have := (iw_ky (s (k + 1)) (s k) (by omega) (by omega) (by omega) (by omega)).2 hc
        omega
      dsimp only
      rw [hcl (k + 1) hkm, hcl k (by omega), h.val (k + 1) hkm, h.val k (by omega)]
      obtain ⟨z, z', a1, a2, a3, a4, a5⟩ := line_ok (b k) (b (k + 1)) (s k) (s (k + 1)) r r' (h.rise k (k + 1) (by omega) hkm) (by omega) (by omega) (by omega) hss hsk hr hr' (by omega) hle hPr'
      exact ⟨z, z', a1, a2, a3, a4, a5⟩
theorem Hw.mono (h : Hw Z m b s) (i j : Nat) (hij : i ≤ j) (hj : j < m) : b i ≤ b j := by
  by_cases e : i = j
  · subst e; exact Int.le_refl _
  · exact Int.le_of_lt (h.rise i j (by omega) hj)
theorem rises (h : Hw Z m b s) (r r' : Nat) (hr : r % 2 ^ 63 < 0x7ff0000000000000) (hr' : r' % 2 ^ 63 < 0x7ff0000000000000) (h0 : 0 ≤ ky r) (hle : ky r ≤ ky r') :
    ∃ z z', anC Z (m + 1) (some r) = some z ∧ anC Z (m + 1) (some r') = some z' ∧ ky (iw (if b 0 < 0 then b 0 else 0)) ≤ ky z ∧ ky z ≤ ky z' ∧ ky z' ≤ ky (iw (b (m - 1))) := by
  have h1m := h.one
  have hb0 := h.bb 0 (by omega)
  have hbm := h.bb (m - 1) (by omega)
  have hlow : ∀ X : Int, (X = -1 ∨ (0 ≤ X ∧ X < m)) → (if b 0 < 0 then b 0 else 0) ≤ lbT b m X ∧ ubT b m X ≤ b (m - 1) ∧ -4294967296 ≤ lbT b m X ∧ lbT b m X ≤ 4294967296 ∧ -4294967296 ≤ ubT b m X ∧ ubT b m X ≤ 4294967296 := fun X hX => by
    have hb0m := h.mono 0 (m - 1) (by omega) (by omega)
    cases X with
    | negSucc k =>
      show _ ≤ b (m - 1) ∧ b (m - 1) ≤ b (m - 1) ∧ _ ≤ b (m - 1) ∧ b (m - 1) ≤ _ ∧ _ ≤ b (m - 1) ∧ b (m - 1) ≤ _
      by_cases hn : b 0 < 0
      · rw [if_pos hn]; omega
      · rw [if_neg hn]; omega
    | ofNat k =>
      have hk : k < m := by
        rcases hX with h | ⟨_, h⟩
        · cases h
        · have : (k : Int) < m := h
          omega
      have hbk := h.bb k hk
      have hkm := h.mono k (m - 1) (by omega) (by omega)
      cases k with
      | zero =>
        show _ ≤ (if b 0 ≤ 0 then b 0 else 0) ∧ b 0 ≤ _ ∧ _ ≤ (if b 0 ≤ 0 then b 0 else 0) ∧ (if b 0 ≤ 0 then b 0 else 0) ≤ _ ∧ _ ≤ b 0 ∧ b 0 ≤ _
        split <;> split <;> omega
      | succ k =>
        have h2 := h.mono 0 k (by omega) (by omega)
        have h3 := h.bb k (by omega)
        show _ ≤ b k ∧ b (k + 1) ≤ _ ∧ _ ≤ b k ∧ b k ≤ _ ∧ _ ≤ b (k + 1) ∧ b (k + 1) ≤ _
        split <;> omega
  have sp := fst_spec (fun j => nbB (Z j).2 (some r)) m 0
  have sp' := fst_spec (fun j => nbB (Z j).2 (some r')) m 0
  have hXr : fstI (fun j => nbB (Z j).2 (some r)) m 0 = -1 ∨ (0 ≤ fstI (fun j => nbB (Z j).2 (some r)) m 0 ∧ fstI (fun j => nbB (Z j).2 (some r)) m 0 < m) := by
    rcases sp with ⟨h1, _⟩ | ⟨t, h1, _, h3, _⟩
    · exact .inl h1
    · right; rw [h1]; omega
  have hXr' : fstI (fun j => nbB (Z j).2 (some r')) m 0 = -1 ∨ (0 ≤ fstI (fun j => nbB (Z j).2 (some r')) m 0 ∧ fstI (fun j => nbB (Z j).2 (some r')) m 0 < m) := by
    rcases sp' with ⟨h1, _⟩ | ⟨t, h1, _, h3, _⟩
    · exact .inl h1
    · right; rw [h1]; omega
  obtain ⟨z, z2, a1, _, a3, a4, a5⟩ := res_same h r r hr hr h0 (Int.le_refl _) _ rfl rfl
  obtain ⟨w1, w', _, c2, c3, c4, c5⟩ := res_same h r' r' hr' hr' (by omega) (Int.le_refl _) _ rfl rfl
  have l1 := hlow _ hXr
  have l2 := hlow _ hXr'
  by_cases hsame : fstI (fun j => nbB (Z j).2 (some r)) m 0 = fstI (fun j => nbB (Z j).2 (some r')) m 0
  · obtain ⟨z, z', d1, d2, d3, d4, d5⟩ := res_same h r r' hr hr' h0 hle _ hsame rfl
    refine ⟨z, z', d1, d2, ?_, d4, ?_⟩
    · have := (iw_ky (if b 0 < 0 then b 0 else 0) (lbT b m (fstI (fun j => nbB (Z j).2 (some r')) m 0)) (by split <;> omega) (by split <;> omega) (by omega) (by omega)).2 l2.1
      omega
    · have := (iw_ky (ubT b m (fstI (fun j => nbB (Z j).2 (some r')) m 0)) (b (m - 1)) (by omega) (by omega) (by omega) (by omega)).2 l2.2.1
      omega
  · have hub : ubT b m (fstI (fun j => nbB (Z j).2 (some r)) m 0) ≤ lbT b m (fstI (fun j => nbB (Z j).2 (some r')) m 0) := by
      have hPP : ∀ j, j < m → nbB (Z j).2 (some r') = true → nbB (Z j).2 (some r) = true := fun j hj hp => (h.P r hr j hj).2 (by
        have := (h.P r' hr' j hj).1 hp
        omega)
      rcases sp with ⟨e1, n1⟩ | ⟨t, e1, _, t2, t3, t4⟩ <;> rcases sp' with ⟨e2, n2⟩ | ⟨t', e2, _, t2', t3', t4'⟩
      · rw [e1, e2] at hsame; exact absurd rfl hsame
      · exfalso
        have h2 := hPP t' (by omega) t3'
        have h3 := n1 t' (by omega) (by omega)
        rw [h2] at h3; cases h3
      · rw [e1, e2]
        exact h.mono t (m - 1) (by omega) (by omega)
      · rw [e1, e2]
        have hlt : t < t' := by
          rcases Nat.lt_trichotomy t t' with c | c | c
          · exact c
          · subst c; rw [e1, e2] at hsame; exact absurd rfl hsame
          · exfalso
            have h2 := hPP t' (by omega) t3'
            have h3 := t4 t' (by omega) c
            rw [h2] at h3; cases h3
        obtain ⟨k, rfl⟩ : ∃ k, t' = k + 1 := ⟨t' - 1, by omega⟩
        show b t ≤ b k
        exact h.mono t k (by omega) (by omega)
    have hkk := (iw_ky _ _ (by omega) (by omega) (by omega) (by omega)).2 hub
    refine ⟨z, w', a1, c2, ?_, by omega, ?_⟩
    · have := (iw_ky (if b 0 < 0 then b 0 else 0) (lbT b m (fstI (fun j => nbB (Z j).2 (some r)) m 0)) (by split <;> omega) (by split <;> omega) (by omega) (by omega)).2 l1.1
      omega
    · have := (iw_ky (ubT b m (fstI (fun j => nbB (Z j).2 (some r')) m 0)) (b (m - 1)) (by omega) (by omega) (by omega) (by omega)).2 l2.2.1
      omega
end
end Go.Proofs.Ytfjfpplemgjcmaa
