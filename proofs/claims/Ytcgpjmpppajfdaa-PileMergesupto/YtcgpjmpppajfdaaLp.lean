
/- Merging: which list's head is next; what a heap of lists holds. -/
import Derived.Test.YtcgpjmpppajfdaaLb
namespace Go.Proofs.Ytcgpjmpppajfdaa.Li

def KL (fl : Bool) (l : List It) : Int := if fl = true then 0 else (l.getD 0 (0, 0)).1
def KF (fl : Bool) (u : Ls) : Int := if fl = true then 0 else (u.2.2.2 0).1
def aF (fl : Bool) : Lk → Lk → Bool := inO (if fl = true then hdN else hdK)
theorem isF (fl : Bool) : Is (KF fl) (aF fl) := fun x y => by
  cases fl <;> (unfold aF inO Lx KF; simp only [hdK, hdN, lsK, if_true, if_false, Bool.false_eq_true]; split <;> simp <;> omega)
/-- A list's things. -/
def things (u : Ls) : List It := (List.range u.2.1).map u.2.2.2
theorem things_len (u : Ls) : (things u).length = u.2.1 := by simp [things]
theorem things_ne {u : Ls} (h : 0 < u.2.1) : things u ≠ [] := fun e => by
  have := things_len u
  rw [e] at this
  simp at this
  omega
theorem things_get (u : Ls) (j : Nat) (h : j < u.2.1) : (things u).getD j (0, 0) = u.2.2.2 j := by
  simp [things, List.getD, h]
theorem KF_things (fl : Bool) {u : Ls} (h : 0 < u.2.1) : KF fl u = KL fl (things u) := by
  unfold KF KL
  rw [things_get u 0 h]
theorem things_drop (a : Option Addr) (n c c' : Nat) (a' : Option Addr) (f : Nat → It) : things (a', n - 1, c', fun j => f (j + 1)) = (things (a, n, c, f)).drop 1 := by
  unfold things
  dsimp only
  cases n with
  | zero => rfl
  | succ n => rw [List.range_succ_eq_map]; simp [List.map_map, Function.comp_def]

/-- The list whose head comes next. -/
def bst (fl : Bool) (R : Nat → List It) : Nat → Option Nat
  | 0 => none
  | n + 1 => match bst fl R n with
    | none => if R n = [] then none else some n
    | some b => if R n ≠ [] ∧ KL fl (R n) < KL fl (R b) then some n else some b
theorem bst_ok (fl : Bool) (R : Nat → List It) : ∀ n, match bst fl R n with
    | none => ∀ i, i < n → R i = []
    | some b => b < n ∧ R b ≠ [] ∧ ∀ i, i < n → R i ≠ [] → KL fl (R b) < KL fl (R i) ∨ (KL fl (R b) = KL fl (R i) ∧ b ≤ i)
  | 0 => fun i h => by omega
  | n + 1 => by
    have ih := bst_ok fl R n
    unfold bst
    cases hb : bst fl R n with
    | none =>
      rw [hb] at ih
      dsimp only at ih ⊢
      by_cases h0 : R n = []
      · rw [if_pos h0]
        intro i hi
        by_cases e : i = n
        · rw [e]; exact h0
        · exact ih i (by omega)
      · rw [if_neg h0]
        refine ⟨by omega, h0, fun i hi hne => ?_⟩
        by_cases e : i = n
        · subst e; exact .inr ⟨rfl, Nat.le_refl _⟩
        · exact absurd (ih i (by omega)) hne
    | some b =>
      rw [hb] at ih
      dsimp only at ih ⊢
      obtain ⟨h1, h2, h3⟩ := ih
      by_cases hc : R n ≠ [] ∧ KL fl (R n) < KL fl (R b)
      · rw [if_pos hc]
        refine ⟨by omega, hc.1, fun i hi hne => ?_⟩
        by_cases e : i = n
        · subst e; exact .inr ⟨rfl, Nat.le_refl _⟩
        · have := h3 i (by omega) hne
          exact .inl (by omega)
      · rw [if_neg hc]
        refine ⟨by omega, h2, fun i hi hne => ?_⟩
        by_cases e : i = n
        · subst e
          have : ¬ KL fl (R i) < KL fl (R b) := fun x => hc ⟨hne, x⟩
          omega
        · exact h3 i (by omega) hne
theorem bst_none {fl : Bool} {R : Nat → List It} {n : Nat} (h : bst fl R n = none) : ∀ i, i < n → R i = [] := by
  have := bst_ok fl R n
  rw [h] at this
  exact this
theorem bst_some {fl : Bool} {R : Nat → List It} {n b : Nat} (h : bst fl R n = some b) : b < n ∧ R b ≠ [] ∧ ∀ i, i < n → R i ≠ [] → KL fl (R b) < KL fl (R i) ∨ (KL fl (R b) = KL fl (R i) ∧ b ≤ i) := by
  have := bst_ok fl R n
  rw [h] at this
  exact this
theorem bst_of {fl : Bool} {R : Nat → List It} {n b : Nat} (hb : b < n) (h0 : R b ≠ []) (h : ∀ i, i < n → R i ≠ [] → KL fl (R b) < KL fl (R i) ∨ (KL fl (R b) = KL fl (R i) ∧ b ≤ i)) : bst fl R n = some b := by
  cases e : bst fl R n with
  | none => exact absurd (bst_none e b hb) h0
  | some c =>
    obtain ⟨h1, h2, h3⟩ := bst_some e
    have a1 := h3 b hb h0
    have a2 := h c h1 h2
    congr 1
    omega
/-- How many things there are. -/
def tot (R : Nat → List It) : Nat → Nat
  | 0 => 0
  | n + 1 => tot R n + (R n).length
theorem tot_up {R : Nat → List It} {b : Nat} (l : List It) : ∀ {n : Nat}, b < n → tot (up R b l) n + (R b).length = tot R n + l.length
  | 0, h => by omega
  | n + 1, h => by
    unfold tot
    by_cases e : b = n
    · subst e
      have : ∀ m, m ≤ b → tot (up R b l) m = tot R m := fun m => by
        induction m with
        | zero => intro _; rfl
        | succ m ih => intro hm; unfold tot; rw [ih (by omega), up_other _ _ _ _ (by omega)]
      rw [this b (Nat.le_refl _), up_same]
      omega
    · have := tot_up (R := R) (b := b) l (n := n) (by omega)
      rw [up_other _ _ _ _ (by omega)]
      omega
theorem tot_zero {R : Nat → List It} : ∀ {n : Nat}, (∀ i, i < n → R i = []) → tot R n = 0
  | 0, _ => rfl
  | n + 1, h => by unfold tot; rw [tot_zero fun i hi => h i (by omega), h n (by omega)]; rfl
theorem tot_congr {R Q : Nat → List It} : ∀ {n : Nat}, (∀ i, i < n → R i = Q i) → tot R n = tot Q n
  | 0, _ => rfl
  | n + 1, h => by unfold tot; rw [tot_congr fun i hi => h i (by omega), h n (by omega)]
/-- All things, merged. -/
def mrg (fl : Bool) (n : Nat) : Nat → (Nat → List It) → List It
  | 0, _ => []
  | k + 1, R => match bst fl R n with
    | none => []
    | some b => (R b).getD 0 (0, 0) :: mrg fl n k (up R b ((R b).drop 1))
def mrA (fl : Bool) (n : Nat) (R : Nat → List It) : List It := mrg fl n (tot R n) R
theorem mrA_none {fl : Bool} {n : Nat} {R : Nat → List It} (h : bst fl R n = none) : mrA fl n R = [] := by
  unfold mrA
  rw [tot_zero (bst_none h)]
  rfl
theorem mrA_some {fl : Bool} {n b : Nat} {R : Nat → List It} (h : bst fl R n = some b) : mrA fl n R = (R b).getD 0 (0, 0) :: mrA fl n (up R b ((R b).drop 1)) ∧ tot R n = tot (up R b ((R b).drop 1)) n + 1 := by
  obtain ⟨hb, h0, _⟩ := bst_some h
  have ht := tot_up (R := R) ((R b).drop 1) hb
  have hl : 0 < (R b).length := by
    cases e : R b with
    | nil => exact absurd e h0
    | cons x l => simp
  rw [List.length_drop] at ht
  have ht2 : tot R n = tot (up R b ((R b).drop 1)) n + 1 := by omega
  refine ⟨?_, ht2⟩
  unfold mrA
  rw [ht2, mrg, h]
theorem mrA_len (fl : Bool) (n : Nat) : ∀ (k : Nat) (R : Nat → List It), tot R n = k → (mrA fl n R).length = k := by
  intro k
  induction k with
  | zero =>
    intro R h
    unfold mrA
    rw [h]
    rfl
  | succ k ih =>
    intro R h
    cases e : bst fl R n with
    | none =>
      have := tot_zero (bst_none e)
      omega
    | some b =>
      obtain ⟨h1, h2⟩ := mrA_some e
      rw [h1, List.length_cons, ih _ (by omega)]

/-- What a heap of lists should hold. -/
def inH (R : Nat → List It) : Nat → List (List It × Int)
  | 0 => []
  | n + 1 => if R n = [] then inH R n else inH R n ++ [(R n, (n : Int))]
def ofU (u : Lk) : List It × Int := (things u.1, u.2)
theorem inH_mem {R : Nat → List It} {x : List It × Int} : ∀ {n : Nat}, x ∈ inH R n → ∃ i, i < n ∧ R i ≠ [] ∧ x = (R i, (i : Int))
  | 0, h => by cases h
  | n + 1, h => by
    unfold inH at h
    by_cases e : R n = []
    · rw [if_pos e] at h
      obtain ⟨i, hi, r⟩ := inH_mem h
      exact ⟨i, by omega, r⟩
    · rw [if_neg e] at h
      rcases List.mem_append.1 h with h | h
      · obtain ⟨i, hi, r⟩ := inH_mem h
        exact ⟨i, by omega, r⟩
      · rw [List.mem_singleton] at h
        exact ⟨n, by omega, e, h⟩
theorem inH_has {R : Nat → List It} {i : Nat} : ∀ {n : Nat}, i < n → R i ≠ [] → (R i, (i : Int)) ∈ inH R n
  | 0, h, _ => by omega
  | n + 1, h, hne => by
    unfold inH
    by_cases e : i = n
    · subst e
      rw [if_neg hne]
      exact List.mem_append.2 (.inr (List.mem_singleton.2 rfl))
    · have := inH_has (n := n) (by omega) hne
      by_cases e2 : R n = []
      · rw [if_pos e2]; exact this
      · rw [if_neg e2]; exact List.mem_append.2 (.inl this)
theorem inH_congr {R Q : Nat → List It} : ∀ {n : Nat}, (∀ i, i < n → R i = Q i) → inH R n = inH Q n
  | 0, _ => rfl
  | n + 1, h => by unfold inH; rw [inH_congr fun i hi => h i (by omega), h n (by omega)]
theorem swap_end {α : Type} (a : List α) (x y : α) : (a ++ [x] ++ [y]).Perm (a ++ [y] ++ [x]) := by
  rw [List.append_assoc, List.append_assoc]
  exact List.Perm.append_left _ (List.Perm.swap _ _ _)
theorem inH_up {R : Nat → List It} {b : Nat} (l : List It) (hl : l ≠ []) (h0 : R b ≠ []) : ∀ {n : Nat}, b < n → (inH (up R b l) n ++ [(R b, (b : Int))]).Perm (inH R n ++ [(l, (b : Int))])
  | 0, h => by omega
  | n + 1, h => by
    unfold inH
    by_cases e : b = n
    · subst e
      rw [up_same, if_neg hl, if_neg h0, inH_congr (R := up R b l) (Q := R) fun i hi => up_other _ _ _ _ (by omega)]
      exact swap_end _ _ _
    · rw [up_other _ _ _ _ (by omega)]
      have ih := inH_up (R := R) (b := b) l hl h0 (n := n) (by omega)
      by_cases e2 : R n = []
      · rw [if_pos e2, if_pos e2]; exact ih
      · rw [if_neg e2, if_neg e2]
        exact (swap_end _ _ _).trans ((List.Perm.append_right _ ih).trans (swap_end _ _ _))
theorem inH_out {R : Nat → List It} {b : Nat} (h0 : R b ≠ []) : ∀ {n : Nat}, b < n → (inH (up R b []) n ++ [(R b, (b : Int))]).Perm (inH R n)
  | 0, h => by omega
  | n + 1, h => by
    unfold inH
    by_cases e : b = n
    · subst e
      rw [up_same, if_pos rfl, if_neg h0, inH_congr (R := up R b []) (Q := R) fun i hi => up_other _ _ _ _ (by omega)]
    · rw [up_other _ _ _ _ (by omega)]
      have ih := inH_out (R := R) (b := b) h0 (n := n) (by omega)
      by_cases e2 : R n = []
      · rw [if_pos e2, if_pos e2]; exact ih
      · rw [if_neg e2, if_neg e2]
        exact (swap_end _ _ _).trans (List.Perm.append_right _ ih)
/-- The heap holds the lists' rests. -/
structure MH (fl : Bool) (n : Nat) (R : Nat → List It) (m : Nat) (f : Nat → Lk) : Prop where
  hi : HI (KF fl) m f
  pm : ((el f m).map ofU).Perm (inH R n)
theorem MH.empty {fl : Bool} {n : Nat} {R : Nat → List It} {f : Nat → Lk} (h : MH fl n R 0 f) : bst fl R n = none := by
  cases e : bst fl R n with
  | none => rfl
  | some b =>
    obtain ⟨hb, h0, _⟩ := bst_some e
    have := h.pm.mem_iff.2 (inH_has hb h0)
    simp [el] at this
theorem MH.top {fl : Bool} {n p : Nat} {R : Nat → List It} {f : Nat → Lk} (h : MH fl n R (p + 1) f) (hk : ∀ j, j < p + 1 → 0 < (f j).1.2.1) : ∃ b, bst fl R n = some b ∧ b < n ∧ things (f 0).1 = R b ∧ (f 0).2 = (b : Int) := by
  have m0 : ofU (f 0) ∈ (el f (p + 1)).map ofU := List.mem_map.2 ⟨f 0, el_mem (by omega), rfl⟩
  obtain ⟨b, hb, h0, e⟩ := inH_mem (h.pm.mem_iff.1 m0)
  have e1 : things (f 0).1 = R b := (Prod.mk.inj e).1
  have e2 : (f 0).2 = (b : Int) := (Prod.mk.inj e).2
  refine ⟨b, bst_of hb h0 (fun i hi hne => ?_), hb, e1, e2⟩
  have mi := h.pm.mem_iff.2 (inH_has hi hne)
  obtain ⟨u, hu, eu⟩ := List.mem_map.1 mi
  unfold el at hu
  obtain ⟨j, hj, rfl⟩ := List.mem_map.1 hu
  rw [List.mem_range] at hj
  have u1 : things (f j).1 = R i := (Prod.mk.inj eu).1
  have u2 : (f j).2 = (i : Int) := (Prod.mk.inj eu).2
  have hn := h.hi.root j hj
  unfold Lx at hn
  rw [KF_things fl (hk j hj), KF_things fl (hk 0 (by omega)), u1, e1, u2, e2] at hn
  omega
theorem MH.repl {fl : Bool} {n p b : Nat} {R : Nat → List It} {f : Nat → Lk} {x : Lk} (h : MH fl n R (p + 1) f) (hb : b < n) (h0 : R b ≠ []) (e1 : things (f 0).1 = R b) (e2 : (f 0).2 = (b : Int)) (hl : (R b).drop 1 ≠ []) (x1 : things x.1 = (R b).drop 1) (x2 : x.2 = (b : Int)) : MH fl n (up R b ((R b).drop 1)) (p + 1) (sinkF (aF fl) (p + 1) (up f 0 x) 0) := by
  refine ⟨sink_ok (isF fl) (p + 1) _ 0 _ rfl (fun k hk hkn hki => ?_) (fun h => by omega), ?_⟩
  · rw [up_other _ _ _ _ (by omega), up_other _ _ _ _ hki]
    exact h.hi k hk hkn
  · have p1 := (el_sink (aF fl) (p + 1) (p + 1 - 0) 0 (up f 0 x) rfl).map ofU
    have p2 := (el_up f 0 x (p + 1) (by omega)).map ofU
    rw [List.map_append, List.map_append] at p2
    have o1 : ([f 0] : List Lk).map ofU = [(R b, (b : Int))] := by simp [ofU, e1, e2]
    have o2 : ([x] : List Lk).map ofU = [((R b).drop 1, (b : Int))] := by simp [ofU, x1, x2]
    rw [o1, o2] at p2
    have p3 := p2.trans ((List.Perm.append_right _ h.pm).trans (inH_up ((R b).drop 1) hl h0 hb).symm)
    exact p1.trans ((List.perm_append_right_iff _).1 p3)
theorem MH.pop {fl : Bool} {n p b : Nat} {R : Nat → List It} {f : Nat → Lk} (h : MH fl n R (p + 1) f) (hb : b < n) (h0 : R b ≠ []) (e1 : things (f 0).1 = R b) (e2 : (f 0).2 = (b : Int)) (hl : (R b).drop 1 = []) : MH fl n (up R b ((R b).drop 1)) p (sinkF (aF fl) p (up f 0 (f p)) 0) := by
  refine ⟨pop_ok (isF fl) h.hi, ?_⟩
  rw [hl]
  have p1 := (el_pop (aF fl) f p).map ofU
  rw [List.map_cons] at p1
  have o1 : ofU (f 0) = (R b, (b : Int)) := by simp [ofU, e1, e2]
  rw [o1] at p1
  have p2 := p1.trans (h.pm.trans (inH_out h0 hb).symm)
  exact (List.perm_append_right_iff [(R b, (b : Int))]).1 ((List.perm_append_singleton _ _).trans p2)
theorem MH.push {fl : Bool} {n m : Nat} {R : Nat → List It} {f : Nat → Lk} {x : Lk} (h : MH fl n R m f) (h0 : R n ≠ []) (x1 : things x.1 = R n) (x2 : x.2 = (n : Int)) : MH fl (n + 1) R (m + 1) (riseF (aF fl) (up f m x) m) := by
  refine ⟨push_ok (isF fl) h.hi x, ?_⟩
  have p1 := (el_push (aF fl) f m x).map ofU
  rw [List.map_append] at p1
  have o2 : ([x] : List Lk).map ofU = [(R n, (n : Int))] := by simp [ofU, x1, x2]
  rw [o2] at p1
  unfold inH
  rw [if_neg h0]
  exact p1.trans (List.Perm.append_right _ h.pm)
theorem MH.skip {fl : Bool} {n m : Nat} {R : Nat → List It} {f : Nat → Lk} (h : MH fl n R m f) (h0 : R n = []) : MH fl (n + 1) R m f := by
  refine ⟨h.hi, ?_⟩
  unfold inH
  rw [if_pos h0]
  exact h.pm
theorem MH.start (fl : Bool) (R : Nat → List It) (f : Nat → Lk) : MH fl 0 R 0 f := ⟨fun k hk hkn => by omega, by simp [el, inH]⟩
end Go.Proofs.Ytcgpjmpppajfdaa.Li
