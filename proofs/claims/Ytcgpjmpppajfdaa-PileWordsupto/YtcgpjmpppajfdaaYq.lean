
/- Merging: which list's head is next; what a heap of lists holds. -/
import Derived.Test.YtcgpjmpppajfdaaYb
import Derived.Test.YtcgpjmpppajfdaaXi
import Derived.Deep.DeepFit
namespace Go.Proofs.Ytcgpjmpppajfdaa.Ws.Li

def KL (fl : Bool) (l : List ByteArray) : Int := if fl = true then 0 else ((l.getD 0 ⟨#[]⟩).size : Int)
def KF (fl : Bool) (u : Ls) : Int := if fl = true then 0 else ((u.2.2.2 0).size : Int)
def aF (fl : Bool) : Lk → Lk → Bool := inO (if fl = true then hdN else hdK)
theorem isF (fl : Bool) : Is (KF fl) (aF fl) := fun x y => by
  cases fl <;> (unfold aF inO Lx KF; simp only [hdK, hdN, lsK, if_true, if_false, Bool.false_eq_true]; split <;> simp <;> omega)
/-- A list's things. -/
def things (u : Ls) : List ByteArray := (List.range u.2.1).map u.2.2.2
theorem things_len (u : Ls) : (things u).length = u.2.1 := by simp [things]
theorem things_ne {u : Ls} (h : 0 < u.2.1) : things u ≠ [] := fun e => by
  have := things_len u
  rw [e] at this
  simp at this
  omega
theorem things_get (u : Ls) (j : Nat) (h : j < u.2.1) : (things u).getD j ⟨#[]⟩ = u.2.2.2 j := by
  simp [things, List.getD, h]
theorem KF_things (fl : Bool) {u : Ls} (h : 0 < u.2.1) : KF fl u = KL fl (things u) := by
  unfold KF KL
  rw [things_get u 0 h]
theorem things_drop (a : Option Addr) (n c c' : Nat) (a' : Option Addr) (f : Nat → ByteArray) : things (a', n - 1, c', fun j => f (j + 1)) = (things (a, n, c, f)).drop 1 := by
  unfold things
  dsimp only
  cases n with
  | zero => rfl
  | succ n => rw [List.range_succ_eq_map]; simp [List.map_map, Function.comp_def]

/-- The list whose head comes next. -/
def bst (fl : Bool) (R : Nat → List ByteArray) : Nat → Option Nat
  | 0 => none
  | n + 1 => match bst fl R n with
    | none => if R n = [] then none else some n
    | some b => if R n ≠ [] ∧ KL fl (R n) < KL fl (R b) then some n else some b
theorem bst_ok (fl : Bool) (R : Nat → List ByteArray) : ∀ n, match bst fl R n with
    | none => ∀ i, i < n → R i = []
    | some b => b < n ∧ R b ≠ [] ∧ ∀ i, i < n → R i ≠ [] → KL fl (R b) < KL fl (R i) ∨ (KL fl (R b) = KL fl (R i) ∧ b ≤ i)
  | 0 => fun i h => by omega
  | n + 1 => by
    have ih := bst_ok fl R n
    unfold bst
    cases hb : bst fl R n with
    | none =>
      rw [hb] at ih
      dsimp only at ih ⊢
      by_cases h0 : R n = []
      · rw [if_pos h0]
        intro i hi
        by_cases e : i = n
        · rw [e]; exact h0
        · exact ih i (by omega)
      · rw [if_neg h0]
        refine ⟨by omega, h0, fun i hi hne => ?_⟩
        by_cases e : i = n
        · subst e; exact .inr ⟨rfl, Nat.le_refl _⟩
        · exact absurd (ih i (by omega)) hne
    | some b =>
      rw [hb] at ih
      dsimp only at ih ⊢
      obtain ⟨h1, h2, h3⟩ := ih
      by_cases hc : R n ≠ [] ∧ KL fl (R n) < KL fl (R b)
      · rw [if_pos hc]
        refine ⟨by omega, hc.1, fun i hi hne => ?_⟩
        by_cases e : i = n
        · subst e; exact .inr ⟨rfl, Nat.le_refl _⟩
        · have := h3 i (by omega) hne
          exact .inl (by omega)
      · rw [if_neg hc]
        refine ⟨by omega, h2, fun i hi hne => ?_⟩
        by_cases e : i = n
        · subst e
          have : ¬ KL fl (R i) < KL fl (R b) := fun x => hc ⟨hne, x⟩
          omega
        · exact h3 i (by omega) hne
theorem bst_none {fl : Bool} {R : Nat → List ByteArray} {n : Nat} (h : bst fl R n = none) : ∀ i, i < n → R i = [] := by
  have := bst_ok fl R n
  rw [h] at this
  exact this
theorem bst_some {fl : Bool} {R : Nat → List ByteArray} {n b : Nat} (h : bst fl R n = some b) : b < n ∧ R b ≠ [] ∧ ∀ i, i < n → R i ≠ [] → KL fl (R b) < KL fl (R i) ∨ (KL fl (R b) = KL fl (R i) ∧ b ≤ i) := by
  have := bst_ok fl R n
  rw [h] at this
  exact this
theorem bst_of {fl : Bool} {R : Nat → List ByteArray} {n b : Nat} (hb : b < n) (h0 : R b ≠ []) (h : ∀ i, i < n → R i ≠ [] → KL fl (R b) < KL fl (R i) ∨ (KL fl (R b) = KL fl (R i) ∧ b ≤ i)) : bst fl R n = some b := by
  cases e : bst fl R n with
  | none => exact absurd (bst_none e b hb) h0
  | some c =>
    obtain ⟨h1, h2, h3⟩ := bst_some e
    have a1 := h3 b hb h0
    have a2 := h c h1 h2
    congr 1
    omega
/-- How many things there are. -/
def tot (R : Nat → List ByteArray) : Nat → Nat
  | 0 => 0
  | n + 1 => tot R n + (R n).length
theorem tot_up {R : Nat → List ByteArray} {b : Nat} (l : List ByteArray) : ∀ {n : Nat}, b < n → tot (up R b l) n + (R b).length = tot R n + l.length
  | 0, h => by omega
  | n + 1, h => by
    unfold tot
    by_cases e : b = n
    · subst e
      have : ∀ m, m ≤ b → tot (up R b l) m = tot R m := fun m => by
        induction m with
        | zero => intro _; rfl
        | succ m ih => intro hm; unfold tot; rw [ih (by omega), up_other _ _ _ _ (by omega)]
      rw [this b (Nat.le_refl _), up_same]
      omega
    · have := tot_up (R := R) (b := b) l (n := n) (by omega)
      rw [up_other _ _ _ _ (by omega)]
      omega
theorem tot_zero {R : Nat → List ByteArray} : ∀ {n : Nat}, (∀ i, i < n → R i = []) → tot R n = 0
  | 0, _ => rfl
  | n + 1, h => by unfold tot; rw [tot_zero fun i hi => h i (by omega), h n (by omega)]; rfl
theorem tot_congr {R Q : Nat → List ByteArray} : ∀ {n : Nat}, (∀ i, i < n → R i = Q i) → tot R n = tot Q n
  | 0, _ => rfl
  | n + 1, h => by unfold tot; rw [tot_congr fun i hi => h i (by omega), h n (by omega)]
/-- All things, merged. -/
def mrg (fl : Bool) (n : Nat) : Nat → (Nat → List ByteArray) → List ByteArray
  | 0, _ => []
  | k + 1, R => match bst fl R n with
    | none => []
    | some b => (R b).getD 0 ⟨#[]⟩ :: mrg fl n k (up R b ((R b).drop 1))
def mrA (fl : Bool) (n : Nat) (R : Nat → List ByteArray) : List ByteArray := mrg fl n (tot R n) R
theorem mrA_none {fl : Bool} {n : Nat} {R : Nat → List ByteArray} (h : bst fl R n = none) : mrA fl n R = [] := by
  unfold mrA
  rw [tot_zero (bst_none h)]
  rfl
theorem mrA_some {fl : Bool} {n b : Nat} {R : Nat → List ByteArray} (h : bst fl R n = some b) : mrA fl n R = (R b).getD 0 ⟨#[]⟩ :: mrA fl n (up R b ((R b).drop 1)) ∧ tot R n = tot (up R b ((R b).drop 1)) n + 1 := by
  obtain ⟨hb, h0, _⟩ := bst_some h
  have ht := tot_up (R := R) ((R b).drop 1) hb
  have hl : 0 < (R b).length := by
    cases e : R b with
    | nil => exact absurd e h0
    | cons x l => simp
  rw [List.length_drop] at ht
  have ht2 : tot R n = tot (up R b ((R b).drop 1)) n + 1 := by omega
  refine ⟨?_, ht2⟩
  unfold mrA
  rw [ht2, mrg, h]
theorem mrA_len (fl : Bool) (n : Nat) : ∀ (k : Nat) (R : Nat → List ByteArray), tot R n = k → (mrA fl n R).length = k := by
  intro k
  induction k with
  | zero =>
    intro R h
    unfold mrA
    rw [h]
    rfl
  | succ k ih =>
    intro R h
    cases e : bst fl R n with
    | none =>
      have := tot_zero (bst_none e)
      omega
    | some b =>
      obtain ⟨h1, h2⟩ := mrA_some e
      rw [h1, List.length_cons, ih _ (by omega)]

/-- What a heap of lists should hold. -/
def inH (R : Nat → List ByteArray) : Nat → List (List ByteArray × Int)
  | 0 => []
  | n + 1 => if R n = [] then inH R n else inH R n ++ [(R n, (n : Int))]
def ofU (u : Lk) : List ByteArray × Int := (things u.1, u.2)
theorem inH_mem {R : Nat → List ByteArray} {x : List ByteArray × Int} : ∀ {n : Nat}, x ∈ inH R n → ∃ i, i < n ∧ R i ≠ [] ∧ x = (R i, (i : Int))
  | 0, h => by cases h
  | n + 1, h => by
    unfold inH at h
    by_cases e : R n = []
    · rw [if_pos e] at h
      obtain ⟨i, hi, r⟩ := inH_mem h
      exact ⟨i, by omega, r⟩
    · rw [if_neg e] at h
      rcases List.mem_append.1 h with h | h
      · obtain ⟨i, hi, r⟩ := inH_mem h
        exact ⟨i, by omega, r⟩
      · rw [List.mem_singleton] at h
        exact ⟨n, by omega, e, h⟩
theorem inH_has {R : Nat → List ByteArray} {i : Nat} : ∀ {n : Nat}, i < n → R i ≠ [] → (R i, (i : Int)) ∈ inH R n
  | 0, h, _ => by omega
  | n + 1, h, hne => by
    unfold inH
    by_cases e : i = n
    · subst e
      rw [if_neg hne]
      exact List.mem_append.2 (.inr (List.mem_singleton.2 rfl))
    · have := inH_has (n := n) (by omega) hne
      by_cases e2 : R n = []
      · rw [if_pos e2]; exact this
      · rw [if_neg e2]; exact List.mem_append.2 (.inl this)
theorem inH_congr {R Q : Nat → List ByteArray} : ∀ {n : Nat}, (∀ i, i < n → R i = Q i) → inH R n = inH Q n
  | 0, _ => rfl
  | n + 1, h => by unfold inH; rw [inH_congr fun i hi => h i (by omega), h n (by omega)]
theorem swap_end {α : Type} (a : List α) (x y : α) : (a ++ [x] ++ [y]).Perm (a ++ [y] ++ [x]) := by
  rw [List.append_assoc, List.append_assoc]
  exact List.Perm.append_left _ (List.Perm.swap _ _ _)
theorem inH_up {R : Nat → List ByteArray} {b : Nat} (l : List ByteArray) (hl : l ≠ []) (h0 : R b ≠ []) : ∀ {n : Nat}, b < n → (inH (up R b l) n ++ [(R b, (b : Int))]).Perm (inH R n ++ [(l, (b : Int))])
  | 0, h => by omega
  | n + 1, h => by
    unfold inH
    by_cases e : b = n
    · subst e
      rw [up_same, if_neg hl, if_neg h0, inH_congr (R := up R b l) (Q := R) fun i hi => up_other _ _ _ _ (by omega)]
      exact swap_end _ _ _
    · rw [up_other _ _ _ _ (by omega)]
      have ih := inH_up (R := R) (b := b) l hl h0 (n := n) (by omega)
      by_cases e2 : R n = []
      · rw [if_pos e2, if_pos e2]; exact ih
      · rw [if_neg e2, if_neg e2]
        exact (swap_end _ _ _).trans ((List.Perm.append_right _ ih).trans (swap_end _ _ _))
theorem inH_out {R : Nat → List ByteArray} {b : Nat} (h0 : R b ≠ []) : ∀ {n : Nat}, b < n → (inH (up R b []) n ++ [(R b, (b : Int))]).Perm (inH R n)
  | 0, h => by omega
  | n + 1, h => by
    unfold inH
    by_cases e : b = n
    · subst e
      rw [up_same, if_pos rfl, if_neg h0, inH_congr (R := up R b []) (Q := R) fun i hi => up_other _ _ _ _ (by omega)]
    · rw [up_other _ _ _ _ (by omega)]
      have ih := inH_out (R := R) (b := b) h0 (n := n) (by omega)
      by_cases e2 : R n = []
      · rw [if_pos e2, if_pos e2]; exact ih
      · rw [if_neg e2, if_neg e2]
        exact (swap_end _ _ _).trans (List.Perm.append_right _ ih)
/-- The heap holds the lists' rests. -/
structure MH (fl : Bool) (n : Nat) (R : Nat → List ByteArray) (m : Nat) (f : Nat → Lk) : Prop where
  hi : HI (KF fl) m f
  pm : ((el f m).map ofU).Perm (inH R n)
theorem MH.empty {fl : Bool} {n : Nat} {R : Nat → List ByteArray} {f : Nat → Lk} (h : MH fl n R 0 f) : bst fl R n = none := by
  cases e : bst fl R n with
  | none => rfl
  | some b =>
    obtain ⟨hb, h0, _⟩ := bst_some e
    have := h.pm.mem_iff.2 (inH_has hb h0)
    simp [el] at this
theorem MH.top {fl : Bool} {n p : Nat} {R : Nat → List ByteArray} {f : Nat → Lk} (h : MH fl n R (p + 1) f) (hk : ∀ j, j < p + 1 → 0 < (f j).1.2.1) : ∃ b, bst fl R n = some b ∧ b < n ∧ things (f 0).1 = R b ∧ (f 0).2 = (b : Int) := by
  have m0 : ofU (f 0) ∈ (el f (p + 1)).map ofU := List.mem_map.2 ⟨f 0, el_mem (by omega), rfl⟩
  obtain ⟨b, hb, h0, e⟩ := inH_mem (h.pm.mem_iff.1 m0)
  have e1 : things (f 0).1 = R b := (Prod.mk.inj e).1
  have e2 : (f 0).2 = (b : Int) := (Prod.mk.inj e).2
  refine ⟨b, bst_of hb h0 (fun i hi hne => ?_), hb, e1, e2⟩
  have mi := h.pm.mem_iff.2 (inH_has hi hne)
  obtain ⟨u, hu, eu⟩ := List.mem_map.1 mi
  unfold el at hu
  obtain ⟨j, hj, rfl⟩ := List.mem_map.1 hu
  rw [List.mem_range] at hj
  have u1 : things (f j).1 = R i := (Prod.mk.inj eu).1
  have u2 : (f j).2 = (i : Int) := (Prod.mk.inj eu).2
  have hn := h.hi.root j hj
  unfold Lx at hn
  rw [KF_things fl (hk j hj), KF_things fl (hk 0 (by omega)), u1, e1, u2, e2] at hn
  omega
theorem MH.repl {fl : Bool} {n p b : Nat} {R : Nat → List ByteArray} {f : Nat → Lk} {x : Lk} (h : MH fl n R (p + 1) f) (hb : b < n) (h0 : R b ≠ []) (e1 : things (f 0).1 = R b) (e2 : (f 0).2 = (b : Int)) (hl : (R b).drop 1 ≠ []) (x1 : things x.1 = (R b).drop 1) (x2 : x.2 = (b : Int)) : MH fl n (up R b ((R b).drop 1)) (p + 1) (sinkF (aF fl) (p + 1) (up f 0 x) 0) := by
  refine ⟨sink_ok (isF fl) (p + 1) _ 0 _ rfl (fun k hk hkn hki => ?_) (fun h => by omega), ?_⟩
  · rw [up_other _ _ _ _ (by omega), up_other _ _ _ _ hki]
    exact h.hi k hk hkn
  · have p1 := (el_sink (aF fl) (p + 1) (p + 1 - 0) 0 (up f 0 x) rfl).map ofU
    have p2 := (el_up f 0 x (p + 1) (by omega)).map ofU
    rw [List.map_append, List.map_append] at p2
    have o1 : ([f 0] : List Lk).map ofU = [(R b, (b : Int))] := by simp [ofU, e1, e2]
    have o2 : ([x] : List Lk).map ofU = [((R b).drop 1, (b : Int))] := by simp [ofU, x1, x2]
    rw [o1, o2] at p2
    have p3 := p2.trans ((List.Perm.append_right _ h.pm).trans (inH_up ((R b).drop 1) hl h0 hb).symm)
    exact p1.trans ((List.perm_append_right_iff _).1 p3)
theorem MH.pop {fl : Bool} {n p b : Nat} {R : Nat → List ByteArray} {f : Nat → Lk} (h : MH fl n R (p + 1) f) (hb : b < n) (h0 : R b ≠ []) (e1 : things (f 0).1 = R b) (e2 : (f 0).2 = (b : Int)) (hl : (R b).drop 1 = []) : MH fl n (up R b ((R b).drop 1)) p (sinkF (aF fl) p (up f 0 (f p)) 0) := by
  refine ⟨pop_ok (isF fl) h.hi, ?_⟩
  rw [hl]
  have p1 := (el_pop (aF fl) f p).map ofU
  rw [List.map_cons] at p1
  have o1 : ofU (f 0) = (R b, (b : Int)) := by simp [ofU, e1, e2]
  rw [o1] at p1
  have p2 := p1.trans (h.pm.trans (inH_out h0 hb).symm)
  exact (List.perm_append_right_iff [(R b, (b : Int))]).1 ((List.perm_append_singleton _ _).trans p2)
theorem MH.push {fl : Bool} {n m : Nat} {R : Nat → List ByteArray} {f : Nat → Lk} {x : Lk} (h : MH fl n R m f) (h0 : R n ≠ []) (x1 : things x.1 = R n) (x2 : x.2 = (n : Int)) : MH fl (n + 1) R (m + 1) (riseF (aF fl) (up f m x) m) := by
  refine ⟨push_ok (isF fl) h.hi x, ?_⟩
  have p1 := (el_push (aF fl) f m x).map ofU
  rw [List.map_append] at p1
  have o2 : ([x] : List Lk).map ofU = [(R n, (n : Int))] := by simp [ofU, x1, x2]
  rw [o2] at p1
  unfold inH
  rw [if_neg h0]
  exact p1.trans (List.Perm.append_right _ h.pm)
theorem MH.skip {fl : Bool} {n m : Nat} {R : Nat → List ByteArray} {f : Nat → Lk} (h : MH fl n R m f) (h0 : R n = []) : MH fl (n + 1) R m f := by
  refine ⟨h.hi, ?_⟩
  unfold inH
  rw [if_pos h0]
  exact h.pm
theorem MH.start (fl : Bool) (R : Nat → List ByteArray) (f : Nat → Lk) : MH fl 0 R 0 f := ⟨fun k hk hkn => by omega, by simp [el, inH]⟩
end Go.Proofs.Ytcgpjmpppajfdaa.Ws.Li
/- Merge. -/
namespace Go.Proofs.Ytcgpjmpppajfdaa.Ws.Li
open Go.RowKit

/-- Lists that a slice of lists shows. -/
def Lml (w : World) (a : Option Addr) (q : Nat → Ls) (n : Nat) : Prop := n = 0 ∨ ∃ g o, a = some ⟨g, o, none⟩ ∧ g < w.heap.size ∧ ∀ j, j < n → w.cell? ⟨g, o + j, none⟩ = some (.slice (q j).1 (q j).2.1 (q j).2.2.1) ∧ Iml w (q j).1 (q j).2.2.2 (q j).2.1 ∧ (q j).2.1 ≤ (q j).2.2.1
theorem Lml.below {w w' : World} {a : Option Addr} {q : Nat → Ls} {n : Nat} (h : Lml w a q n) (hb : Below w.heap.size w w') : Lml w' a q n := by
  rcases h with h | ⟨g, o, rfl, hg, hc⟩
  · exact .inl h
  · exact .inr ⟨g, o, rfl, Nat.lt_of_lt_of_le hg hb.size, fun j hj => ⟨(hb.cell (p := ⟨g, o + j, none⟩) hg).trans (hc j hj).1, (hc j hj).2.1.below hb, (hc j hj).2.2⟩⟩
theorem Lml.at {w : World} {a : Option Addr} {q : Nat → Ls} {n : Nat} (h : Lml w a q n) (j : Nat) (hj : j < n) : ∃ g o, a = some ⟨g, o, none⟩ ∧ w.cell? ⟨g, o + j, none⟩ = some (.slice (q j).1 (q j).2.1 (q j).2.2.1) ∧ Iml w (q j).1 (q j).2.2.2 (q j).2.1 ∧ (q j).2.1 ≤ (q j).2.2.1 := by
  rcases h with h | ⟨g, o, rfl, _, hat⟩
  · omega
  · exact ⟨g, o, rfl, hat j hj⟩
theorem hp_start (w wb : World) (bx : Nat) (hb : Below wb.heap.size wb w) (f : Nat → Lk) : Hp (w.alloc (.cells #[av bx, .slice none 0 0] 101)) w.heap.size bx (wb, bx) (.slice none 0 0) 0 f := by
  have e1 : (w.alloc (.cells #[av bx, .slice none 0 0] 101)).heap[w.heap.size]? = some (.cells #[av bx, .slice none 0 0] 101) := heap_alloc_new w _
  refine ⟨?_, ?_, ?_, ⟨rfl, hb.alloc hb.size _⟩, World.ownsRow_nil _ 0 104 2, by simp [Value.ownBlock], fun j e => by simp [Value.ownBlock] at e, hb.size, fun j hj => by omega⟩
  · unfold World.cell?; rw [e1]; rfl
  · unfold World.cell?; rw [e1]; rfl
  · unfold World.frozen?; rw [e1]; rfl
theorem Hp.slice {w : World} {b bx n : Nat} {lv : Ev} {v : Value} {f : Nat → Lk} (h : Hp w b bx lv v n f) : ∃ a c, v = .slice a n c := by
  rcases h.row.2 with ⟨e, e2⟩ | ⟨G, C, _, e, _⟩
  · exact ⟨none, 0, by rw [e, e2]⟩
  · exact ⟨_, _, e⟩
theorem Hp.some {w : World} {b bx p : Nat} {lv : Ev} {v : Value} {f : Nat → Lk} (h : Hp w b bx lv v (p + 1) f) : ∃ g c, v = .slice (some ⟨g, 0, none⟩) (p + 1) c := by
  rcases h.row.2 with ⟨_, e2⟩ | ⟨G, C, _, e, _⟩
  · omega
  · exact ⟨_, _, e⟩
theorem tot_mono (R : Nat → List ByteArray) : ∀ n i, i ≤ n → tot R i ≤ tot R n
  | 0, i, h => by obtain rfl : i = 0 := by omega
                  exact Nat.le_refl _
  | n + 1, i, h => by
    by_cases e : i = n + 1
    · rw [e]; exact Nat.le_refl _
    · have := tot_mono R n i (by omega)
      show _ ≤ tot R n + _
      omega
def QL (q : Nat → Ls) : Nat → List ByteArray := fun i => things (q i)
/-- The first loop: the lists that came in so far are in the heap. -/
def M1 (fl : Bool) (q : Nat → Ls) (wb : World) (b bx i : Nat) (w : World) : Prop := ∃ v m f, Hp w b bx (wb, bx) v m f ∧ MH fl i (QL q) m f ∧ m ≤ i
def lenV : Value → Nat
  | .slice _ l _ => l
  | _ => 0
/-- The second loop. -/
structure M2 (fl : Bool) (n : Nat) (q : Nat → Ls) (wb : World) (S b bx : Nat) (vo : Value) (j m : Nat) (w : World) : Prop where
  ex : ∃ v f R pre, Hp w b bx (wb, bx) v m f ∧ MH fl n R m f ∧ m ≤ n ∧ Ir w S vo j (lk pre) ∧ pre.length = j ∧ pre ++ mrA fl n R = mrA fl n (QL q) ∧ (∀ g, vo.ownBlock = some g → g ≠ b ∧ v.ownBlock ≠ some g) ∧ tot R n + j = tot (QL q) n

set_option maxHeartbeats 4000000 in
set_option maxRecDepth 100000 in
theorem merge_K (la : Option Addr) (n lc : Nat) (q : Nat → Ls) (w : World) (hq : Lml w la q n) (hn : n ≤ 1073741824) (ht : tot (QL q) n ≤ 1073741824) :
    Calls Try.prog 27 #[lvK, .slice la n lc] w fun r w' => ∃ v, r = .returned v ∧ Ir w' w.heap.size v (tot (QL q) n) (lk (mrA false n (QL q))) ∧ Below w.heap.size w w' := by
  have HQ : Hid (Lml w la q n) := hq
  have HT : Hid (tot (QL q) n ≤ 1073741824) := ht
  have HN : Hid (n ≤ 1073741824) := hn
  have k1 := byHeads_some w
  have k2 := order_some w.heap.size (w.alloc (.cells #[lvK] 43))
  have b2 : Below w.heap.size w ((w.alloc (.cells #[lvK] 43)).alloc (.cells #[lvH w.heap.size] 44)) := ((Below.refl _ w).alloc (Nat.le_refl _) _).alloc (by simp) _
  obtain ⟨wb, hwb⟩ : ∃ wb, wb = (w.alloc (.cells #[lvK] 43)).alloc (.cells #[lvH w.heap.size] 44) := ⟨_, rfl⟩
  have HWB : Hid (wb = (w.alloc (.cells #[lvK] 43)).alloc (.cells #[lvH w.heap.size] 44)) := hwb
  have HB : Hid (Below w.heap.size w wb) := by rw [hwb]; exact b2
  have hsz : (w.alloc (.cells #[lvK] 43)).heap.size = w.heap.size + 1 := by simp
  have HA : Hid (AhC (wb, w.heap.size + 1) (aF false)) := by
    have e2 : wb.cell? ⟨w.heap.size + 1, 0, none⟩ = some (lvH w.heap.size) := by
      rw [hwb]; unfold World.cell?
      rw [show ((w.alloc (.cells #[lvK] 43)).alloc (.cells #[lvH w.heap.size] 44)).heap[w.heap.size + 1]? = some (.cells #[lvH w.heap.size] 44) from heap_alloc2_new w _ _]
      rfl
    have e1 : wb.cell? ⟨w.heap.size, 0, none⟩ = some lvK := by
      rw [hwb]; unfold World.cell?
      rw [show ((w.alloc (.cells #[lvK] 43)).alloc (.cells #[lvH w.heap.size] 44)).heap[w.heap.size]? = some (.cells #[lvK] 43) from (Below.heap_alloc _ _ _ (by simp)).trans (heap_alloc_new w _)]
      rfl
    exact aheadK wb _ _ e2 e1
  rw [hsz] at k2
  clear hq ht b2 hwb hsz hn
  go_enter Try.func27, Try.ntmps27
  go_wp2_with fail
  refine k1.mono ?_
  rintro r w1 ⟨rfl, rfl⟩
  go_wp2_with fail
  refine k2.mono ?_
  rintro r w2 ⟨rfl, rfl⟩
  rw [← HWB.out]
  obtain ⟨bx, hbx⟩ : ∃ bx, bx = w.heap.size + 1 := ⟨_, rfl⟩
  rw [← hbx] at HA ⊢
  obtain ⟨b, hb⟩ : ∃ b, b = wb.heap.size := ⟨_, rfl⟩
  have hp0 := hp_start wb wb bx (Below.refl _ _) (fun _ => z0L)
  rw [← hb] at hp0
  obtain ⟨w3, hw3⟩ : ∃ w3, w3 = wb.alloc (.cells #[av bx, .slice none 0 0] 101) := ⟨_, rfl⟩
  rw [← hw3] at hp0
  have HW3 : Hid (w3 = wb.alloc (.cells #[av bx, .slice none 0 0] 101)) := hw3
  have HBB : Hid (b = wb.heap.size) := hb
  have M10 : Hid (M1 false q wb b bx 0 w3) := ⟨_, 0, _, hp0, MH.start _ _ _, Nat.le_refl _⟩
  clear hp0 hw3 hb hbx k1 k2
  have hn1 := HN.out
  go_wp2_with fail
  rw [← HW3.out, ← HBB.out]
  go_loopw [6, 18] (fun sz ivv w' => ∃ (i : Nat), ivv = .int .i64 (i : Int) ∧ i ≤ n ∧ sz = .int .i64 ((tot (QL q) i : Nat) : Int) ∧ Hid (M1 false q wb b bx i w')) (fun _ ivv _ => n - (RowKit.intOf ivv).toNat)
  case atStart => exact ⟨0, rfl, by omega, rfl, M10⟩
  case round =>
    obtain ⟨i, rfl, hi, rfl, m1⟩ := hrel
    obtain ⟨v, m, f, hp, mh, hm⟩ := m1.out
    have hbw : Below wb.heap.size wb wr := hp.bxc.2
    by_cases hlt : i < n
    · have hii : (i : Int) < n := by omega
      have hq2 := HQ.out.below (HB.out)
      obtain ⟨g1, o1, hla, c0, im, hcap⟩ := hq2.at i hlt
      have c1 := (hbw.cell (p := ⟨g1, o1 + i, none⟩) (World.block_lt_of_cell? wb _ c0)).trans c0
      have HTS : Hid (tot (QL q) (i + 1) = tot (QL q) i + (q i).2.1) := by show tot (QL q) i + (things (q i)).length = _; rw [things_len]
      have hts : tot (QL q) (i + 1) ≤ 1073741824 := by
        have := HT.out
        have := tot_mono (QL q) n (i + 1) hlt
        omega
      have kPu := fun (h0 : 0 < (q i).2.1) => push_any (aF false) b bx m (wb, bx) v f (q i, (i : Int)) wr HA.out ⟨im, h0, hcap⟩ hp (by omega)
      have HPu : Hid (0 < (q i).2.1 → ∀ g c w', Hp w' b bx (wb, bx) (.slice (some ⟨g, 0, none⟩) (m + 1) c) (m + 1) (riseF (aF false) (up f m (q i, (i : Int))) m) → M1 false q wb b bx (i + 1) w') := fun h0 g c w' h => ⟨_, m + 1, _, h, mh.push (things_ne h0) rfl rfl, by omega⟩
      have HSk : Hid (¬ 0 < (q i).2.1 → M1 false q wb b bx (i + 1) wr) := fun h0 => ⟨v, m, f, hp, mh.skip (by
        show things (q i) = []
        exact List.eq_nil_of_length_eq_zero (by rw [things_len]; omega)), by omega⟩
      subst hla
      obtain ⟨⟨xa, xn, xc, xf⟩, hx⟩ : ∃ x, q i = x := ⟨_, rfl⟩
      rw [hx] at c1 HTS hcap kPu HPu HSk
      dsimp only at c1 HTS hcap kPu HPu HSk
      have HLT : Hid (i < n) := hlt
      have htt : (tot (QL q) i : Int) + xn ≤ 1073741824 := by have := HTS.out; omega
      clear m1 hp mh hbw hq2 c0 im hx
      generalize hS1 : tot (QL q) (i + 1) = s1 at *
      generalize tot (QL q) i = s0 at *
      by_cases h0 : 0 < xn
      · have h0i : (0 : Int) < xn := by omega
        have k := kPu h0
        clear kPu
        go_wp2_with fail
        go_fit k
        rintro r w5 ⟨rfl, g, c, hp5, _⟩
        have M15 : Hid _ := HPu.out h0 g c w5 hp5
        clear hp5 HPu HSk
        go_wp2
        exact ⟨⟨i + 1, by go_num, HLT.out, by rw [hS1, HTS.out]; go_num, M15⟩, by simp [RowKit.intOf]; omega⟩
      · have h0i : ¬ (0 : Int) < xn := by omega
        have M15 : Hid _ := HSk.out h0
        clear HPu HSk kPu
        go_wp2
        exact ⟨⟨i + 1, by go_num, HLT.out, by rw [hS1, HTS.out]; go_num, M15⟩, by simp [RowKit.intOf]; omega⟩
    · have hii : ¬ (i : Int) < n := by omega
      obtain rfl : i = n := by omega
      obtain ⟨w2, rmk, omk, bmk⟩ := make0_i wr wr.heap.size (tot (QL q) i) (Nat.le_refl _) (by have := HT.out; omega) (lk [])
      have hgo : wb.heap.size ≤ wr.heap.size := hbw.size
      have hbl : b < wr.heap.size := World.block_lt_of_cell? wr _ hp.ls
      have M20 : Hid (M2 false i q wb wb.heap.size b bx (.slice (some ⟨wr.heap.size, 0, none⟩) 0 (tot (QL q) i)) 0 m w2) := by
        refine ⟨v, f, QL q, [], hp.below bmk, mh, hm, row_base omk hgo, rfl, rfl, fun g e => ?_, rfl⟩
        have e' : wr.heap.size = g := Option.some.inj e
        refine ⟨by omega, fun e2 => ?_⟩
        have := (World.ownsRow.lt hp.row g e2).2
        omega
      have hbI : Below w.heap.size w wr := HB.out.trans (hbw.mono HB.out.size)
      have HBI : Hid (Below w.heap.size w w2) := hbI.trans (bmk.mono hbI.size)
      have htn := HT.out
      have HGN : Hid (tot (QL q) i ≤ 1073741824) := HT.out
      clear hp mh hm hbw hgo hbl omk bmk m1 hbI
      generalize hN : tot (QL q) i = N at *
      go_wp2
      go_loopw [9] (fun u w' => ∃ (va : Option Addr) (vc j m : Nat), u = .slice va j vc ∧ Hid (M2 false i q wb wb.heap.size b bx (.slice va j vc) j m w')) (fun u _ => N - lenV u)
      case atStart => exact ⟨_, _, 0, m, rfl, M20⟩
      case round =>
        obtain ⟨va, vc, j, m, rfl, m2⟩ := hrel
        obtain ⟨v, f, R, pre, hp, mh, hm, ir, hpl, hpre, hdis, htot⟩ := m2.out.ex
        obtain ⟨vo, hvo⟩ : ∃ vo, vo = Value.slice va j vc := ⟨_, rfl⟩
        rw [← hvo] at ir hdis
        cases m with
        | zero =>
          obtain ⟨a0, c0, rfl⟩ := hp.slice
          have hl0 := hp.ls
          have e0 := mrA_none mh.empty
          have et := tot_zero (bst_none mh.empty)
          have HE : Hid (Ir wr w.heap.size (.slice va j vc) N (lk (mrA false i (QL q))) ∧ Below w.heap.size w wr) := by
            refine ⟨?_, HB.out.trans (hp.bxc.2.mono HB.out.size)⟩
            rw [e0, List.append_nil] at hpre
            rw [← hpre]
            have : j = N := by rw [← hN, ← htot, et]; omega
            rw [← this, ← hvo]
            exact row_base ir HB.out.size
          clear hp mh ir hdis m2 e0 et hpre hvo
          go_wp2
          go_ret
          exact ⟨.slice va j vc, rfl, by rw [hN]; exact HE.out.1, HE.out.2⟩
        | succ p =>
          obtain ⟨g, c, rfl⟩ := hp.some
          have hl0 := hp.ls
          have rr : Rr wr g c (p + 1) f := hp.row
          have r0 := rr.c0 0 (by omega)
          have r1 := rr.c1 0 (by omega)
          simp only [Nat.zero_mul, Nat.zero_add] at r0 r1
          obtain ⟨bb, hbst, hbn, e1, e2⟩ := mh.top (fun j hj => (hp.lok j hj).2.1)
          obtain ⟨_, hne, _⟩ := bst_some hbst
          obtain ⟨hmr, htt⟩ := mrA_some hbst
          obtain ⟨im0, hx0, hxc⟩ := hp.lok 0 (by omega)
          have hbw : Below wb.heap.size wb wr := hp.bxc.2
          obtain ⟨⟨⟨xa, xn, xc, xf⟩, xr⟩, hx⟩ : ∃ x, f 0 = x := ⟨_, rfl⟩
          rw [hx] at r0 r1 e1 e2 im0 hx0 hxc
          dsimp only at r0 r1 e1 e2 im0 hx0 hxc
          obtain ⟨k, rfl⟩ : ∃ k, xn = k + 1 := ⟨xn - 1, by omega⟩
          obtain ⟨kc, rfl⟩ : ∃ kc, xc = kc + 1 := ⟨xc - 1, by omega⟩
          rcases id im0 with h0 | ⟨g1, o1, rfl, hg1, hat⟩
          · omega
          have hh0 := hat 0 (by omega)
          rw [Nat.add_zero] at hh0
          have w0 := (hbw.cell (p := ⟨g1, o1, none⟩) hg1).trans hh0
          have hhd : (R bb).getD 0 ⟨#[]⟩ = xf 0 := by rw [← e1]; exact things_get _ 0 (by show 0 < k + 1; omega)
          obtain ⟨yv, hy⟩ : ∃ y, xf 0 = y := ⟨_, rfl⟩
          rw [hy] at w0 hhd
          have Bt : Below wr.heap.size wr (wr.alloc (.cells #[.slice (some ⟨g1, o1, none⟩) (k + 1) (kc + 1), .int .i64 xr] 104)) := (Below.refl _ wr).alloc (Nat.le_refl _) _
          have ir1 := ir.below Bt
          obtain ⟨go, co, w3, r3, o3, k3, hgo⟩ := append_i (wr.alloc (.cells #[.slice (some ⟨g1, o1, none⟩) (k + 1) (kc + 1), .int .i64 xr] 104)) wb.heap.size vo j (lk pre) yv (Nat.le_trans hbw.size Bt.size) (by have := HGN.out; omega) ir1
          have a0 := cell_al (.cells #[.slice (some ⟨g1, o1, none⟩) (k + 1) (kc + 1), .int .i64 xr] 104) w0
          have hT : (wr.alloc (.cells #[.slice (some ⟨g1, o1, none⟩) (k + 1) (kc + 1), .int .i64 xr] 104)).heap[wr.heap.size]? = some (.cells #[.slice (some ⟨g1, o1, none⟩) (k + 1) (kc + 1), .int .i64 xr] 104) := heap_alloc_new wr _
          have tw : (wr.alloc (.cells #[.slice (some ⟨g1, o1, none⟩) (k + 1) (kc + 1), .int .i64 xr] 104)).cell? ⟨wr.heap.size, 0, none⟩ = some (.slice (some ⟨g1, o1, none⟩) (k + 1) (kc + 1)) := by unfold World.cell?; rw [hT]; rfl
          have tw1 : (wr.alloc (.cells #[.slice (some ⟨g1, o1, none⟩) (k + 1) (kc + 1), .int .i64 xr] 104)).cell? ⟨wr.heap.size, 1, none⟩ = some (.int .i64 xr) := by unfold World.cell?; rw [hT]; rfl
          have tf : (wr.alloc (.cells #[.slice (some ⟨g1, o1, none⟩) (k + 1) (kc + 1), .int .i64 xr] 104)).frozen? ⟨wr.heap.size, 0, none⟩ = false := by unfold World.frozen?; rw [hT]; rfl
          have hno : ∀ x, vo.ownBlock = some x → x < wr.heap.size := fun x e => (World.ownsRow.lt ir x e).2
          have t3 := k3.cell tw (fun e => by have := hno _ e; simp at this)
          have t3' := k3.cell tw1 (fun e => by have := hno _ e; simp at this)
          have f3 := k3.frozen tw tf (fun e => by have := hno _ e; simp at this)
          have hbl : b < wr.heap.size := World.block_lt_of_cell? wr _ hl0
          have hgl : g < wr.heap.size := rr.lt
          have hgo2 : go ≠ b ∧ go ≠ g ∧ go ≠ wr.heap.size := by
            rcases hgo with e | e
            · have := hdis go e
              have h5 := hno go e
              exact ⟨this.1, fun e3 => this.2 (by rw [e3]; rfl), by omega⟩
            · have : wr.heap.size + 1 ≤ go := by simpa using e
              omega
          have hwbo : ∀ x, x < wb.heap.size → vo.ownBlock ≠ some x := fun x hxl e => by
            have := (World.ownsRow.lt ir x e).1
            omega
          have hor : Ir w3 wb.heap.size (.slice (some ⟨go, 0, none⟩) (j + 1) co) (j + 1) (lk (pre ++ [yv])) := o3.congr (fun x hx => by rw [← hpl]; exact lk_push pre yv x (by omega))
          have kAll : ∀ W4, Kp (· = wr.heap.size) w3 W4 → Kp (fun x => vo.ownBlock = some x ∨ x = wr.heap.size) wr W4 := fun W4 k4 => (((Kp.of Bt).trans (k3.mono (fun x _ e => .inl e))).trans (k4.mono (fun x _ e => .inr e)))
          have hp4 : ∀ W4, Kp (· = wr.heap.size) w3 W4 → Hp W4 b bx (wb, bx) (.slice (some ⟨g, 0, none⟩) (p + 1) c) (p + 1) f := fun W4 k4 => hp.kp (kAll W4 k4) (fun e => by
            rcases e with e | e
            · exact (hdis b e).1 rfl
            · omega) (fun x hxl e => by
            rcases e with e | e
            · exact hwbo x hxl e
            · have := hbw.size
              have h7 : x < wb.heap.size := hxl
              omega) (fun x e1 e => by
            have e3 : g = x := Option.some.inj e1
            subst e3
            rcases e with e | e
            · exact (hdis g e).2 rfl
            · omega)
          have hj1 : tot (up R bb ((R bb).drop 1)) i + (j + 1) = N := by rw [← hN]; omega
          have hpr2 : (pre ++ [yv]) ++ mrA false i (up R bb ((R bb).drop 1)) = mrA false i (QL q) := by
            rw [← hpre, hmr, hhd, List.append_assoc]
            rfl
          have hjN : j < N := by omega
          have HRep : Hid (∀ (x : Lk) W4 w5, 0 < k → things x.1 = (R bb).drop 1 → x.2 = xr → Kp (· = wr.heap.size) w3 W4 → Hp w5 b bx (wb, bx) (.slice (some ⟨g, 0, none⟩) (p + 1) c) (p + 1) (sinkF (aF false) (p + 1) (up f 0 x) 0) → Kp (· = g) W4 w5 → M2 false i q wb wb.heap.size b bx (.slice (some ⟨go, 0, none⟩) (j + 1) co) (j + 1) (p + 1) w5) := fun x W4 w5 hk hx1 hx2 k4 h5 k5 => by
            have hl : (R bb).drop 1 ≠ [] := fun e => by
              have := congrArg List.length e
              rw [← e1, List.length_drop, things_len] at this
              simp at this
              omega
            refine ⟨_, _, up R bb ((R bb).drop 1), pre ++ [yv], h5, mh.repl hbn hne (by rw [hx]; exact e1) (by rw [hx]; exact e2) hl hx1 (hx2.trans e2), hm, k5.row (k4.row hor (fun y e => by cases e; exact hgo2.2.2)) (fun y e => by cases e; exact hgo2.2.1), by simp [hpl], hpr2, fun y e => ?_, hj1.trans hN.symm⟩
            have e3 : go = y := Option.some.inj e
            subst e3
            exact ⟨hgo2.1, fun e4 => hgo2.2.1 (Option.some.inj e4).symm⟩
          have hgn : ∀ y, (Value.slice (some ⟨go, 0, none⟩) (j + 1) co).ownBlock = some y → ¬ (y = b ∨ y = g) := fun y e h => by
            have e3 : go = y := Option.some.inj e
            subst e3
            rcases h with h | h
            · exact hgo2.1 h
            · exact hgo2.2.1 h
          have HPop : Hid (∀ W4 w5, k = 0 → Kp (· = wr.heap.size) w3 W4 → Hp w5 b bx (wb, bx) (.slice (some ⟨g, 0, none⟩) p c) p (sinkF (aF false) p (up f 0 (f p)) 0) → Kp (fun x => x = b ∨ x = g) W4 w5 → M2 false i q wb wb.heap.size b bx (.slice (some ⟨go, 0, none⟩) (j + 1) co) (j + 1) p w5) := fun W4 w5 hk k4 h5 k5 => by
            have hl : (R bb).drop 1 = [] := List.eq_nil_of_length_eq_zero (by rw [← e1, List.length_drop, things_len]; simp; omega)
            refine ⟨_, _, up R bb ((R bb).drop 1), pre ++ [yv], h5, mh.pop hbn hne (by rw [hx]; exact e1) (by rw [hx]; exact e2) hl, by omega, k5.row (k4.row hor (fun y e => by cases e; exact hgo2.2.2)) hgn, by simp [hpl], hpr2, fun y e => ?_, hj1.trans hN.symm⟩
            have e3 : go = y := Option.some.inj e
            subst e3
            exact ⟨hgo2.1, fun e4 => hgo2.2.1 (Option.some.inj e4).symm⟩
          have htl : ∀ a' kc', things (a', k, kc', fun z => xf (z + 1)) = (R bb).drop 1 := fun a' kc' => by rw [← e1]; exact things_drop (some ⟨g1, o1, none⟩) (k + 1) (kc + 1) kc' a' xf
          have hr3 : (Builtin.append_ #[41, 41] 41 #[.slice va j vc, .slice (some ⟨wr.heap.size + 1, 0, none⟩) 1 1]).run Try.prog ((wr.alloc (.cells #[.slice (some ⟨g1, o1, none⟩) (k + 1) (kc + 1), .int .i64 xr] 104)).alloc (.cells #[.string yv] 9)) = .ok (.slice (some ⟨go, 0, none⟩) (j + 1) co) w3 := by
            have := r3
            rw [hvo, World.size_alloc] at this
            exact this
          have ksc : ∀ u, Kp (· = wr.heap.size) w3 (w3.setCell ⟨wr.heap.size, 0, none⟩ u) := fun u => (Kp.refl (· = wr.heap.size) w3).setCell (p := ⟨wr.heap.size, 0, none⟩) rfl u
          have hJ : Hid (j < N) := hjN
          by_cases hk : 0 < k
          · have hkc : 0 < kc := by omega
            have kRep := replace_any (aF false) b bx g c p (wb, bx) f ((some ⟨g1, o1 + 1, none⟩, k, kc, fun z => xf (z + 1)), xr) (w3.setCell ⟨wr.heap.size, 0, none⟩ (.slice (some ⟨g1, o1 + 1, none⟩) k kc)) HA.out ⟨by
              refine .inr ⟨g1, o1 + 1, rfl, hg1, fun z hz => ?_⟩
              have := hat (z + 1) (by dsimp only at hz; omega)
              rw [show o1 + (z + 1) = o1 + 1 + z by omega] at this
              exact this, hk, by show k ≤ kc; omega⟩ (hp4 _ (ksc _)) (by have := HN.out; omega)
            have HM : Hid (∀ w5, Hp w5 b bx (wb, bx) (.slice (some ⟨g, 0, none⟩) (p + 1) c) (p + 1) (sinkF (aF false) (p + 1) (up f 0 ((some ⟨g1, o1 + 1, none⟩, k, kc, fun z => xf (z + 1)), xr)) 0) → Kp (· = g) (w3.setCell ⟨wr.heap.size, 0, none⟩ (.slice (some ⟨g1, o1 + 1, none⟩) k kc)) w5 → M2 false i q wb wb.heap.size b bx (.slice (some ⟨go, 0, none⟩) (j + 1) co) (j + 1) (p + 1) w5) := fun w5 h5 k5 => HRep.out _ _ w5 hk (htl _ _) rfl (ksc _) h5 k5
            have s0 := World.cell?_setCell_same _ ⟨wr.heap.size, 0, none⟩ (.slice (some ⟨g1, o1 + 1, none⟩) k kc) t3
            have s1 : (w3.setCell ⟨wr.heap.size, 0, none⟩ (.slice (some ⟨g1, o1 + 1, none⟩) k kc)).cell? ⟨wr.heap.size, 1, none⟩ = some (.int .i64 xr) := by rw [World.cell?_setCell_other _ _ _ _ (by simp)]; exact t3'
            have hki : (0 : Int) < k := by omega
            clear HRep HPop htl ksc hp4 kAll hor o3 k3 r3 hp mh rr ir ir1 hdis m2 hbst hmr htt im0 hat hh0 hx e1 e2 hne hbn hhd hpre hpr2 hj1 htot hT tw tw1 tf hno hwbo hgo hgo2 hgn Bt hbw hvo
            go_wp2_with (first | (at_builtin; refine wpList_append_run rfl (.tmp 50) (.tmp 55) 41 41 rfl _ _ rfl rfl hr3 ?_))
            go_fit kRep
            rintro r w5 ⟨rfl, h5, k5⟩
            have M25 : Hid _ := HM.out w5 h5 k5
            clear h5 k5 HM
            go_wp2
            exact ⟨⟨_, _, j + 1, p + 1, rfl, M25⟩, by show N - (j + 1) < N - j; have := hJ.out; omega⟩
          · obtain rfl : k = 0 := by omega
            by_cases hkc : 0 < kc
            · have kPop := pop_any (aF false) b bx g c p (wb, bx) f (w3.setCell ⟨wr.heap.size, 0, none⟩ (.slice (some ⟨g1, o1 + 1, none⟩) 0 kc)) HA.out (hp4 _ (ksc _)) (by have := HN.out; omega)
              have HM : Hid (∀ w5, Hp w5 b bx (wb, bx) (.slice (some ⟨g, 0, none⟩) p c) p (sinkF (aF false) p (up f 0 (f p)) 0) → Kp (fun x => x = b ∨ x = g) (w3.setCell ⟨wr.heap.size, 0, none⟩ (.slice (some ⟨g1, o1 + 1, none⟩) 0 kc)) w5 → M2 false i q wb wb.heap.size b bx (.slice (some ⟨go, 0, none⟩) (j + 1) co) (j + 1) p w5) := fun w5 h5 k5 => HPop.out _ w5 rfl (ksc _) h5 k5
              have s0 := World.cell?_setCell_same _ ⟨wr.heap.size, 0, none⟩ (.slice (some ⟨g1, o1 + 1, none⟩) 0 kc) t3
              clear HRep HPop htl ksc hp4 kAll hor o3 k3 r3 hp mh rr ir ir1 hdis m2 hbst hmr htt im0 hat hh0 hx e1 e2 hne hbn hhd hpre hpr2 hj1 htot hT tw tw1 tf hno hwbo hgo hgo2 hgn Bt hbw hvo
              go_wp2_with (first | (at_builtin; refine wpList_append_run rfl (.tmp 50) (.tmp 55) 41 41 rfl _ _ rfl rfl hr3 ?_))
              go_fit kPop
              rintro r w5 ⟨rfl, h5, k5, _⟩
              have M25 : Hid _ := HM.out w5 h5 k5
              clear h5 k5 HM
              go_wp2
              exact ⟨⟨_, _, j + 1, p, rfl, M25⟩, by show N - (j + 1) < N - j; have := hJ.out; omega⟩
            · obtain rfl : kc = 0 := by omega
              have kPop := pop_any (aF false) b bx g c p (wb, bx) f (w3.setCell ⟨wr.heap.size, 0, none⟩ (.slice (some ⟨g1, o1, none⟩) 0 0)) HA.out (hp4 _ (ksc _)) (by have := HN.out; omega)
              have HM : Hid (∀ w5, Hp w5 b bx (wb, bx) (.slice (some ⟨g, 0, none⟩) p c) p (sinkF (aF false) p (up f 0 (f p)) 0) → Kp (fun x => x = b ∨ x = g) (w3.setCell ⟨wr.heap.size, 0, none⟩ (.slice (some ⟨g1, o1, none⟩) 0 0)) w5 → M2 false i q wb wb.heap.size b bx (.slice (some ⟨go, 0, none⟩) (j + 1) co) (j + 1) p w5) := fun w5 h5 k5 => HPop.out _ w5 rfl (ksc _) h5 k5
              have s0 := World.cell?_setCell_same _ ⟨wr.heap.size, 0, none⟩ (.slice (some ⟨g1, o1, none⟩) 0 0) t3
              clear HRep HPop htl ksc hp4 kAll hor o3 k3 r3 hp mh rr ir ir1 hdis m2 hbst hmr htt im0 hat hh0 hx e1 e2 hne hbn hhd hpre hpr2 hj1 htot hT tw tw1 tf hno hwbo hgo hgo2 hgn Bt hbw hvo
              go_wp2_with (first | (at_builtin; refine wpList_append_run rfl (.tmp 50) (.tmp 55) 41 41 rfl _ _ rfl rfl hr3 ?_))
              go_fit kPop
              rintro r w5 ⟨rfl, h5, k5, _⟩
              have M25 : Hid _ := HM.out w5 h5 k5
              clear h5 k5 HM
              go_wp2
              exact ⟨⟨_, _, j + 1, p, rfl, M25⟩, by show N - (j + 1) < N - j; have := hJ.out; omega⟩

end Go.Proofs.Ytcgpjmpppajfdaa.Ws.Li
