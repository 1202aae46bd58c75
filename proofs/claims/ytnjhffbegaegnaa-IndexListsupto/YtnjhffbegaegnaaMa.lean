/- Rising lists of whole numbers, as mathematics. -/
import Derived.Lib.SlicesCompact
import Derived.Lib.RowBridge
namespace Go.Proofs.Ytnjhffbegaegnaa

/-- A list that rises. -/
def Rs (l : List Int) : Prop := l.Pairwise (· < ·)
theorem Rs.uniq : ∀ {l m : List Int}, Rs l → Rs m → (∀ x, x ∈ l ↔ x ∈ m) → l = m := by
  intro l
  induction l with
  | nil =>
    intro m _ _ h
    cases m with
    | nil => rfl
    | cons y m => exact absurd ((h y).2 (List.mem_cons_self ..)) (by simp)
  | cons x l ih =>
    intro m hl hm h
    cases m with
    | nil => exact absurd ((h x).1 (List.mem_cons_self ..)) (by simp)
    | cons y m =>
      have hl' := List.pairwise_cons.1 hl
      have hm' := List.pairwise_cons.1 hm
      have e : x = y := by
        have h1 := (h x).1 (List.mem_cons_self ..)
        have h2 := (h y).2 (List.mem_cons_self ..)
        rcases List.mem_cons.1 h1 with h1 | h1
        · exact h1
        · rcases List.mem_cons.1 h2 with h2 | h2
          · exact h2.symm
          · have := hm'.1 x h1
            have := hl'.1 y h2
            omega
      subst e
      congr 1
      apply ih hl'.2 hm'.2
      intro z
      constructor
      · intro hz
        have := hl'.1 z hz
        rcases List.mem_cons.1 ((h z).1 (List.mem_cons_of_mem _ hz)) with h1 | h1
        · omega
        · exact h1
      · intro hz
        have := hm'.1 z hz
        rcases List.mem_cons.1 ((h z).2 (List.mem_cons_of_mem _ hz)) with h1 | h1
        · omega
        · exact h1

theorem cpt (d : Array Int) (hs : ∀ i j, i < j → j < d.size → d[i]! ≤ d[j]!) : ∀ m, m ≤ d.size → Rs (Lib.compactUpTo d m) ∧ (∀ x, x ∈ Lib.compactUpTo d m ↔ ∃ i, i < m ∧ d[i]! = x) := by
  intro m
  induction m with
  | zero =>
    intro _
    refine ⟨by simp [Lib.compactUpTo, Rs], fun x => ?_⟩
    simp [Lib.compactUpTo]
  | succ m ih =>
    intro hm
    obtain ⟨h1, h2⟩ := ih (by omega)
    rw [Lib.compactUpTo_succ]
    by_cases hk : Lib.keeps d m = true
    · rw [if_pos hk]
      refine ⟨List.pairwise_append.2 ⟨h1, List.pairwise_singleton _ _, ?_⟩, fun x => ?_⟩
      · intro x hx y hy
        obtain ⟨i, hi, rfl⟩ := (h2 x).1 hx
        have hy' : y = d[m]! := by simpa using hy
        subst hy'
        simp only [Lib.keeps, decide_eq_true_eq] at hk
        rcases hk with hk | hk
        · omega
        · have a1 := hs (m - 1) m (by omega) (by omega)
          by_cases e : i = m - 1
          · subst e; omega
          · have := hs i (m - 1) (by omega) (by omega)
            omega
      · rw [List.mem_append, h2]
        constructor
        · rintro (⟨i, hi, rfl⟩ | h)
          · exact ⟨i, by omega, rfl⟩
          · have hy' : x = d[m]! := by simpa using h
            exact ⟨m, by omega, hy'.symm⟩
        · rintro ⟨i, hi, rfl⟩
          by_cases e : i = m
          · subst e; right; simp
          · left; exact ⟨i, by omega, rfl⟩
    · rw [if_neg hk, List.append_nil]
      refine ⟨h1, fun x => ?_⟩
      rw [h2]
      simp only [Lib.keeps, decide_eq_true_eq, not_or, Classical.not_not] at hk
      constructor
      · rintro ⟨i, hi, rfl⟩
        exact ⟨i, by omega, rfl⟩
      · rintro ⟨i, hi, rfl⟩
        by_cases e : i = m
        · subst e; exact ⟨i - 1, by omega, hk.2.symm⟩
        · exact ⟨i, by omega, rfl⟩

/-- A list's numbers sorted. -/
def srt (l : List Int) : List Int := l.mergeSort fun x y => decide (x ≤ y)
theorem srt_len (l : List Int) : (srt l).length = l.length := by simp [srt]
theorem srt_mem (l : List Int) (x : Int) : x ∈ srt l ↔ x ∈ l := by simp [srt]
theorem srt_le (l : List Int) : (srt l).Pairwise (· ≤ ·) := by
  have := List.pairwise_mergeSort (le := fun x y : Int => decide (x ≤ y)) (fun a b c h1 h2 => by simp at *; omega) (fun a b => by simp; omega) l
  exact this.imp (fun h => by simpa using h)
/-- A list's numbers sorted, each once. -/
def rsg (l : List Int) : List Int := Lib.compact (srt l)
theorem rsg_spec (l : List Int) : Rs (rsg l) ∧ (∀ x, x ∈ rsg l ↔ x ∈ l) := by
  have hs : ∀ i j, i < j → j < (srt l).toArray.size → (srt l).toArray[i]! ≤ (srt l).toArray[j]! := by
    intro i j hij hj
    have hj' : j < (srt l).length := by simpa using hj
    have := List.pairwise_iff_getElem.1 (srt_le l) i j (by omega) hj' hij
    rw [getElem!_pos _ i (by simp; omega), getElem!_pos _ j (by simp; omega)]
    simpa using this
  obtain ⟨h1, h2⟩ := cpt (srt l).toArray hs (srt l).length (by simp)
  refine ⟨h1, fun x => ?_⟩
  unfold rsg Lib.compact
  rw [h2, ← srt_mem l x]
  constructor
  · rintro ⟨i, hi, rfl⟩
    rw [getElem!_pos _ i (by simpa using hi)]
    simp
  · intro h
    obtain ⟨i, hi, e⟩ := List.getElem_of_mem h
    exact ⟨i, hi, by rw [getElem!_pos _ i (by simpa using hi)]; simpa using e⟩
theorem rsg_rs (l : List Int) : Rs (rsg l) := (rsg_spec l).1
theorem rsg_mem (l : List Int) (x : Int) : x ∈ rsg l ↔ x ∈ l := (rsg_spec l).2 x
theorem rsg_len (l : List Int) : (rsg l).length ≤ l.length := by
  have := Lib.compact_length_le (srt l)
  rw [srt_len] at this
  exact this
/-- What rises and holds these numbers. -/
theorem rsg_is {l m : List Int} (h : Rs m) (hm : ∀ x, x ∈ m ↔ x ∈ l) : m = rsg l := h.uniq (rsg_rs l) (fun x => by rw [hm, rsg_mem])
theorem rsg_self {l : List Int} (h : Rs l) : rsg l = l := (rsg_is h (fun _ => Iff.rfl)).symm

/-- Those of a that stand in b, or else those that don't. -/
def flt (st : Bool) (a b : List Int) : List Int := a.filter fun n => b.contains n == st
def thF (st : Bool) (a b : List Int) : List Int := if st && decide (b.length < a.length) then flt st b a else flt st a b
theorem flt_rs (st : Bool) {a : List Int} (b : List Int) (ha : Rs a) : Rs (flt st a b) := List.Pairwise.filter _ ha
theorem flt_mem (st : Bool) (a b : List Int) (x : Int) : x ∈ flt st a b ↔ x ∈ a ∧ (x ∈ b ↔ st = true) := by
  unfold flt
  rw [List.mem_filter]
  by_cases h : x ∈ b <;> cases st <;> simp [h]
theorem thF_spec (st : Bool) {a b : List Int} (ha : Rs a) (hb : Rs b) : Rs (thF st a b) ∧ ∀ x, x ∈ thF st a b ↔ x ∈ a ∧ (x ∈ b ↔ st = true) := by
  unfold thF
  split
  · rename_i h
    have hst : st = true := by cases st <;> simp_all
    subst hst
    refine ⟨flt_rs _ _ hb, fun x => ?_⟩
    rw [flt_mem]
    simp only [iff_true]
    exact And.comm
  · exact ⟨flt_rs _ _ ha, fun x => flt_mem st a b x⟩

/-- Two lists merged: what stands in the first alone, in both, in the second alone. -/
def mg (p q r : Bool) : List Int → List Int → List Int
  | [], [] => []
  | x :: a, [] => (if p then [x] else []) ++ mg p q r a []
  | [], y :: b => (if r then [y] else []) ++ mg p q r [] b
  | x :: a, y :: b => if x < y then (if p then [x] else []) ++ mg p q r a (y :: b) else if y < x then (if r then [y] else []) ++ mg p q r (x :: a) b else (if q then [x] else []) ++ mg p q r a b
def wnt (p q r : Bool) (a b : List Int) (x : Int) : Prop := (p = true ∧ x ∈ a ∧ x ∉ b) ∨ (q = true ∧ x ∈ a ∧ x ∈ b) ∨ (r = true ∧ x ∉ a ∧ x ∈ b)
theorem rs_one (c : Bool) (x : Int) {l : List Int} (h : Rs l) (hx : ∀ y ∈ l, x < y) : Rs ((if c then [x] else []) ++ l) := by
  cases c
  · exact h
  · exact List.pairwise_cons.2 ⟨hx, h⟩
theorem mg_spec (p q r : Bool) (a b : List Int) (ha : Rs a) (hb : Rs b) : Rs (mg p q r a b) ∧ ∀ x, x ∈ mg p q r a b ↔ wnt p q r a b x := by
  fun_induction mg p q r a b with
  | case1 => exact ⟨List.Pairwise.nil, fun x => by simp [wnt]⟩
  | case2 x a ih =>
    have ha' := List.pairwise_cons.1 ha
    obtain ⟨h1, h2⟩ := ih ha'.2 hb
    refine ⟨rs_one _ _ h1 (fun y hy => ?_), fun z => ?_⟩
    · have := (h2 y).1 hy
      simp only [wnt, List.not_mem_nil, not_false_eq_true, and_true, and_false, or_false] at this
      exact ha'.1 y this.2
    · rw [List.mem_append, h2]
      by_cases hz : z = x
      · subst hz
        have : z ∉ a := fun h => by have := ha'.1 z h; omega
        cases p <;> simp [wnt, this]
      · cases p <;> simp [wnt, hz]
  | case3 y b ih =>
    have hb' := List.pairwise_cons.1 hb
    obtain ⟨h1, h2⟩ := ih ha hb'.2
    refine ⟨rs_one _ _ h1 (fun z hz => ?_), fun z => ?_⟩
    · have := (h2 z).1 hz
      simp only [wnt, List.not_mem_nil, not_false_eq_true, true_and, false_and, and_false, false_or] at this
      exact hb'.1 z this.2
    · rw [List.mem_append, h2]
      by_cases hz : z = y
      · subst hz
        have : z ∉ b := fun h => by have := hb'.1 z h; omega
        cases r <;> simp [wnt, this]
      · cases r <;> simp [wnt, hz]
  | case4 x a y b hxy ih =>
    have ha' := List.pairwise_cons.1 ha
    have hb' := List.pairwise_cons.1 hb
    obtain ⟨h1, h2⟩ := ih ha'.2 hb
    refine ⟨rs_one _ _ h1 (fun z hz => ?_), fun z => ?_⟩
    · have : z ∈ a ∨ z ∈ y :: b := by
        rcases (h2 z).1 hz with h | h | h
        · exact .inl h.2.1
        · exact .inl h.2.1
        · exact .inr h.2.2
      rcases this with h | h
      · exact ha'.1 z h
      · rcases List.mem_cons.1 h with rfl | h
        · exact hxy
        · have := hb'.1 z h; omega
    · rw [List.mem_append, h2]
      by_cases hz : z = x
      · subst hz
        have e1 : z ∉ a := fun h => by have := ha'.1 z h; omega
        have e2 : z ∉ y :: b := fun h => by
          rcases List.mem_cons.1 h with h | h
          · omega
          · have := hb'.1 z h; omega
        cases p <;> simp [wnt, e1, e2]
      · cases p <;> simp [wnt, hz]
  | case5 x a y b hxy hyx ih =>
    have ha' := List.pairwise_cons.1 ha
    have hb' := List.pairwise_cons.1 hb
    obtain ⟨h1, h2⟩ := ih ha hb'.2
    refine ⟨rs_one _ _ h1 (fun z hz => ?_), fun z => ?_⟩
    · have : z ∈ x :: a ∨ z ∈ b := by
        rcases (h2 z).1 hz with h | h | h
        · exact .inl h.2.1
        · exact .inl h.2.1
        · exact .inr h.2.2
      rcases this with h | h
      · rcases List.mem_cons.1 h with rfl | h
        · exact hyx
        · have := ha'.1 z h; omega
      · exact hb'.1 z h
    · rw [List.mem_append, h2]
      by_cases hz : z = y
      · subst hz
        have e1 : z ∉ b := fun h => by have := hb'.1 z h; omega
        have e2 : z ∉ x :: a := fun h => by
          rcases List.mem_cons.1 h with h | h
          · omega
          · have := ha'.1 z h; omega
        cases r <;> simp [wnt, e1, e2]
      · cases r <;> simp [wnt, hz]
  | case6 x a y b hxy hyx ih =>
    have ha' := List.pairwise_cons.1 ha
    have hb' := List.pairwise_cons.1 hb
    obtain rfl : x = y := by omega
    obtain ⟨h1, h2⟩ := ih ha'.2 hb'.2
    refine ⟨rs_one _ _ h1 (fun z hz => ?_), fun z => ?_⟩
    · have : z ∈ a ∨ z ∈ b := by
        rcases (h2 z).1 hz with h | h | h
        · exact .inl h.2.1
        · exact .inl h.2.1
        · exact .inr h.2.2
      rcases this with h | h
      · exact ha'.1 z h
      · exact hb'.1 z h
    · rw [List.mem_append, h2]
      by_cases hz : z = x
      · subst hz
        have e1 : z ∉ b := fun h => by have := hb'.1 z h; omega
        have e2 : z ∉ a := fun h => by have := ha'.1 z h; omega
        cases q <;> simp [wnt, e1, e2]
      · cases q <;> simp [wnt, hz]
theorem mg_len (p q r : Bool) (a b : List Int) : (mg p q r a b).length ≤ a.length + b.length := by
  fun_induction mg p q r a b <;> (try split) <;> simp_all <;> omega

/-- And, Or, Without of any lists. -/
def anL (a b : List Int) : List Int := mg false true false (rsg a) (rsg b)
def orL (a b : List Int) : List Int := mg true true true (rsg a) (rsg b)
def wiL (a b : List Int) : List Int := mg true false false (rsg a) (rsg b)
theorem an_th (a b : List Int) : thF true (rsg a) (rsg b) = anL a b := by
  obtain ⟨h1, h2⟩ := thF_spec true (rsg_rs a) (rsg_rs b)
  obtain ⟨h3, h4⟩ := mg_spec false true false _ _ (rsg_rs a) (rsg_rs b)
  exact h1.uniq h3 (fun x => by rw [h2]; unfold anL; rw [h4]; simp [wnt])
theorem wi_th (a b : List Int) : thF false (rsg a) (rsg b) = wiL a b := by
  obtain ⟨h1, h2⟩ := thF_spec false (rsg_rs a) (rsg_rs b)
  obtain ⟨h3, h4⟩ := mg_spec true false false _ _ (rsg_rs a) (rsg_rs b)
  exact h1.uniq h3 (fun x => by rw [h2]; unfold wiL; rw [h4]; simp [wnt])
theorem or_rs (a b : List Int) : rsg (a ++ b) = orL a b := by
  obtain ⟨h3, h4⟩ := mg_spec true true true _ _ (rsg_rs a) (rsg_rs b)
  refine (rsg_rs _).uniq h3 (fun x => ?_)
  rw [rsg_mem]
  unfold orL
  rw [h4]
  simp only [wnt, rsg_mem, List.mem_append]
  by_cases h : x ∈ a <;> by_cases h' : x ∈ b <;> simp [h, h']
end Go.Proofs.Ytnjhffbegaegnaa
