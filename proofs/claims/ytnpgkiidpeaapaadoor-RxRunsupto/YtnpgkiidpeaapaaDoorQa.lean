/- A search with points that are tried once: marks at the joints alone are enough. -/
namespace Go.Proofs.YtnpgkiidpeaapaaDoor
/-- A point: an instruction's place, and a place of the text. -/
abbrev Pt := Nat × Nat
/-- What waits: a point, or a slot with the value that it gets back. -/
abbrev Fr := Sum Pt (Nat × Int)
def upd (f : Nat → Int) (k : Nat) (v : Int) : Nat → Int := fun i => if i = k then v else f i
def mark (tr : Pt → Bool) (p : Pt) : Pt → Bool := fun q => if q = p then true else tr q
/-- What a search goes by: where it ends well, where it goes on, which slot it notes. -/
structure Sy where
  win : Pt → Bool
  outs : Pt → List Pt
  sav : Pt → Option Nat
/-- What is left for later behind a point that is tried. -/
def aft (y : Sy) (p : Pt) (st : List Fr) (sl : Nat → Int) : List Fr :=
  match y.sav p with
  | some k => (y.outs p).map Sum.inl ++ Sum.inr (k, sl k) :: st
  | none => (y.outs p).map Sum.inl ++ st
def aftS (y : Sy) (p : Pt) (sl : Nat → Int) : Nat → Int :=
  match y.sav p with
  | some k => upd sl k p.2
  | none => sl
/-- The search, with points of J alone held for tried. -/
def run (y : Sy) (J : Nat → Bool) : Nat → List Fr → (Pt → Bool) → (Nat → Int) → Option (Option (Nat → Int))
  | 0, _, _, _ => none
  | _ + 1, [], _, _ => some none
  | f + 1, Sum.inr (k, v) :: st, tr, sl => run y J f st tr (upd sl k v)
  | f + 1, Sum.inl p :: st, tr, sl =>
    if (J p.1 && tr p) = true then run y J f st tr sl
    else if y.win p = true then some (some sl)
    else run y J f (aft y p st sl) (mark tr p) (aftS y p sl)
theorem run_more (y : Sy) (J : Nat → Bool) : ∀ f st tr sl r, run y J f st tr sl = some r → run y J (f + 1) st tr sl = some r := by
  intro f
  induction f with
  | zero => intro st tr sl r h; cases h
  | succ f ih =>
    intro st tr sl r h
    match st with
    | [] => exact h
    | Sum.inr (k, v) :: st => exact ih _ _ _ _ h
    | Sum.inl p :: st =>
      unfold run at h ⊢
      by_cases h1 : (J p.1 && tr p) = true
      · rw [if_pos h1] at h ⊢
        exact ih _ _ _ _ h
      · rw [if_neg h1] at h ⊢
        by_cases h2 : y.win p = true
        · rw [if_pos h2] at h ⊢
          exact h
        · rw [if_neg h2] at h ⊢
          exact ih _ _ _ _ h
theorem run_le (y : Sy) (J : Nat → Bool) (f g : Nat) (hfg : f ≤ g) (st tr sl r) (h : run y J f st tr sl = some r) : run y J g st tr sl = some r := by
  induction hfg with
  | refl => exact h
  | step _ ih => exact run_more y J _ _ _ _ _ ih
/-- The search's answer. -/
def Res (y : Sy) (J : Nat → Bool) (st : List Fr) (tr : Pt → Bool) (sl : Nat → Int) (r : Option (Nat → Int)) : Prop := ∃ f, run y J f st tr sl = some r
theorem Res.uniq {y : Sy} {J : Nat → Bool} {st tr sl r r'} (h : Res y J st tr sl r) (h' : Res y J st tr sl r') : r = r' := by
  obtain ⟨f, hf⟩ := h
  obtain ⟨g, hg⟩ := h'
  have h1 := run_le y J f (max f g) (Nat.le_max_left _ _) _ _ _ _ hf
  have h2 := run_le y J g (max f g) (Nat.le_max_right _ _) _ _ _ _ hg
  rw [h1] at h2
  exact Option.some.inj h2
theorem Res.nil (y : Sy) (J : Nat → Bool) (tr sl) : Res y J [] tr sl none := ⟨1, rfl⟩
theorem Res.back {y : Sy} {J : Nat → Bool} {k v st tr sl r} (h : Res y J st tr (upd sl k v) r) : Res y J (Sum.inr (k, v) :: st) tr sl r := by
  obtain ⟨f, hf⟩ := h
  exact ⟨f + 1, hf⟩
theorem Res.seen {y : Sy} {J : Nat → Bool} {p : Pt} {st tr sl r} (hs : (J p.1 && tr p) = true) (h : Res y J st tr sl r) : Res y J (Sum.inl p :: st) tr sl r := by
  obtain ⟨f, hf⟩ := h
  exact ⟨f + 1, by unfold run; rw [if_pos hs]; exact hf⟩
theorem Res.won {y : Sy} {J : Nat → Bool} {p : Pt} {st tr sl} (hs : (J p.1 && tr p) = false) (hw : y.win p = true) : Res y J (Sum.inl p :: st) tr sl (some sl) :=
  ⟨1, by unfold run; rw [if_neg (by rw [hs]; decide), if_pos hw]⟩
theorem Res.on {y : Sy} {J : Nat → Bool} {p : Pt} {st tr sl r} (hs : (J p.1 && tr p) = false) (hw : y.win p = false) (h : Res y J (aft y p st sl) (mark tr p) (aftS y p sl) r) : Res y J (Sum.inl p :: st) tr sl r := by
  obtain ⟨f, hf⟩ := h
  exact ⟨f + 1, by unfold run; rw [if_neg (by rw [hs]; decide), if_neg (by rw [hw]; decide)]; exact hf⟩

/-- Points that aren't joints are led to from one point at most, and once. -/
structure Lone (y : Sy) (J : Nat → Bool) (s0 : Pt) : Prop where
  one : ∀ q p p', J q.1 = false → q ∈ y.outs p → q ∈ y.outs p' → p = p'
  once : ∀ q p, J q.1 = false → (y.outs p).count q ≤ 1
  start : ∀ p, J s0.1 = false → s0 ∉ y.outs p
open Classical in
noncomputable def led (y : Sy) (s0 : Pt) (tr : Pt → Bool) (q : Pt) : Nat := (if ∃ p, tr p = true ∧ q ∈ y.outs p then 1 else 0) + (if q = s0 then 1 else 0)
def cnt (q : Pt) (st : List Fr) : Nat := st.countP fun f => match f with | Sum.inl p => decide (p = q) | Sum.inr _ => false
def In1 (y : Sy) (J : Nat → Bool) (s0 : Pt) (st : List Fr) (tr : Pt → Bool) : Prop := ∀ q, J q.1 = false → cnt q st + (if tr q = true then 1 else 0) ≤ led y s0 tr q
theorem cnt_inl (q p : Pt) (st : List Fr) : cnt q (Sum.inl p :: st) = cnt q st + (if p = q then 1 else 0) := by
  unfold cnt
  rw [List.countP_cons]
  by_cases h : p = q <;> simp [h]
theorem cnt_inr (q : Pt) (a : Nat × Int) (st : List Fr) : cnt q (Sum.inr a :: st) = cnt q st := by
  unfold cnt
  rw [List.countP_cons]
  simp
theorem cnt_app (q : Pt) (l : List Pt) (st : List Fr) : cnt q (l.map Sum.inl ++ st) = l.count q + cnt q st := by
  induction l with
  | nil => simp
  | cons p l ih =>
    rw [List.map_cons, List.cons_append, cnt_inl, ih, List.count_cons]
    by_cases h : p = q <;> simp [h] <;> omega
theorem cnt_aft (y : Sy) (q p : Pt) (st : List Fr) (sl) : cnt q (aft y p st sl) = (y.outs p).count q + cnt q st := by
  unfold aft
  split
  · rw [cnt_app, cnt_inr]
  · rw [cnt_app]
theorem led_le {y : Sy} {J : Nat → Bool} {s0 : Pt} (hL : Lone y J s0) (tr : Pt → Bool) (q : Pt) (hq : J q.1 = false) : led y s0 tr q ≤ 1 := by
  unfold led
  by_cases h : q = s0
  · subst h
    rw [if_neg (fun ⟨p, _, hp⟩ => hL.start p hq hp), if_pos rfl]
    exact Nat.le_refl _
  · rw [if_neg h]
    split <;> omega
theorem In1.new {y : Sy} {J : Nat → Bool} {s0 : Pt} {p : Pt} {st : List Fr} {tr : Pt → Bool} (hL : Lone y J s0) (h : In1 y J s0 (Sum.inl p :: st) tr) (hp : J p.1 = false) : tr p = false := by
  have h1 := h p hp
  have h2 := led_le hL tr p hp
  rw [cnt_inl, if_pos rfl] at h1
  cases ht : tr p with
  | false => rfl
  | true => rw [ht] at h1; simp at h1; omega
theorem led_mono (y : Sy) (s0 : Pt) (tr : Pt → Bool) (p q : Pt) : led y s0 tr q ≤ led y s0 (mark tr p) q := by
  unfold led
  refine Nat.add_le_add_right ?_ _
  by_cases h : ∃ p, tr p = true ∧ q ∈ y.outs p
  · obtain ⟨p', h1, h2⟩ := h
    have hm : mark tr p p' = true := by
      unfold mark
      split
      · rfl
      · exact h1
    rw [if_pos ⟨p', h1, h2⟩, if_pos ⟨p', hm, h2⟩]
    exact Nat.le_refl _
  · rw [if_neg h]
    exact Nat.zero_le _
theorem In1.on {y : Sy} {J : Nat → Bool} {s0 : Pt} {p : Pt} {st : List Fr} {tr : Pt → Bool} (sl : Nat → Int) (hL : Lone y J s0) (h : In1 y J s0 (Sum.inl p :: st) tr) (hp : tr p = false) : In1 y J s0 (aft y p st sl) (mark tr p) := by
  intro q hq
  have h1 := h q hq
  rw [cnt_inl] at h1
  rw [cnt_aft]
  have e : (if mark tr p q = true then 1 else 0) = (if tr q = true then 1 else 0) + (if p = q then 1 else 0) := by
    unfold mark
    by_cases e : q = p
    · subst e
      rw [if_pos rfl, if_pos rfl, if_pos rfl, hp]
      rfl
    · rw [if_neg e, show (if p = q then 1 else 0) = 0 from if_neg (fun h => e h.symm)]
      omega
  rw [e]
  by_cases hm : q ∈ y.outs p
  · have h2 := hL.once q p hq
    have h3 : led y s0 tr q + 1 ≤ led y s0 (mark tr p) q := by
      have n1 : ¬ ∃ p', tr p' = true ∧ q ∈ y.outs p' := fun ⟨p', h4, h5⟩ => by
        have := hL.one q p p' hq hm h5
        subst this
        rw [hp] at h4
        cases h4
      have n2 : ∃ p', mark tr p p' = true ∧ q ∈ y.outs p' := ⟨p, by unfold mark; rw [if_pos rfl], hm⟩
      unfold led
      rw [if_neg n1, if_pos n2]
      omega
    omega
  · have h2 : (y.outs p).count q = 0 := List.count_eq_zero.2 hm
    have h3 := led_mono y s0 tr p q
    omega
theorem In1.drop {y : Sy} {J : Nat → Bool} {s0 : Pt} {f : Fr} {st : List Fr} {tr : Pt → Bool} (h : In1 y J s0 (f :: st) tr) : In1 y J s0 st tr := by
  intro q hq
  have h1 := h q hq
  have h2 : cnt q st ≤ cnt q (f :: st) := by
    unfold cnt
    rw [List.countP_cons]
    omega
  omega
theorem In1.start (y : Sy) (J : Nat → Bool) (s0 : Pt) : In1 y J s0 [Sum.inl s0] (fun _ => false) := by
  intro q hq
  rw [cnt_inl]
  unfold led cnt
  simp
  by_cases e : s0 = q
  · rw [if_pos e, if_pos e.symm]
    omega
  · rw [if_neg e]
    omega
/-- Marks at the joints alone are as good as marks at all points. -/
theorem run_joint {y : Sy} {J : Nat → Bool} {s0 : Pt} (hL : Lone y J s0) : ∀ f st tr sl, In1 y J s0 st tr → run y J f st tr sl = run y (fun _ => true) f st tr sl := by
  intro f
  induction f with
  | zero => intro st tr sl _; rfl
  | succ f ih =>
    intro st tr sl h
    match st with
    | [] => rfl
    | Sum.inr (k, v) :: st => exact ih _ _ _ h.drop
    | Sum.inl p :: st =>
      unfold run
      have e : (J p.1 && tr p) = (true && tr p) := by
        cases hJ : J p.1 with
        | true => rfl
        | false => rw [h.new hL hJ]; rfl
      rw [e]
      by_cases h1 : (true && tr p) = true
      · rw [if_pos h1, if_pos h1]
        exact ih _ _ _ h.drop
      · rw [if_neg h1, if_neg h1]
        by_cases h2 : y.win p = true
        · rw [if_pos h2, if_pos h2]
        · rw [if_neg h2, if_neg h2]
          have hp : tr p = false := by simpa using h1
          exact ih _ _ _ (h.on sl hL hp)
theorem Res.joint {y : Sy} {J : Nat → Bool} {s0 : Pt} (hL : Lone y J s0) {sl r} (h : Res y J [Sum.inl s0] (fun _ => false) sl r) : Res y (fun _ => true) [Sum.inl s0] (fun _ => false) sl r := by
  obtain ⟨f, hf⟩ := h
  exact ⟨f, by rw [← run_joint hL f _ _ _ (In1.start y J s0)]; exact hf⟩
end Go.Proofs.YtnpgkiidpeaapaaDoor
