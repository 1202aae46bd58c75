/- apart's four rows and their colours. -/
import Derived.Test.YtnpgkiidpeaapaaDoorApA
namespace Go.Proofs.YtnpgkiidpeaapaaDoor
open Go.RowKit Go.Lib

def RdC (col : Nat → Nat) (i : Nat) (W : World) (v : Value) (xs : List Int) : Prop := Rd W v xs ∧ (0 < xs.length → Cl col i v)
def OwnC (B : Nat) (col : Nat → Nat) (i : Nat) (W : World) (v : Value) (xs : List Int) : Prop := Own B W v xs ∧ Cl col i v
def ext (col : Nat → Nat) (h k : Nat) (b : Nat) : Nat := if b < h then col b else k
theorem OwnC.rd {B : Nat} {col : Nat → Nat} {i : Nat} {W : World} {v : Value} {xs : List Int} (h : OwnC B col i W v xs) : RdC col i W v xs := ⟨h.1.rd, fun _ => h.2⟩
theorem RdC.stay {col : Nat → Nat} {i k : Nat} {W W' : World} {v : Value} {xs : List Int} (h : RdC col i W v xs) (hne : i ≠ k) (hg : Chg (fun b => col b = k) W W') : RdC col i W' v xs := by
  rcases Nat.eq_zero_or_pos xs.length with h0 | hp
  · have hx : xs = [] := List.eq_nil_of_length_eq_zero h0
    subst hx
    rcases h.1 with h1 | ⟨_, _, _, h1, _⟩
    · exact ⟨.inl h1, h.2⟩
    · simp at h1
  · exact ⟨h.1.stay (h.2 hp) hne hg, h.2⟩
theorem OwnC.stay {B : Nat} {col : Nat → Nat} {i k : Nat} {W W' : World} {v : Value} {xs : List Int} (h : OwnC B col i W v xs) (hne : i ≠ k) (hg : Chg (fun b => col b = k) W W') : OwnC B col i W' v xs := ⟨h.1.stay h.2 hne hg, h.2⟩
theorem RdC.ext {col : Nat → Nat} {i k h : Nat} {W W0 : World} {v : Value} {xs : List Int} (r : RdC col i W v xs) (r0 : Rd W0 v xs) (hh : W0.heap.size ≤ h) : RdC (ext col h k) i W v xs :=
  ⟨r.1, fun hp g hg => by
    obtain ⟨g2, c, rfl, hlt, _⟩ := r0.at hp
    obtain rfl : g2 = g := by simpa [Value.ownBlock] using hg
    unfold Go.Proofs.YtnpgkiidpeaapaaDoor.ext
    rw [if_pos (by omega)]
    exact r.2 hp g2 hg⟩
theorem OwnC.ext {B : Nat} {col : Nat → Nat} {i k h : Nat} {W W0 : World} {v : Value} {xs ys : List Int} (r : OwnC B col i W v xs) (r0 : Own B W0 v ys) (hh : W0.heap.size ≤ h) : OwnC B (ext col h k) i W v xs :=
  ⟨r.1, fun g hg => by
    have := (r0.blk g hg).2
    unfold Go.Proofs.YtnpgkiidpeaapaaDoor.ext
    rw [if_pos (by omega)]
    exact r.2 g hg⟩
theorem cell_stay {S : Nat → Prop} {W W' : World} {b j : Nat} {v : Value} (h : W.cell? ⟨b, j, none⟩ = some v) (hs : ¬ S b) (hg : Chg S W W') : W'.cell? ⟨b, j, none⟩ = some v := by
  rw [World.cell?_of_block (w := W) (w' := W') (a := ⟨b, j, none⟩) (hg.block b (lt_of_cell h) hs)]
  exact h

def mk1 (N : Nat → Nat) (i : Nat) : List Int := List.replicate (N i) (1000 + (i : Int))
def mk2 (N : Nat → Nat) (i : Nat) : List Int := mk1 N i ++ List.replicate 16 (200000 + (i : Int))
def mk3 (N : Nat → Nat) (i : Nat) : List Int := mk2 N i ++ List.replicate 300 (300000 + (i : Int))
theorem mk1_len (N : Nat → Nat) (i : Nat) : (mk1 N i).length = N i := by simp [mk1]
theorem mk2_len (N : Nat → Nat) (i : Nat) : (mk2 N i).length = N i + 16 := by simp [mk2, mk1_len]
theorem mk3_len (N : Nat → Nat) (i : Nat) : (mk3 N i).length = N i + 316 := by unfold mk3; rw [List.length_append, mk2_len, List.length_replicate]

/-- What never turns in apart: the list of lists; and where colours lie. -/
structure St0 (B BL : Nat) (V : Nat → Value) (col : Nat → Nat) (W : World) : Prop where
  cells : ∀ i, i < 4 → W.cell? ⟨BL, i, none⟩ = some (V i)
  cbl : col BL = 4
  base : ∀ b, col b < 7 → B ≤ b
  size : B ≤ W.heap.size
theorem St0.lt {B BL : Nat} {V : Nat → Value} {col : Nat → Nat} {W : World} (h : St0 B BL V col W) : BL < W.heap.size := lt_of_cell (h.cells 0 (by omega))
theorem St0.stay {B BL : Nat} {V : Nat → Value} {col : Nat → Nat} {W W' : World} {k : Nat} (h : St0 B BL V col W) (hk : k ≠ 4) (hg : Chg (fun b => col b = k) W W') : St0 B BL V col W' :=
  ⟨fun i hi => cell_stay (h.cells i hi) (fun e => hk (by rw [← e]; exact h.cbl)) hg, h.cbl, h.base, Nat.le_trans h.size hg.size⟩
theorem St0.ext {B BL : Nat} {V : Nat → Value} {col : Nat → Nat} {W W0 : World} {k : Nat} (h : St0 B BL V col W) (h0 : St0 B BL V col W0) : St0 B BL V (ext col W0.heap.size k) W :=
  ⟨h.cells, by unfold Go.Proofs.YtnpgkiidpeaapaaDoor.ext; rw [if_pos h0.lt]; exact h.cbl, fun b hb => by
    unfold Go.Proofs.YtnpgkiidpeaapaaDoor.ext at hb
    split at hb
    · exact h.base b hb
    · have := h0.size; omega, h.size⟩
theorem St0.below {B BL : Nat} {V : Nat → Value} {col : Nat → Nat} {W W' : World} {k : Nat} (h : St0 B BL V col W) (hk : k < 7) (hg : Chg (fun b => col b = k) W W') : Below B W W' :=
  hg.below h.size (fun b hb e => by have := h.base b (by rw [e]; exact hk); omega)

/-- A list written over with marks up to a place. -/
def ov1 (m : Int) (X : List Int) (j : Nat) : List Int := List.replicate j m ++ X.drop j
theorem ov1_len (m : Int) (X : List Int) (j : Nat) (h : j ≤ X.length) : (ov1 m X j).length = X.length := by simp [ov1]; omega
theorem ov1_set (m : Int) (X : List Int) (j : Nat) (h : j < X.length) : (icells (ov1 m X j)).set j (.int .i64 m) = icells (ov1 m X (j + 1)) := by
  have e1 : icells (ov1 m X j) = icells (List.replicate j m) ++ .int .i64 X[j] :: icells (X.drop (j + 1)) := by
    unfold ov1
    rw [List.drop_eq_getElem_cons h, icells_app]
    rfl
  have e2 : icells (ov1 m X (j + 1)) = icells (List.replicate j m) ++ .int .i64 m :: icells (X.drop (j + 1)) := by
    unfold ov1
    rw [List.replicate_succ', List.append_assoc, icells_app]
    rfl
  rw [e1, e2]
  have := set_mid2 (icells (List.replicate j m)) (icells (X.drop (j + 1))) (.int .i64 X[j]) (.int .i64 m)
  rw [show (icells (List.replicate j m)).length = j by simp [icells]] at this
  exact this
theorem ov1_end (m : Int) (X : List Int) : ov1 m X X.length = List.replicate X.length m := by simp [ov1]
theorem ov1_zero (m : Int) (X : List Int) : ov1 m X 0 = X := by simp [ov1]

/-- The four rows between two rounds of the first loop. -/
def P1 (B : Nat) (V : Nat → Value) (col : Nat → Nat) (X : Nat → List Int) (p : Nat) (W : World) : Prop := ∀ i, i < 4 → OwnC B col i W (V i) (if i < p then mk1 (fun i => (X i).length) i else X i)
theorem P1.step {B : Nat} {V : Nat → Value} {col : Nat → Nat} {X : Nat → List Int} {p : Nat} {W W' : World} (h : P1 B V col X p W) (hg : Chg (fun b => col b = p) W W') (ho : OwnC B col p W' (V p) (mk1 (fun i => (X i).length) p)) : P1 B V col X (p + 1) W' := fun i hi => by
  by_cases e : i = p
  · subst e
    rw [if_pos (by omega)]
    exact ho
  · have := (h i hi).stay e hg
    by_cases hl : i < p
    · rw [if_pos hl] at this
      rw [if_pos (by omega)]
      exact this
    · rw [if_neg hl] at this
      rw [if_neg (by omega)]
      exact this

theorem Rd.grown {W W' : World} {v : Value} {xs : List Int} (h : Rd W v xs) (hg : W.grownBy W' none) : Rd W' v xs := by
  rcases h with h0 | ⟨g, c, rfl, hp, h1, h2⟩
  · exact .inl h0
  · refine .inr ⟨g, c, rfl, hp, Nat.lt_of_lt_of_le h1 hg.size, fun j hj => ?_⟩
    rw [World.cell?_of_block (w := W) (w' := W') (a := ⟨g, j, none⟩) (hg.block g h1 (by simp))]
    exact h2 j hj

/-- A row of four slices, of a colour. -/
def Hrow (B : Nat) (col : Nat → Nat) (H c : Nat) (W : World) (f : Nat → Value) : Prop := W.ownsRow B 31 1 (.slice (some ⟨H, 0, none⟩) 4 4) 4 ((List.range 4).map f) ∧ col H = c
theorem Hrow.lt {B : Nat} {col : Nat → Nat} {H c : Nat} {W : World} {f : Nat → Value} (h : Hrow B col H c W f) : B ≤ H ∧ H < W.heap.size := h.1.lt H rfl
theorem Hrow.stay {B : Nat} {col : Nat → Nat} {H c k : Nat} {W W' : World} {f : Nat → Value} (h : Hrow B col H c W f) (hk : k ≠ c) (hg : Chg (fun b => col b = k) W W') : Hrow B col H c W' f :=
  ⟨row_stay h.1 (fun g e x => hk (by obtain rfl : H = g := by simpa [Value.ownBlock] using e
                                     rw [← x]; exact h.2)) hg, h.2⟩
theorem Hrow.ext {B : Nat} {col : Nat → Nat} {H c k h : Nat} {W W0 : World} {f f0 : Nat → Value} (r : Hrow B col H c W f) (r0 : Hrow B col H c W0 f0) (hh : W0.heap.size ≤ h) : Hrow B (ext col h k) H c W f :=
  ⟨r.1, by unfold Go.Proofs.YtnpgkiidpeaapaaDoor.ext; rw [if_pos (by have := r0.lt; omega)]; exact r.2⟩
theorem Hrow.cell {B : Nat} {col : Nat → Nat} {H c : Nat} {W : World} {f : Nat → Value} (h : Hrow B col H c W f) (i : Nat) (hi : i < 4) : W.cell? ⟨H, i, none⟩ = some (f i) := by
  have := h.1.cells (g := H) rfl i (f i) (by simp [hi])
  rw [Go.WideShapes.add_plain, Nat.zero_add] at this
  exact this
theorem range_set (f : Nat → Value) (p : Nat) (v : Value) (hp : p < 4) : ((List.range 4).map f).set p v = (List.range 4).map (fun i => if i = p then v else f i) := by
  match p, hp with
  | 0, _ => rfl
  | 1, _ => rfl
  | 2, _ => rfl
  | 3, _ => rfl
theorem Hrow.put {B : Nat} {col : Nat → Nat} {H c : Nat} {W : World} {f : Nat → Value} (h : Hrow B col H c W f) (p : Nat) (hp : p < 4) (v : Value) :
    Hrow B col H c (W.setCell ⟨H, p, none⟩ v) (fun i => if i = p then v else f i) ∧ Chg (fun b => col b = c) W (W.setCell ⟨H, p, none⟩ v) := by
  have := h.1.stored p v
  rw [range_set f p v hp] at this
  exact ⟨⟨this.1, h.2⟩, (Chg.refl _ W).then this.2 (fun g e _ => by cases e; exact h.2)⟩

/-- The four rows between two rounds of the second loop. -/
def P2 (B : Nat) (V : Nat → Value) (col : Nat → Nat) (N : Nat → Nat) (G : Nat → Value) (p : Nat) (W : World) : Prop := ∀ i, i < 4 → (i < p → RdC col i W (V i) (mk1 N i) ∧ OwnC B col i W (G i) (mk2 N i)) ∧ (¬ i < p → OwnC B col i W (V i) (mk1 N i))
theorem P2.stay {B : Nat} {V : Nat → Value} {col : Nat → Nat} {N : Nat → Nat} {G : Nat → Value} {p k : Nat} {W W' : World} (h : P2 B V col N G p W) (hk : 4 ≤ k) (hg : Chg (fun b => col b = k) W W') : P2 B V col N G p W' := fun i hi =>
  ⟨fun x => ⟨((h i hi).1 x).1.stay (by omega) hg, ((h i hi).1 x).2.stay (by omega) hg⟩, fun x => ((h i hi).2 x).stay (by omega) hg⟩
theorem P2.step {B : Nat} {V : Nat → Value} {col : Nat → Nat} {N : Nat → Nat} {G : Nat → Value} {p : Nat} {W W' : World} {gv : Value} (h : P2 B V col N G p W) (hp : p < 4) (hg : Chg (fun b => col b = p) W W')
    (ho : Own B W' gv (mk2 N p)) (hr : Rd W' (V p) (mk1 N p)) (hc : ∀ g, gv.ownBlock = some g → g < W.heap.size → col g = p) : P2 B V (ext col W.heap.size p) N (fun i => if i = p then gv else G i) (p + 1) W' := fun i hi => by
  by_cases e : i = p
  · subst e
    refine ⟨fun _ => ⟨⟨hr, fun hpos g hgb => ?_⟩, ?_⟩, fun x => absurd (by omega) x⟩
    · have hw := (h i hi).2 (by omega)
      unfold Go.Proofs.YtnpgkiidpeaapaaDoor.ext
      rw [if_pos (hw.1.blk g hgb).2]
      exact hw.2 g hgb
    · simp only [if_true]
      refine ⟨ho, fun g hgb => ?_⟩
      unfold Go.Proofs.YtnpgkiidpeaapaaDoor.ext
      split
      · exact hc g hgb (by assumption)
      · rfl
  · refine ⟨fun x => ?_, fun x => ?_⟩
    · obtain ⟨r1, r2⟩ := (h i hi).1 (by omega)
      simp only [if_neg e]
      exact ⟨(r1.stay e hg).ext r1.1 (Nat.le_refl _), (r2.stay e hg).ext r2.1 (Nat.le_refl _)⟩
    · have r := (h i hi).2 (by omega)
      exact (r.stay e hg).ext r.1 (Nat.le_refl _)
/-- One mark put behind a row, with what is kept. -/
theorem grow_one {B p : Nat} {col : Nat → Nat} {W0 W : World} {v u : Value} {xs zs ts : List Int} {m : Int} (hB : B ≤ W0.heap.size) (hn : xs.length ≤ 4294967296) (ho : Own B W v xs) (hr : Rd W u zs) (hpre : xs = zs ++ ts) (hc : Chg (fun b => col b = p) W0 W) (hcl : ∀ g, v.ownBlock = some g → g < W0.heap.size → col g = p) :
    ∃ v' w', (Builtin.append_ #[31, 31] 31 #[v, .slice (some ⟨W.heap.size, 0, none⟩) 1 1]).run Tryd.prog (W.alloc (.cells #[.int .i64 m] 3)) = .ok v' w' ∧ Own B w' v' (xs ++ [m]) ∧ Rd w' u zs ∧ Chg (fun b => col b = p) W0 w' ∧ (∀ g, v'.ownBlock = some g → g < W0.heap.size → col g = p) := by
  have ga := World.grownBy_alloc W (.cells #[.int .i64 m] 3) none
  obtain ⟨v', w', r, o', g', hb, hk⟩ := app_keep (W.alloc (.cells #[.int .i64 m] 3)) B v xs [m] ⟨W.heap.size, 0, none⟩ 1 (Nat.le_trans hB (Nat.le_trans hc.size ga.size)) (by simp; omega) (World.ownsRow.alloc ho _) (fun j x hj => by
    match j, hj with
    | 0, hj =>
      have hx : x = .int .i64 m := by simpa [icells] using hj.symm
      subst hx
      rw [Go.WideShapes.add_plain]
      unfold World.cell?
      rw [show (W.alloc (.cells #[.int .i64 m] 3)).heap[W.heap.size]? = some (.cells #[.int .i64 m] 3) from heap_alloc_new W _]
      simp) (by simp)
  refine ⟨v', w', r, o', hk u zs (hr.grown ga) (fun _ _ _ => ⟨ts, hpre⟩), (hc.then ga (fun g e => by cases e)).then g' hcl, fun g hg hl => ?_⟩
  rcases hb g hg with h1 | h1
  · exact hcl g h1 hl
  · have := hc.size
    simp at h1
    omega

theorem Chg.weak {S : Nat → Prop} {W W' : World} (h : Chg (fun _ => False) W W') : Chg S W W' := ⟨h.os, h.tape, h.output, h.size, fun b hb _ => h.block b hb id⟩
theorem Rd.stay0 {W W' : World} {v : Value} {xs : List Int} (h : Rd W v xs) (hg : Chg (fun _ => False) W W') : Rd W' v xs := by
  rcases h with h0 | ⟨g, c, rfl, hp, h1, h2⟩
  · exact .inl h0
  · refine .inr ⟨g, c, rfl, hp, Nat.lt_of_lt_of_le h1 hg.size, fun j hj => ?_⟩
    rw [World.cell?_of_block (w := W) (w' := W') (a := ⟨g, j, none⟩) (hg.block g h1 id)]
    exact h2 j hj
theorem upto_put (G : Nat → Value) (p : Nat) (v : Value) : (fun i => if i = p then v else (if i < p then G i else .slice none 0 0)) = (fun i => if i < p + 1 then (if i = p then v else G i) else .slice none 0 0) := by
  funext i
  by_cases e : i = p
  · rw [if_pos e, if_pos (by omega), if_pos e]
  · rw [if_neg e]
    by_cases hl : i < p
    · rw [if_pos hl, if_pos (by omega), if_neg e]
    · rw [if_neg hl, if_neg (by omega)]

/-- The four rows between two rounds of the third loop. -/
def P3 (B : Nat) (V : Nat → Value) (col : Nat → Nat) (N : Nat → Nat) (G M : Nat → Value) (p : Nat) (W : World) : Prop := ∀ i, i < 4 → RdC col i W (V i) (mk1 N i) ∧ (i < p → RdC col i W (G i) (mk2 N i) ∧ OwnC B col i W (M i) (mk3 N i)) ∧ (¬ i < p → OwnC B col i W (G i) (mk2 N i))
theorem P3.stay {B : Nat} {V : Nat → Value} {col : Nat → Nat} {N : Nat → Nat} {G M : Nat → Value} {p k : Nat} {W W' : World} (h : P3 B V col N G M p W) (hk : 4 ≤ k) (hg : Chg (fun b => col b = k) W W') : P3 B V col N G M p W' := fun i hi =>
  ⟨(h i hi).1.stay (by omega) hg, fun x => ⟨((h i hi).2.1 x).1.stay (by omega) hg, ((h i hi).2.1 x).2.stay (by omega) hg⟩, fun x => ((h i hi).2.2 x).stay (by omega) hg⟩
theorem P2.next {B : Nat} {V : Nat → Value} {col : Nat → Nat} {N : Nat → Nat} {G : Nat → Value} {W W' : World} (h : P2 B V col N G 4 W) (hg : W.grownBy W' none) (M : Nat → Value) : P3 B V (ext col W.heap.size 6) N G M 0 W' := fun i hi => by
  obtain ⟨r1, r2⟩ := (h i hi).1 hi
  have cg : Chg (fun b => col b = 9) W W' := (Chg.refl _ W).then hg (fun _ e => by cases e)
  exact ⟨(r1.stay (by omega) cg).ext r1.1 (Nat.le_refl _), fun x => absurd x (by omega), fun _ => (r2.stay (by omega) cg).ext r2.1 (Nat.le_refl _)⟩
theorem P3.step {B : Nat} {V : Nat → Value} {col : Nat → Nat} {N : Nat → Nat} {G M : Nat → Value} {p : Nat} {W W' : World} {mv : Value} (h : P3 B V col N G M p W) (hp : p < 4) (hg : Chg (fun b => col b = p) W W')
    (ho : Own B W' mv (mk3 N p)) (hr : Rd W' (V p) (mk1 N p)) (hr2 : Rd W' (G p) (mk2 N p)) (hc : ∀ g, mv.ownBlock = some g → g < W.heap.size → col g = p) : P3 B V (ext col W.heap.size p) N G (fun i => if i = p then mv else M i) (p + 1) W' := fun i hi => by
  by_cases e : i = p
  · subst e
    obtain ⟨r1, _, r3⟩ := h i hi
    have r3' := r3 (by omega)
    have x1 : RdC col i W' (V i) (mk1 N i) := ⟨hr, r1.2⟩
    have x2 : RdC col i W' (G i) (mk2 N i) := ⟨hr2, fun _ => r3'.2⟩
    refine ⟨x1.ext r1.1 (Nat.le_refl _), fun _ => ⟨x2.ext r3'.1.rd (Nat.le_refl _), ?_⟩, fun x => absurd (by omega) x⟩
    simp only [if_true]
    refine ⟨ho, fun g hgb => ?_⟩
    unfold Go.Proofs.YtnpgkiidpeaapaaDoor.ext
    split
    · exact hc g hgb (by assumption)
    · rfl
  · obtain ⟨r1, r2, r3⟩ := h i hi
    refine ⟨(r1.stay e hg).ext r1.1 (Nat.le_refl _), fun x => ?_, fun x => ?_⟩
    · obtain ⟨y1, y2⟩ := r2 (by omega)
      simp only [if_neg e]
      exact ⟨(y1.stay e hg).ext y1.1 (Nat.le_refl _), (y2.stay e hg).ext y2.1 (Nat.le_refl _)⟩
    · have y := r3 (by omega)
      exact (y.stay e hg).ext y.1 (Nat.le_refl _)
/-- Many put behind a row, with what is kept. -/
theorem grow_many {B p T : Nat} {col : Nat → Nat} {W0 W : World} {v u1 u2 : Value} {xs ys z1 z2 t1 t2 : List Int} {c : Nat} (hB : B ≤ W0.heap.size) (hn : xs.length + ys.length ≤ 4294967296) (ho : Own B W v xs) (hy : ∀ j, j < ys.length → W.cell? ⟨T, j, none⟩ = some (.int .i64 (ys.getD j 0))) (hyp : 0 < ys.length)
    (hr1 : Rd W u1 z1) (hp1 : xs = z1 ++ t1) (hr2 : Rd W u2 z2) (hp2 : xs = z2 ++ t2) (hc : Chg (fun b => col b = p) W0 W) (hcl : ∀ g, v.ownBlock = some g → g < W0.heap.size → col g = p) :
    ∃ v' w', (Builtin.append_ #[31, 31] 31 #[v, .slice (some ⟨T, 0, none⟩) ys.length c]).run Tryd.prog W = .ok v' w' ∧ Own B w' v' (xs ++ ys) ∧ Rd w' u1 z1 ∧ Rd w' u2 z2 ∧ Chg (fun b => col b = p) W0 w' ∧ (∀ g, v'.ownBlock = some g → g < W0.heap.size → col g = p) := by
  obtain ⟨v', w', r, o', g', hb, hk⟩ := app_keep W B v xs ys ⟨T, 0, none⟩ c (Nat.le_trans hB hc.size) (by omega) ho (fun j x hj => by
    have hjl : j < ys.length := by have := (List.getElem?_eq_some_iff.1 hj).1; simpa [icells] using this
    rw [Go.WideShapes.add_plain, Nat.zero_add, hy j hjl]
    simp only [icells, List.getElem?_map, List.getElem?_eq_getElem hjl, Option.map_some, Option.some.injEq] at hj
    rw [← hj]
    simp [List.getD, hjl]) hyp
  refine ⟨v', w', r, o', hk u1 z1 hr1 (fun _ _ _ => ⟨t1, hp1⟩), hk u2 z2 hr2 (fun _ _ _ => ⟨t2, hp2⟩), hc.then g' hcl, fun g hg hl => ?_⟩
  rcases hb g hg with h1 | h1
  · exact hcl g h1 hl
  · have := hc.size
    omega
end Go.Proofs.YtnpgkiidpeaapaaDoor
