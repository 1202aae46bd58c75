/- drained: what it takes out of a pile. -/
import Derived.Test.YtcgpjmpppajfdaaPc
namespace Go.Proofs.Ytcgpjmpppajfdaa
open Go.RowKit Go.Shelf

/-- got are the things that come out of the book B, one after another; behind the first of them late is put in, if more. -/
def Tr (K : It → Int) (more : Bool) (late : It) : Nat → List It → List Rk → Nat → List Rk → Nat → Prop
  | _, [], B, m, B', m' => B = B' ∧ m = m'
  | k, x :: r, B, m, B', m' => ∃ b, Fst K (B.map (·.1)) b ∧ lk (B.map (·.1)) b = x ∧ (if more = true ∧ k = 0 then Tr K more late (k + 1) r (B.eraseIdx b ++ [(late, (m : Int))]) (m + 1) B' m' else Tr K more late (k + 1) r (B.eraseIdx b) m B' m')
theorem Tr.snoc {K : It → Int} {more : Bool} {late : It} : ∀ {k : Nat} {l : List It} {B : List Rk} {m : Nat} {B' : List Rk} {m' b : Nat}, Tr K more late k l B m B' m' → Fst K (B'.map (·.1)) b → Tr K more late k (l ++ [lk (B'.map (·.1)) b]) B m (if more = true ∧ k + l.length = 0 then B'.eraseIdx b ++ [(late, (m' : Int))] else B'.eraseIdx b) (if more = true ∧ k + l.length = 0 then m' + 1 else m')
  | k, [], B, m, B', m', b, h, hb => by
    obtain ⟨rfl, rfl⟩ := h
    refine ⟨b, hb, rfl, ?_⟩
    by_cases hc : more = true ∧ k = 0
    · have hc2 : more = true ∧ k + ([] : List It).length = 0 := ⟨hc.1, by simp [hc.2]⟩
      rw [if_pos hc, if_pos hc2, if_pos hc2]
      exact ⟨rfl, rfl⟩
    · have hc2 : ¬ (more = true ∧ k + ([] : List It).length = 0) := fun h => hc ⟨h.1, by simpa using h.2⟩
      rw [if_neg hc, if_neg hc2, if_neg hc2]
      exact ⟨rfl, rfl⟩
  | k, x :: r, B, m, B', m', b, h, hb => by
    obtain ⟨b0, h1, h2, h3⟩ := h
    have hc2 : ¬ (more = true ∧ k + (x :: r).length = 0) := fun h => by have := h.2; simp at this
    have hc3 : ¬ (more = true ∧ k + 1 + r.length = 0) := fun h => by have := h.2; omega
    rw [if_neg hc2, if_neg hc2]
    refine ⟨b0, h1, h2, ?_⟩
    by_cases hc : more = true ∧ k = 0
    · rw [if_pos hc] at h3 ⊢
      have := Tr.snoc h3 hb
      rw [if_neg hc3, if_neg hc3] at this
      exact this
    · rw [if_neg hc] at h3 ⊢
      have := Tr.snoc h3 hb
      rw [if_neg hc3, if_neg hc3] at this
      exact this

theorem exists_fst (flat : Bool) (l : List It) (h : 0 < l.length) : ∃ b, Fst (Kf flat) l b := by
  rcases frs_spec (Kf flat) (lk l) l.length with ⟨h0, _⟩ | ⟨b, hb, _, h1, h2⟩
  · omega
  · exact ⟨b, fst_of flat l b hb h1 h2⟩
/-- The memory of a range of drained. -/
structure DM (w : World) (G Bp b bx : Nat) (lv v0 : Value) (more : Bool) (most stop : Int) (late : It) (W : World) (l : List It) (m n : Nat) (v vl : Value) (f : Nat → Rk) : Prop where
  pl : Pl W b bx lv v n f m
  bp : Boxed W Bp 28 (.pointer (some ⟨b, 0, none⟩))
  c0 : Boxed W G 28 (.pointer (some ⟨b, 0, none⟩))
  c1 : Boxed W (G + 1) 3 (.int .i64 most)
  c2 : Boxed W (G + 2) 3 (.int .i64 stop)
  c3 : Boxed W (G + 3) 4 (.bool more)
  c4 : W.heap[G + 4]? = some (iX late)
  c5 : Boxed W (G + 5) 22 vl
  row : Ir W (G + 6) vl l.length (lk l)
  hv : ∀ g, v.ownBlock = some g → v0.ownBlock = some g ∨ G + 6 ≤ g
  kp : Kp (fun k => k = b ∨ v0.ownBlock = some k) w W
  lb : b < G
  lx : bx < G
  nb : Bp ≠ b ∧ Bp < G ∧ v0.ownBlock ≠ some Bp
  l0 : ∀ g, v0.ownBlock = some g → g < G
  hG : w.heap.size = G
section
variable {w : World} {G Bp b bx : Nat} {lv v0 : Value} {more : Bool} {most stop : Int} {late : It}
theorem DM.turned {X Y : World} {l : List It} {m n : Nat} {v vl : Value} {f : Nat → Rk} (h : DM w G Bp b bx lv v0 more most stop late X l m n v vl f) (row : Option Nat) (hg : X.grownBy Y row) (hr : ∀ r, row = some r → G + 6 ≤ r ∧ ∃ o : Obj, X.heap[r]? = some o ∧ o.isCells = false) : DM w G Bp b bx lv v0 more most stop late Y l m n v vl f := by
  have t : Turned X Y := ⟨row, hg, fun r e => (hr r e).2⟩
  have k : Kp (fun j => row = some j) X Y := (Kp.refl _ X).grown hg (fun j e _ => e)
  exact ⟨h.pl.turned t, box_turned h.bp t, box_turned h.c0 t, box_turned h.c1 t, box_turned h.c2 t, box_turned h.c3 t, heap_turned h.c4 rfl t, box_turned h.c5 t, row_turned h.row t, h.hv, h.kp.trans' k (fun j hj e => by have := (hr j e).1; have := h.hG; omega), h.lb, h.lx, h.nb, h.l0, h.hG⟩
theorem DM.below {X Y : World} {l : List It} {m n : Nat} {v vl : Value} {f : Nat → Rk} (h : DM w G Bp b bx lv v0 more most stop late X l m n v vl f) (k' : Below X.heap.size X Y) : DM w G Bp b bx lv v0 more most stop late Y l m n v vl f := by
  have k : Kp (fun _ => False) X Y := Kp.of k'
  exact ⟨h.pl.below k', box_kp h.bp k id, box_kp h.c0 k id, box_kp h.c1 k id, box_kp h.c2 k id, box_kp h.c3 k id, (k.block _ (Array.getElem?_eq_some_iff.1 h.c4).1 id).trans h.c4, box_kp h.c5 k id, h.row.below k', h.hv, h.kp.trans' k (fun _ _ e => e.elim), h.lb, h.lx, h.nb, h.l0, h.hG⟩
/-- A step of the pile. -/
theorem DM.pile {X Y : World} {l : List It} {m n m' n' : Nat} {v v' vl : Value} {f f' : Nat → Rk} {M : Nat → Prop} (h : DM w G Bp b bx lv v0 more most stop late X l m n v vl f) (k : Kp M X Y) (hM : ∀ j, M j → j = b ∨ v.ownBlock = some j) (p : Pl Y b bx lv v' n' f' m') (hv : ∀ g, v'.ownBlock = some g → v.ownBlock = some g ∨ X.heap.size ≤ g) : DM w G Bp b bx lv v0 more most stop late Y l m' n' v' vl f' ∧ ∀ B, KeepsFrom B X Y := by
  have nr : ∀ j, M j → j = b ∨ (v.ownBlock = some j ∧ (v0.ownBlock = some j ∨ G + 6 ≤ j)) := fun j e => (hM j e).imp id (fun e => ⟨e, h.hv j e⟩)
  have lb := h.lb
  have tag : ∀ {B t : Nat} {u : Value}, Boxed X B t u → 78 ≠ t → B ≠ b → ¬ M B := fun bx ht hb e => by
    rcases hM _ e with e | e
    · exact hb e
    · exact row_tag h.pl.hp.row bx ht e rfl
  have hsz : G + 5 < X.heap.size := h.c5.lt
  refine ⟨⟨p, box_kp h.bp k (tag h.bp (by decide) h.nb.1), box_kp h.c0 k (tag h.c0 (by decide) (by omega)), box_kp h.c1 k (tag h.c1 (by decide) (by omega)), box_kp h.c2 k (tag h.c2 (by decide) (by omega)), box_kp h.c3 k (tag h.c3 (by decide) (by omega)), (k.block _ (Array.getElem?_eq_some_iff.1 h.c4).1 (fun e => ?_)).trans h.c4, box_kp h.c5 k (tag h.c5 (by decide) (by omega)), k.row h.row (fun j e x => ?_), fun g e => ?_, h.kp.trans' k (fun j hj e => ?_), h.lb, h.lx, h.nb, h.l0, h.hG⟩, fun B => keeps_kp k fun j o e ho => ?_⟩
  · rcases nr _ e with e | ⟨_, e⟩
    · omega
    · rcases e with e | e
      · have := h.l0 _ e; omega
      · omega
  · rcases hM _ x with x | x
    · have := (World.ownsRow.lt h.row j e).1; omega
    · exact row_tags h.row h.pl.hp.row (by decide) e x
  · rcases hv g e with e | e
    · exact h.hv g e
    · exact .inr (by omega)
  · rcases nr _ e with e | ⟨_, e⟩
    · exact .inl e
    · rcases e with e | e
      · exact .inr e
      · have := h.hG; omega
  · cases hc : o.isCells with
    | true => rfl
    | false =>
      rcases hM j e with e | e
      · exact absurd ⟨o, by rw [← e]; exact ho, hc⟩ (not_cells h.pl.cm)
      · exact absurd ⟨o, ho, hc⟩ (not_row h.pl.hp.row e)
/-- A thing put behind those that were taken. -/
theorem DM.app {W : World} {l : List It} {m n : Nat} {v vl : Value} {f : Nat → Rk} (h : DM w G Bp b bx lv v0 more most stop late W l m n v vl f) (x : It) (hn : (l.length + 1) * 16 ≤ 140737488355328) :
    ∃ g c w', (Builtin.append_ #[22, 22] 22 #[vl, .slice (some ⟨W.heap.size, 0, none⟩) 1 1]).run Try.prog (W.alloc (iX x)) = .ok (.slice (some ⟨g, 0, none⟩) (l.length + 1) c) w' ∧ Boxed w' (G + 5) 22 vl ∧
      DM w G Bp b bx lv v0 more most stop late (w'.setCell ⟨G + 5, 0, none⟩ (.slice (some ⟨g, 0, none⟩) (l.length + 1) c)) (l ++ [x]) m n v (.slice (some ⟨g, 0, none⟩) (l.length + 1) c) f ∧ (∀ B, KeepsFrom B W (w'.setCell ⟨G + 5, 0, none⟩ (.slice (some ⟨g, 0, none⟩) (l.length + 1) c))) := by
  have hsz : G + 5 < W.heap.size := h.c5.lt
  obtain ⟨g, c, w', r, o', k, hg⟩ := append_i W (G + 6) vl l.length (lk l) x (by omega) hn h.row
  have nb : ∀ B, vl.ownBlock = some B → G + 6 ≤ B := fun B e => (World.ownsRow.lt h.row B e).1
  have lb := h.lb
  have lx := h.lx
  have lp := h.nb.2.1
  have n1 : ∀ B, B < G + 6 → ¬ vl.ownBlock = some B := fun B hB e => by have := nb _ e; omega
  have c5' := box_kp h.c5 k (n1 _ (by omega))
  have pl' := h.pl.kp k (n1 _ (by omega)) (n1 _ (by omega)) (fun j e x => row_tags h.pl.hp.row h.row (by decide) e x)
  have k2 : Kp (· = G + 5) w' (w'.setCell ⟨G + 5, 0, none⟩ (.slice (some ⟨g, 0, none⟩) (l.length + 1) c)) := (Kp.refl (· = G + 5) w').setCell (p := ⟨G + 5, 0, none⟩) rfl _
  have hl : (l ++ [x]).length = l.length + 1 := by simp
  have bx2 : ∀ {B t : Nat} {u : Value}, Boxed W B t u → B < G + 5 → Boxed (w'.setCell ⟨G + 5, 0, none⟩ (.slice (some ⟨g, 0, none⟩) (l.length + 1) c)) B t u := fun hb hB => box_kp (box_kp hb k (n1 _ (by omega))) k2 (by omega)
  refine ⟨g, c, w', r, c5', ⟨pl'.kp k2 (fun (e : b = G + 5) => by omega) (fun (e : bx = G + 5) => by omega) (fun j e (x : j = G + 5) => row_tag pl'.hp.row c5' (by decide) e x), bx2 h.bp (by omega), bx2 h.c0 (by omega), bx2 h.c1 (by omega), bx2 h.c2 (by omega), bx2 h.c3 (by omega), ?_, c5'.set _, ?_, h.hv, ?_, h.lb, h.lx, h.nb, h.l0, h.hG⟩, fun B => ?_⟩
  · refine (k2.block _ ?_ (by omega)).trans ((k.block _ (Array.getElem?_eq_some_iff.1 h.c4).1 (n1 _ (by omega))).trans h.c4)
    have := k.size
    omega
  · rw [hl]
    exact Ir.congr (k2.row o' (fun j e (x : j = G + 5) => row_tag o' c5' (by decide) e x)) (lk_push l x)
  · refine (h.kp.trans' k (fun j hj e => ?_)).trans' k2 (fun j hj (e : j = G + 5) => ?_)
    · have := nb _ e; have := h.hG; omega
    · have := h.hG; omega
  · refine (keeps_kp k fun j o e ho => ?_).trans ((KeepsOthers.setCell _ _ _).from _)
    cases hc : o.isCells with
    | true => rfl
    | false => exact absurd ⟨o, ho, hc⟩ (not_row h.row e)
end
/-- The length of the list that the box at B holds. -/
def lenB (B : Nat) (W : World) : Nat := match W.cell? ⟨B, 0, none⟩ with | some (.slice _ n _) => n | _ => 0
theorem lenB_put (B : Nat) (W : World) (l : Nat) (o o' : Obj) (h : W.heap[l]? = some o) (h1 : o.isCells = false) (h2 : o'.isCells = false) : lenB B (W.putObj l o') = lenB B W := by
  have hl : l < W.heap.size := (Array.getElem?_eq_some_iff.1 h).1
  unfold lenB
  by_cases hb : B = l
  · subst hb
    rw [Obj.cells_none h h1, Obj.cells_none (World.putObj_heap_same hl) h2]
  · rw [World.cell?_of_block (w := W) (a := ⟨B, 0, none⟩) (World.putObj_heap_other (by simpa using hb))]
end Go.Proofs.Ytcgpjmpppajfdaa
