/- Sorted: the walk. -/
import Derived.Test.YtcgpjmpppajfdaaSa
import Derived.Test.YtcgpjmpppajfdaaNa
namespace Go.Proofs.Ytcgpjmpppajfdaa
open Go.RowKit Go.Shelf

attribute [local go_sem] Oper.semAt_some

theorem wpIn_append_run {F : Fence} {n : Nat} {P : Program} {w w' : World} {ops : Array Oper} {rest : List Oper} {o : Oper} {a : Act} {Q : Exit → Act → World → Prop} {v' : Value}
    (hg : o.guard = none) (s x : Operand) (t tx : TypeId) (hop : o.op = Op.call { callee := Callee.builtin Builtin.append, args := #[s, x], argTypes := #[t, tx] }) (vs vx : Value) (hs : a.eval s = vs) (hx : a.eval x = vx)
    (hr : (Builtin.append_ #[t, tx] o.type #[vs, vx]).run P w = .ok v' w') (h : wpListIn F n P ops Q rest (a.put o.dst v') w') : wpListIn F n P ops Q (o :: rest) a w := by
  refine wpListIn_plain hg fun K hK' => ?_
  unfold Oper.wpIn
  refine ⟨?_, ?_⟩
  · simp [Oper.about, hop, resolve, Target.leads, Sem.run_pure]
  · rw [Oper.semAt_plain F _ _ (by rw [hop]; intro c hc'; cases hc')]
    simp [execOp, hop, resolve, invoke, builtin, hs, hx, hr, Result.andThen]
    exact hK' _ _ h
/-- make([]Item, 0, n) -/
theorem make0_i (w : World) (S n : Nat) (hS : S ≤ w.heap.size) (hn : 16 * n ≤ 281474976710656) (f : Nat → It) :
    ∃ w', (Instr.makeSlice 22 (.int .i64 0) (.int .i64 (n : Int))).run Try.prog w = .ok (.slice (some ⟨w.heap.size, 0, none⟩) 0 n) w' ∧ Ir w' S (.slice (some ⟨w.heap.size, 0, none⟩) 0 n) 0 f ∧ Below w.heap.size w w' := by
  obtain ⟨i0, hi, hz0, hz1, hz2⟩ := info_parts infI
  obtain ⟨w', r, o, g⟩ := run_make_own (P := Try.prog) w S 22 24 i0 (.agg #[.int .i64 0, .int .i64 0]) 2 Try.underlying22 hi hz0 hz1 .i64 .i64 n (by rw [hz2]; exact hn) (by unfold maxLen; omega) hS
  exact ⟨w', r, o, (Below.refl _ w).grown g (Nat.le_refl _) (fun k hk => by cases hk)⟩
theorem Obj.cells_none {W : World} {b j : Nat} {o : Obj} (h : W.heap[b]? = some o) (hc : o.isCells = false) : W.cell? ⟨b, j, none⟩ = none := by
  cases hx : W.cell? ⟨b, j, none⟩ with
  | none => rfl
  | some v =>
    obtain ⟨o', h1, h2⟩ := cells_of_cell hx
    rw [h] at h1
    cases h1
    rw [hc] at h2
    cases h2
theorem lenAt_put (b : Nat) (W : World) (l : Nat) (o o' : Obj) (h : W.heap[l]? = some o) (h1 : o.isCells = false) (h2 : o'.isCells = false) : lenAt b (W.putObj l o') = lenAt b W := by
  have hl : l < W.heap.size := (Array.getElem?_eq_some_iff.1 h).1
  unfold lenAt
  by_cases hb : b = l
  · subst hb
    rw [Obj.cells_none h h1, Obj.cells_none (World.putObj_heap_same hl) h2]
  · rw [World.cell?_of_block (w := W) (a := ⟨b, 1, none⟩) (World.putObj_heap_other (by simpa using hb))]
/-- What abides the turn of blocks that are no cells. -/
def Turned (X Y : World) : Prop := ∃ row, X.grownBy Y row ∧ ∀ r, row = some r → ∃ o : Obj, X.heap[r]? = some o ∧ o.isCells = false
theorem Turned.kp {X Y : World} (h : Turned X Y) : ∃ M, Kp M X Y ∧ ∀ k, M k → ∃ o : Obj, X.heap[k]? = some o ∧ o.isCells = false := by
  obtain ⟨row, hg, hr⟩ := h
  exact ⟨fun k => row = some k, (Kp.refl _ X).grown hg (fun k hk _ => hk), fun k hk => hr k hk⟩
theorem not_cells {X : World} {p : Addr} {v : Value} (h : X.cell? p = some v) : ¬ ∃ o : Obj, X.heap[p.block]? = some o ∧ o.isCells = false := fun ⟨o, ho, hc⟩ => by
  obtain ⟨o', h1, h2⟩ := cells_of_cell h
  rw [ho] at h1
  cases h1
  rw [hc] at h2
  cases h2
theorem not_row {X : World} {S e s n k : Nat} {v : Value} {xs : List Value} (h : X.ownsRow S e s v n xs) (hk : v.ownBlock = some k) : ¬ ∃ o : Obj, X.heap[k]? = some o ∧ o.isCells = false := fun ⟨o, ho, hc⟩ => by
  rcases h.2 with ⟨rfl, _⟩ | ⟨g, cap, cur, rfl, _, hg, _⟩
  · cases hk
  · have : g = k := Option.some.inj hk
    subst this
    rw [hg] at ho
    cases ho
    cases hc
theorem Pl.turned {X Y : World} {b bx n m : Nat} {lv v : Value} {f : Nat → Rk} (h : Pl X b bx lv v n f m) (t : Turned X Y) : Pl Y b bx lv v n f m := by
  obtain ⟨M, k, hm⟩ := t.kp
  exact h.kp k (fun x => not_cells h.cm (hm _ x)) (fun x => not_cells h.hp.bxc (hm _ x)) (fun j e x => not_row h.hp.row e (hm _ x))
theorem row_turned {X Y : World} {S e s n : Nat} {v : Value} {xs : List Value} (h : X.ownsRow S e s v n xs) (t : Turned X Y) : Y.ownsRow S e s v n xs := by
  obtain ⟨M, k, hm⟩ := t.kp
  exact k.row h (fun j e x => not_row h e (hm _ x))
theorem box_turned {X Y : World} {B t : Nat} {v : Value} (h : Boxed X B t v) (tt : Turned X Y) : Boxed Y B t v := by
  obtain ⟨M, k, hm⟩ := tt.kp
  exact (k.block B h.lt (fun x => not_cells h.cell (hm _ x))).trans h
theorem box_kp {X Y : World} {B t : Nat} {v : Value} {M : Nat → Prop} (h : Boxed X B t v) (k : Kp M X Y) (hm : ¬ M B) : Boxed Y B t v := (k.block B h.lt hm).trans h
/-- A list's things. -/
def lk (l : List It) (j : Nat) : It := l.getD j (0, 0)
theorem lk_push (l : List It) (x : It) (j : Nat) (h : j < l.length + 1) : up (lk l) l.length x j = lk (l ++ [x]) j := by
  unfold lk
  by_cases hj : j = l.length
  · subst hj
    rw [up_same]
    simp
  · rw [up_other _ _ _ _ hj]
    simp [List.getD, List.getElem?_append_left (show j < l.length by omega)]

/-- Where a draining stands. -/
structure SS (w : World) (G S Bp Bo : Nat) (lv : Value) (A : Rk → Rk → Bool) (m : Nat) (W : World) (p : Nat) (pre ys : List It) (v vo : Value) (f : Nat → Rk) : Prop where
  pl : Pl W (G + 1) G lv v p f m
  out : outL A p f = ys
  bo : Boxed W Bo 22 vo
  bp : Boxed W Bp 28 (.pointer (some ⟨G + 1, 0, none⟩))
  row : Ir W S vo pre.length (lk pre)
  hS : G + 2 ≤ S
  hBo : G + 2 ≤ Bo
  hBp : G + 2 ≤ Bp
  hpo : Bp ≠ Bo
  hv : ∀ k, v.ownBlock = some k → G ≤ k
  below : Below G w W
theorem row_tag {W : World} {S e s n B t k : Nat} {v u : Value} {xs : List Value} (h : W.ownsRow S e s v n xs) (b : Boxed W B t u) (hne : e ≠ t) (hk : v.ownBlock = some k) : k ≠ B := fun x => by
  rcases h.2 with ⟨rfl, _⟩ | ⟨g, cap, cur, rfl, _, hg, _⟩
  · cases hk
  · have : g = k := Option.some.inj hk
    subst this
    subst x
    rw [show W.heap[g]? = _ from b] at hg
    injection hg with hg
    injection hg with _ h2 _
    exact hne h2.symm
theorem row_tags {W : World} {S S' e e' s s' n n' k : Nat} {v u : Value} {xs ys : List Value} (h : W.ownsRow S e s v n xs) (h' : W.ownsRow S' e' s' u n' ys) (hne : e ≠ e') (hk : v.ownBlock = some k) : u.ownBlock ≠ some k := fun hk' => by
  rcases h.2 with ⟨rfl, _⟩ | ⟨g, cap, cur, rfl, _, hg, _⟩
  · cases hk
  · rcases h'.2 with ⟨rfl, _⟩ | ⟨g', cap', cur', rfl, _, hg', _⟩
    · cases hk'
    · have e1 : g = k := Option.some.inj hk
      have e2 : g' = k := Option.some.inj hk'
      subst e1
      subst e2
      rw [hg] at hg'
      injection hg' with hg'
      injection hg' with _ h2 _
      exact hne h2
end Go.Proofs.Ytcgpjmpppajfdaa
