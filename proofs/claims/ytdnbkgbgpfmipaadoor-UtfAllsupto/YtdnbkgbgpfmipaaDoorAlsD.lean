/- UtfAlls: the walk of the law's own gone. -/
import Derived.Test.YtdnbkgbgpfmipaaDoorAlsC
namespace Go.Proofs.YtdnbkgbgpfmipaaDoor
open Go.RowKit Go.Lib Go.Shelf

attribute [local go_sem] Oper.semAt_some

theorem wpIn_append_run {F : Fence} {n : Nat} {P : Program} {w w' : World} {ops : Array Oper} {rest : List Oper} {o : Oper} {a : Act} {Q : Exit → Act → World → Prop} {v' : Value}
    (hg : o.guard = none) (s x : Operand) (t tx : TypeId) (hop : o.op = Op.call { callee := Callee.builtin Builtin.append, args := #[s, x], argTypes := #[t, tx] }) (vs vx : Value) (hs : a.eval s = vs) (hx : a.eval x = vx)
    (hr : (Builtin.append_ #[t, tx] o.type #[vs, vx]).run P w = .ok v' w') (h : wpListIn F n P ops Q rest (a.put o.dst v') w') : wpListIn F n P ops Q (o :: rest) a w := by
  refine wpListIn_plain hg fun K hK' => ?_
  unfold Oper.wpIn
  refine ⟨?_, ?_⟩
  · simp [Oper.about, hop, resolve, Target.leads, Sem.run_pure]
  · rw [Oper.semAt_plain F _ _ (by rw [hop]; intro c hc'; cases hc')]
    simp [execOp, hop, resolve, invoke, builtin, hs, hx, hr, Result.andThen]
    exact hK' _ _ h

/-- The three boxes of gone, and what its two lists hold. -/
def GB (h : Nat) (stop : Int) (W : World) (L : List (Int × Int)) (v1 v2 : Value) : Prop :=
  Boxed W h 3 (.int .i64 stop) ∧ Boxed W (h + 1) 35 v1 ∧ Boxed W (h + 2) 25 v2 ∧ W.ownsRow (h + 3) 3 1 v1 L.length (pcells L) ∧ W.ownsRow (h + 3) 21 1 v2 L.length (qcells L)
theorem boxed_keep {X Y : World} {row : Option Nat} {B : Nat} {t : TypeId} {v : Value} (h : Boxed X B t v) (hg : X.grownBy Y row) (hrow : ∀ r, row = some r → ∃ o : Obj, X.heap[r]? = some o ∧ o.isCells = false) : Boxed Y B t v :=
  h.kept hg (fun e' => by
    obtain ⟨o, ho, hc⟩ := hrow B e'.symm
    rw [show X.heap[B]? = _ from h] at ho; cases ho; cases hc)
theorem row_keep {X Y : World} {row : Option Nat} {base e size k : Nat} {v : Value} {xs : List Value} (h : X.ownsRow base e size v k xs) (hg : X.grownBy Y row) (hrow : ∀ r, row = some r → ∃ o : Obj, X.heap[r]? = some o ∧ o.isCells = false) : Y.ownsRow base e size v k xs := by
  refine h.kept hg ?_
  rcases h.2 with ⟨rfl, _⟩ | ⟨g, cap, cur, rfl, _, hgb, _⟩
  · exact .inl rfl
  · refine .inr fun e' => ?_
    obtain ⟨o, ho, hc⟩ := hrow g (by simpa [Value.ownBlock] using e'.symm)
    rw [hgb] at ho; cases ho; cases hc
theorem GB.keep {h : Nat} {stop : Int} {X Y : World} {L : List (Int × Int)} {v1 v2 : Value} {row : Option Nat} (g : GB h stop X L v1 v2) (hg : X.grownBy Y row) (hrow : ∀ r, row = some r → ∃ o : Obj, X.heap[r]? = some o ∧ o.isCells = false) : GB h stop Y L v1 v2 :=
  ⟨boxed_keep g.1 hg hrow, boxed_keep g.2.1 hg hrow, boxed_keep g.2.2.1 hg hrow, row_keep g.2.2.2.1 hg hrow, row_keep g.2.2.2.2 hg hrow⟩

/-- One round's two stores. -/
theorem GB.step {h : Nat} {stop : Int} {W : World} {L : List (Int × Int)} {v1 v2 : Value} (g : GB h stop W L v1 v2) (a r : Int) (hn : L.length ≤ 4294967296) :
    ∃ g1 c1 w1 g2 c2 w2, (Builtin.append_ #[35, 35] 35 #[v1, .slice (some ⟨W.heap.size, 0, none⟩) 1 1]).run Tryd.prog (W.alloc (.cells #[.int .i64 a] 3)) = .ok (.slice (some ⟨g1, 0, none⟩) (L.length + 1) c1) w1 ∧
      w1.cell? ⟨h + 1, 0, none⟩ = some v1 ∧ w1.frozen? ⟨h + 1, 0, none⟩ = false ∧ (w1.setCell ⟨h + 1, 0, none⟩ (.slice (some ⟨g1, 0, none⟩) (L.length + 1) c1)).cell? ⟨h + 2, 0, none⟩ = some v2 ∧
      (Builtin.append_ #[25, 25] 25 #[v2, .slice (some ⟨w1.heap.size, 0, none⟩) 1 1]).run Tryd.prog ((w1.setCell ⟨h + 1, 0, none⟩ (.slice (some ⟨g1, 0, none⟩) (L.length + 1) c1)).alloc (.cells #[.int .i32 r] 21)) = .ok (.slice (some ⟨g2, 0, none⟩) (L.length + 1) c2) w2 ∧
      w2.cell? ⟨h + 2, 0, none⟩ = some v2 ∧ w2.frozen? ⟨h + 2, 0, none⟩ = false ∧
      GB h stop (w2.setCell ⟨h + 2, 0, none⟩ (.slice (some ⟨g2, 0, none⟩) (L.length + 1) c2)) (L ++ [(a, r)]) (.slice (some ⟨g1, 0, none⟩) (L.length + 1) c1) (.slice (some ⟨g2, 0, none⟩) (L.length + 1) c2) ∧
      KeepsOthers W (w2.setCell ⟨h + 2, 0, none⟩ (.slice (some ⟨g2, 0, none⟩) (L.length + 1) c2)) ∧ Below h W (w2.setCell ⟨h + 2, 0, none⟩ (.slice (some ⟨g2, 0, none⟩) (L.length + 1) c2)) := by
  obtain ⟨b0, b1, b2, o1, o2⟩ := g
  have hW : h + 3 ≤ W.heap.size := by have := b2.lt; omega
  have o1' : W.ownsRow (h + 3) 3 1 v1 (pcells L).length (pcells L) := by rw [pcells_len]; exact o1
  obtain ⟨v1', w1, r1, p1, bl1, gr1⟩ := app_one 35 3 _ 8 Tryd.underlying35 inf3 rfl (by omega) W (h + 3) v1 (pcells L) (.int .i64 a) rfl hW (by rw [pcells_len]; omega) o1'
  rw [List.length_append, pcells_len, ← pcells_app L (a, r)] at p1
  obtain ⟨g1, c1, rfl⟩ := ownsRow_succ p1
  have n1 : ∀ B, B < h + 3 → some B ≠ v1.ownBlock := fun B hB e => by have := (o1.lt B e.symm).1; omega
  have n2 : ∀ B, B < h + 3 → some B ≠ v2.ownBlock := fun B hB e => by have := (o2.lt B e.symm).1; omega
  have np1 : ∀ B, B < h + 3 → (Value.slice (some ⟨g1, 0, none⟩) (L.length + 1) c1).ownBlock ≠ some B := fun B hB e => by have := (p1.lt B e).1; omega
  have d0 := (b0.alloc (.cells #[.int .i64 a] 3)).kept gr1 (n1 h (by omega))
  have d1 := (b1.alloc (.cells #[.int .i64 a] 3)).kept gr1 (n1 (h + 1) (by omega))
  have d2 := (b2.alloc (.cells #[.int .i64 a] 3)).kept gr1 (n1 (h + 2) (by omega))
  have q2 := (o2.alloc (.cells #[.int .i64 a] 3)).kept gr1 (row_apart (o1.alloc (.cells #[.int .i64 a] 3)) (o2.alloc (.cells #[.int .i64 a] 3)) (by decide))
  have k1 : KeepsOthers W (w1.setCell ⟨h + 1, 0, none⟩ (.slice (some ⟨g1, 0, none⟩) (L.length + 1) c1)) := by
    refine ((KeepsOthers.alloc W _).trans (KeepsOthers.of_grownBy gr1 fun j o ej hj => ?_)).trans (KeepsOthers.setCell _ _ _)
    rcases (o1.alloc (.cells #[.int .i64 a] 3)).2 with ⟨rfl, _⟩ | ⟨g, cap, cur, rfl, _, hgb, _⟩
    · simp [Value.ownBlock] at ej
    · obtain rfl : g = j := by simpa [Value.ownBlock] using ej
      rw [hgb] at hj; cases hj; rfl
  have e0 := d0.other (show h ≠ h + 1 by omega) (.slice (some ⟨g1, 0, none⟩) (L.length + 1) c1)
  have e1 := d1.set (.slice (some ⟨g1, 0, none⟩) (L.length + 1) c1)
  have e2 := d2.other (show h + 2 ≠ h + 1 by omega) (.slice (some ⟨g1, 0, none⟩) (L.length + 1) c1)
  have f1 := ownsRow_setCell_other p1 (a := ⟨h + 1, 0, none⟩) (np1 (h + 1) (by omega)) (.slice (some ⟨g1, 0, none⟩) (L.length + 1) c1)
  have f2 := ownsRow_setCell_other q2 (a := ⟨h + 1, 0, none⟩) (fun e => n2 (h + 1) (by omega) e.symm) (.slice (some ⟨g1, 0, none⟩) (L.length + 1) c1)
  have B1 : Below h W (w1.setCell ⟨h + 1, 0, none⟩ (.slice (some ⟨g1, 0, none⟩) (L.length + 1) c1)) := (bl1.mono (by omega)).setCell (p := ⟨h + 1, 0, none⟩) (by show h ≤ h + 1; omega) _
  have hc1 := d1.cell
  have hf1 := d1.frozen
  have hs1 := e2.cell
  generalize hX : w1.setCell ⟨h + 1, 0, none⟩ (.slice (some ⟨g1, 0, none⟩) (L.length + 1) c1) = X at *
  have hXs : w1.heap.size = X.heap.size := by rw [← hX]; simp
  have hWX : h + 3 ≤ X.heap.size := by have := e2.lt; omega
  have f2' : X.ownsRow (h + 3) 21 1 v2 (qcells L).length (qcells L) := by rw [qcells_len]; exact f2
  obtain ⟨v2', w2, r2, p2, bl2, gr2⟩ := app_one 25 21 _ 4 Tryd.underlying25 inf21 rfl (by omega) X (h + 3) v2 (qcells L) (.int .i32 r) rfl hWX (by rw [qcells_len]; omega) f2'
  rw [List.length_append, qcells_len, ← qcells_app L (a, r)] at p2
  obtain ⟨g2, c2, rfl⟩ := ownsRow_succ p2
  have np2 : ∀ B, B < h + 3 → (Value.slice (some ⟨g2, 0, none⟩) (L.length + 1) c2).ownBlock ≠ some B := fun B hB e => by have := (p2.lt B e).1; omega
  have s0 := (e0.alloc (.cells #[.int .i32 r] 21)).kept gr2 (n2 h (by omega))
  have s1 := (e1.alloc (.cells #[.int .i32 r] 21)).kept gr2 (n2 (h + 1) (by omega))
  have s2 := (e2.alloc (.cells #[.int .i32 r] 21)).kept gr2 (n2 (h + 2) (by omega))
  have t1 := (f1.alloc (.cells #[.int .i32 r] 21)).kept gr2 (row_apart (f2.alloc (.cells #[.int .i32 r] 21)) (f1.alloc (.cells #[.int .i32 r] 21)) (by decide))
  have k2 : KeepsOthers X (w2.setCell ⟨h + 2, 0, none⟩ (.slice (some ⟨g2, 0, none⟩) (L.length + 1) c2)) := by
    refine ((KeepsOthers.alloc X _).trans (KeepsOthers.of_grownBy gr2 fun j o ej hj => ?_)).trans (KeepsOthers.setCell _ _ _)
    rcases (f2.alloc (.cells #[.int .i32 r] 21)).2 with ⟨rfl, _⟩ | ⟨g, cap, cur, rfl, _, hgb, _⟩
    · simp [Value.ownBlock] at ej
    · obtain rfl : g = j := by simpa [Value.ownBlock] using ej
      rw [hgb] at hj; cases hj; rfl
  have hlen : (L ++ [(a, r)]).length = L.length + 1 := by simp
  refine ⟨g1, c1, w1, g2, c2, w2, r1, hc1, hf1, by rw [hX]; exact hs1, by rw [hX, hXs]; exact r2, s2.cell, s2.frozen, ⟨s0.other (by omega) _, s1.other (by omega) _, s2.set _, ?_, ?_⟩, k1.trans k2, B1.trans ((bl2.mono (by omega)).setCell (p := ⟨h + 2, 0, none⟩) (by show h ≤ h + 2; omega) _)⟩
  · rw [hlen]
    exact ownsRow_setCell_other t1 (a := ⟨h + 2, 0, none⟩) (np1 (h + 2) (by omega)) _
  · rw [hlen]
    exact ownsRow_setCell_other p2 (a := ⟨h + 2, 0, none⟩) (np2 (h + 2) (by omega)) _
end Go.Proofs.YtdnbkgbgpfmipaaDoor
