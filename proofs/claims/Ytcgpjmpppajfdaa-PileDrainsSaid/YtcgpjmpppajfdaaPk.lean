/- PileDrains: what the walk wants. -/
import Derived.Test.YtcgpjmpppajfdaaDs
import Derived.Test.YtcgpjmpppajfdaaPd
import Derived.Deep.RegionHeld3
namespace Go.Proofs.Ytcgpjmpppajfdaa
open Go.RowKit

theorem step_drain {ops : Array Oper} {o : Oper} {a : Act} {w : World} {K : Act → World → Prop} {Q : Exit → Act → World → Prop} {E : Prop} (hgd : o.guard = none) (t : Tmp) (ats : Array TypeId)
    (ho : o.op = .call { callee := .value (.func 20), args := #[.tmp t], argTypes := ats }) (p : Option Addr) (hx : a.eval (.tmp t) = .pointer p)
    (h : K (a.put o.dst (.func (.func 43) #[] #[.pointer (some ⟨w.heap.size, 0, none⟩)])) (w.alloc (.cells #[.pointer p] 28))) : if Region.wanted o (yielded ops a.tmps) = true then Oper.wp Try.prog o a w K Q else E := by
  have hw : Region.wanted o (yielded ops a.tmps) = true := by simp [Region.wanted, hgd]
  rw [if_pos hw]
  unfold Oper.wp
  simp [execOp, ho, resolve, invoke, Act.eval, go_sem]
  simp [Act.eval] at hx
  rw [hx]
  refine (drain_any p w).mono ?_
  rintro r w' ⟨rfl, rfl⟩
  exact h
/-- The iterators that are held. -/
structure HD (q Hb : Nat) (col : Nat → Nat) (W : World) (bb hp : Nat → Nat) : Prop where
  box : ∀ j, j < q → W.heap[hp j]? = some (.cells #[.pointer (some ⟨bb j, 0, none⟩)] 28) ∧ col (hp j) = 7
  cell : ∀ j, j < q → W.cell? ⟨Hb, j, none⟩ = some (.func (.func 43) #[] #[.pointer (some ⟨hp j, 0, none⟩)])
  cH : col Hb = 7
theorem HD.kp {q Hb : Nat} {col col' : Nat → Nat} {W W' : World} {bb hp : Nat → Nat} {M : Nat → Prop} (h : HD q Hb col W bb hp) (k : Kp M W W') (hM : ∀ j, M j → col j ≠ 7) (hc : ∀ j, j < W.heap.size → col' j = col j) (h0 : 0 < q) : HD q Hb col' W' bb hp := by
  have hl : Hb < W.heap.size := World.block_lt_of_cell? W _ (h.cell 0 h0)
  refine ⟨fun j hj => ?_, fun j hj => k.cell (h.cell j hj) (fun e => hM _ e h.cH), by rw [hc _ hl]; exact h.cH⟩
  obtain ⟨h1, h2⟩ := h.box j hj
  have hlt := (Array.getElem?_eq_some_iff.1 h1).1
  exact ⟨(k.block _ hlt (fun e => hM _ e h2)).trans h1, by rw [hc _ hlt]; exact h2⟩
/-- A script's state, with the iterators. -/
def LD (G Bb Hb : Nat) (w : World) (i : Nat) (W : World) : Prop := ∃ col bb xx v vb n m f B C hp, PS 3 G G Bb w col W bb xx v vb n m f B C ∧ HD 3 Hb col W bb hp ∧ ∀ k, k < 3 → C k = (B k).map (·.1) ∧ n k ≤ i ∧ m k ≤ i
/-- The three iterators laid. -/
theorem LD.start {G Bb : Nat} {w W : World} (h : LI 3 G G Bb w 0 W) : ∃ b0 b1 b2 : Nat, W.cell? ⟨G, 0, none⟩ = some (.pointer (some ⟨b0, 0, none⟩)) ∧ W.cell? ⟨G, 1, none⟩ = some (.pointer (some ⟨b1, 0, none⟩)) ∧ W.cell? ⟨G, 2, none⟩ = some (.pointer (some ⟨b2, 0, none⟩)) ∧
    LD G Bb (W.heap.size + 3) w 0 ((((W.alloc (.cells #[.pointer (some ⟨b0, 0, none⟩)] 28)).alloc (.cells #[.pointer (some ⟨b1, 0, none⟩)] 28)).alloc (.cells #[.pointer (some ⟨b2, 0, none⟩)] 28)).alloc (.cells #[.func (.func 43) #[] #[.pointer (some ⟨W.heap.size, 0, none⟩)], .func (.func 43) #[] #[.pointer (some ⟨W.heap.size + 1, 0, none⟩)], .func (.func 43) #[] #[.pointer (some ⟨W.heap.size + 2, 0, none⟩)]] 39)).drew := by
  obtain ⟨col, bb, xx, v, vb, n, m, f, B, C, ps, hC⟩ := h
  refine ⟨bb 0, bb 1, bb 2, ps.pc 0 (by omega), ps.pc 1 (by omega), ps.pc 2 (by omega), ?_⟩
  obtain ⟨c0, h0⟩ : ∃ o, o = Obj.cells #[.pointer (some ⟨bb 0, 0, none⟩)] 28 := ⟨_, rfl⟩
  obtain ⟨c1, h1⟩ : ∃ o, o = Obj.cells #[.pointer (some ⟨bb 1, 0, none⟩)] 28 := ⟨_, rfl⟩
  obtain ⟨c2, h2⟩ : ∃ o, o = Obj.cells #[.pointer (some ⟨bb 2, 0, none⟩)] 28 := ⟨_, rfl⟩
  obtain ⟨c3, h3⟩ : ∃ o, o = Obj.cells #[.func (.func 43) #[] #[.pointer (some ⟨W.heap.size, 0, none⟩)], .func (.func 43) #[] #[.pointer (some ⟨W.heap.size + 1, 0, none⟩)], .func (.func 43) #[] #[.pointer (some ⟨W.heap.size + 2, 0, none⟩)]] 39 := ⟨_, rfl⟩
  rw [← h0, ← h1, ← h2, ← h3]
  have b4 : Below W.heap.size W ((((W.alloc c0).alloc c1).alloc c2).alloc c3).drew := (((((Below.refl _ W).alloc (Nat.le_refl _) _).alloc (by simp) _).alloc (by simp; omega) _).alloc (by simp; omega) _).drew
  have e0 : ((((W.alloc c0).alloc c1).alloc c2).alloc c3).drew.heap[W.heap.size]? = some c0 := (Below.heap_alloc _ _ _ (by simp; omega)).trans ((Below.heap_alloc _ _ _ (by simp; omega)).trans ((Below.heap_alloc _ _ _ (by simp)).trans (heap_alloc_new W _)))
  have e1 : ((((W.alloc c0).alloc c1).alloc c2).alloc c3).drew.heap[W.heap.size + 1]? = some c1 := by
    have := heap_alloc_new (W.alloc c0) c1
    simp only [World.size_alloc] at this
    exact (Below.heap_alloc _ _ _ (by simp)).trans ((Below.heap_alloc _ _ _ (by simp)).trans this)
  have e2 : ((((W.alloc c0).alloc c1).alloc c2).alloc c3).drew.heap[W.heap.size + 2]? = some c2 := by
    have := heap_alloc_new ((W.alloc c0).alloc c1) c2
    simp only [World.size_alloc] at this
    exact (Below.heap_alloc _ _ _ (by simp)).trans this
  have e3 : ((((W.alloc c0).alloc c1).alloc c2).alloc c3).drew.heap[W.heap.size + 3]? = some c3 := by
    have := heap_alloc_new (((W.alloc c0).alloc c1).alloc c2) c3
    simp only [World.size_alloc] at this
    exact this
  refine ⟨_, bb, xx, v, vb, n, m, f, B, C, fun j => W.heap.size + j, (ps.recol 7 (by omega)).below' b4, ⟨fun j hj => ?_, fun j hj => ?_, if_neg (by omega)⟩, hC⟩
  · refine ⟨?_, if_neg (by omega)⟩
    have : j = 0 ∨ j = 1 ∨ j = 2 := by omega
    rcases this with rfl | rfl | rfl
    · rw [Nat.add_zero, e0, h0]
    · rw [e1, h1]
    · rw [e2, h2]
  · unfold World.cell?
    rw [e3, h3]
    have : j = 0 ∨ j = 1 ∨ j = 2 := by omega
    rcases this with rfl | rfl | rfl <;> rfl
end Go.Proofs.Ytcgpjmpppajfdaa
