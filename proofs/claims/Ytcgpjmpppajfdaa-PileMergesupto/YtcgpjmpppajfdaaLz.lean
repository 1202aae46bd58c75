
/- PileMerges: the lists with their keys turned. -/
import Derived.Test.YtcgpjmpppajfdaaLw
import Derived.Deep.Slices
namespace Go.Proofs.Ytcgpjmpppajfdaa.Li
open Go.RowKit

theorem ic_set1 (f : Nat → It) (j : Nat) (z : Int) (n : Nat) (h : j < n) : (ic f n).set (j * 2) (.int .i64 z) = ic (up f j (z, (f j).2)) n := by
  rw [← ic_set f j (z, (f j).2) n h]
  apply List.ext_getElem?
  intro t
  by_cases e : t = j * 2 + 1
  · subst e
    have hl : j * 2 + 1 < ((ic f n).set (j * 2) (.int .i64 z)).length := by rw [List.length_set, ic_len]; omega
    rw [List.getElem?_set_self hl, List.getElem?_set_ne (by omega), ic_get f n j 1 h (by omega)]
    rfl
  · exact (List.getElem?_set_ne (fun x => e x.symm)).symm
/-- The lists as they lie in: whatever stands in them. -/
structure NS (n : Nat) (q : Nat → Ls) (G : Nat → Nat) (vi : Value) (S : Nat) (W : World) : Prop where
  i : W.ownsRow S 22 1 vi n (mv (inQ q G) n)
  pt : ∀ i, i < n → ∃ φ, Ir W S (sv (fuQ q G i)) ((q i).2.1 + 40) φ
  gd : ∀ i j, i < n → j < n → G i = G j → i = j
  ro : ∀ i, i < n → vi.ownBlock ≠ some (G i)
section
variable {n S : Nat} {q : Nat → Ls} {G : Nat → Nat} {vi : Value} {W W' : World}
theorem NS.of {vm vf : Value} {w0 : World} (h : LS n q G vm vi vf w0 W) : NS n q G vi w0.heap.size W :=
  ⟨h.i, fun i hi => ⟨_, h.pt i hi⟩, h.gd, fun i hi e => (h.ro (G i) (.inr (.inl e))).1 i hi rfl⟩
theorem NS.below (h : NS n q G vi S W) (b : Below W.heap.size W W') : NS n q G vi S W' :=
  ⟨(Kp.of (M := fun _ => False) b).row h.i (fun _ _ => id), fun i hi => by obtain ⟨φ, o⟩ := h.pt i hi; exact ⟨φ, o.below b⟩, h.gd, h.ro⟩
theorem NS.li (h : NS n q G vi S W) : ∃ q' : Nat → Ls, (∀ i, i < n → (q' i).2.1 = (q i).2.1) ∧ ∃ a c, vi = .slice a n c ∧ Lml W a q' n := by
  have hI : Inhabited (Nat → It) := ⟨fun _ => (0, 0)⟩
  obtain ⟨φ, hφ⟩ := Go.Deep.choose_lt h.pt
  refine ⟨fun i => (some ⟨G i, 0, none⟩, (q i).2.1, (q i).2.1 + 40, φ i), fun _ _ => rfl, ?_⟩
  exact row_lml (p := fun i => (some ⟨G i, 0, none⟩, (q i).2.1, (q i).2.1 + 40, φ i)) (show W.ownsRow S 22 1 vi n (mv (fun i => (some ⟨G i, 0, none⟩, (q i).2.1, (q i).2.1 + 40, φ i)) n) from h.i) (fun i hi => ⟨Ir.cut (hφ i hi) (Nat.le_add_right _ _) (fun _ _ => rfl), Nat.le_add_right _ _⟩)
theorem NS.at (h : NS n q G vi S W) (i : Nat) (hi : i < n) : ∃ g c, vi = .slice (some ⟨g, 0, none⟩) n c ∧ W.cell? ⟨g, i, none⟩ = some (.slice (some ⟨G i, 0, none⟩) (q i).2.1 ((q i).2.1 + 40)) := by
  have hc := fun g => h.i.cells (g := g)
  rcases h.i.2 with ⟨_, h0⟩ | ⟨g, c, cur, rfl, _, hg, _⟩
  · omega
  · have := hc g rfl i _ (mv_get (inQ q G) n i hi)
    rw [Go.WideShapes.add_plain, Nat.zero_add] at this
    exact ⟨g, c, rfl, this⟩
theorem NS.key (h : NS n q G vi S W) (i j : Nat) (hi : i < n) (hj : j < (q i).2.1) : (∃ z, W.cell? ⟨G i, j * 2, none⟩ = some (.int .i64 z)) ∧ W.frozen? ⟨G i, j * 2, none⟩ = false ∧ ∀ z, NS n q G vi S (W.setCell ⟨G i, j * 2, none⟩ (.int .i64 z)) := by
  obtain ⟨φ, o⟩ := h.pt i hi
  obtain ⟨c0, _, f0, _⟩ := Ir.cells o j (by show j < (q i).2.1 + 40; omega)
  refine ⟨⟨_, c0⟩, f0, fun z => ?_⟩
  have ks : Kp (· = G i) W (W.setCell ⟨G i, j * 2, none⟩ (.int .i64 z)) := (Kp.refl (· = G i) W).setCell (p := ⟨G i, j * 2, none⟩) rfl _
  refine ⟨ks.row h.i (fun k e (x : k = G i) => h.ro i hi (by rw [← x]; exact e)), fun t ht => ?_, h.gd, h.ro⟩
  by_cases e : t = i
  · subst e
    refine ⟨up φ j (z, (φ j).2), ?_⟩
    unfold Ir
    rw [← ic_set1 φ j z _ (by omega)]
    exact (World.ownsRow.stored o (j * 2) _).1
  · obtain ⟨ψ, p⟩ := h.pt t ht
    exact ⟨ψ, ks.row p (fun k e2 (x : k = G i) => by cases e2; exact e (h.gd t i ht hi x))⟩
end
/-- The last stretch: the lists, two answers, and what was there before. -/
structure MS (n : Nat) (q : Nat → Ls) (G : Nat → Nat) (vi vw vc : Value) (T : List It) (w0 : World) (B : Nat) (W : World) : Prop where
  ns : NS n q G vi w0.heap.size W
  ow : Own B W vw T
  oc : Own B W vc T
  gb : ∀ i, i < n → G i < B ∧ w0.heap.size ≤ G i
  bel : Below w0.heap.size w0 W
section
variable {n B : Nat} {q : Nat → Ls} {G : Nat → Nat} {vi vw vc : Value} {T : List It} {w0 W W' : World}
theorem MS.below (h : MS n q G vi vw vc T w0 B W) (b : Below W.heap.size W W') : MS n q G vi vw vc T w0 B W' :=
  have k := Kp.of (M := fun _ => False) b
  ⟨h.ns.below b, k.row h.ow (fun _ _ => id), k.row h.oc (fun _ _ => id), h.gb, h.bel.trans (b.mono h.bel.size)⟩
theorem MS.key (h : MS n q G vi vw vc T w0 B W) (i j : Nat) (hi : i < n) (hj : j < (q i).2.1) : (∃ z, W.cell? ⟨G i, j * 2, none⟩ = some (.int .i64 z)) ∧ W.frozen? ⟨G i, j * 2, none⟩ = false ∧ ∀ z, MS n q G vi vw vc T w0 B (W.setCell ⟨G i, j * 2, none⟩ (.int .i64 z)) := by
  obtain ⟨c0, f0, hs⟩ := h.ns.key i j hi hj
  refine ⟨c0, f0, fun z => ?_⟩
  have ks : Kp (· = G i) W (W.setCell ⟨G i, j * 2, none⟩ (.int .i64 z)) := (Kp.refl (· = G i) W).setCell (p := ⟨G i, j * 2, none⟩) rfl _
  have hg := h.gb i hi
  exact ⟨hs z, ks.row h.ow (fun k e (x : k = G i) => by have := (World.ownsRow.lt h.ow k e).1; omega), ks.row h.oc (fun k e (x : k = G i) => by have := (World.ownsRow.lt h.oc k e).1; omega), h.gb, h.bel.trans (ks.below h.bel.size (fun k hk (x : k = G i) => by omega))⟩
end
end Go.Proofs.Ytcgpjmpppajfdaa.Li
