/- ChunkSteps: a list of lists of bytes that grows. -/
import Derived.Test.YtedlmjieclaojabDoorXb
namespace Go.Proofs.YtedlmjieclaojabDoor
open Go.RowKit

/-- One list behind a row of lists. -/
theorem append_v (w : World) (S : Nat) (v : Value) (vs : List Value) (a : Option Addr) (n m : Nat) (hS : S ≤ w.heap.size) (hn : (vs.length + 1) * 24 ≤ 140737488355328) (o : w.ownsRow S 38 1 v vs.length vs) :
    ∃ g c w', (Builtin.append_ #[28, 28] 28 #[v, .slice (some ⟨w.heap.size, 0, none⟩) 1 1]).run Tryd.prog (w.alloc (.cells #[.slice a n m] 38)) = .ok (.slice (some ⟨g, 0, none⟩) (vs.length + 1) c) w' ∧
      w'.ownsRow S 38 1 (.slice (some ⟨g, 0, none⟩) (vs.length + 1) c) (vs.length + 1) (vs ++ [.slice a n m]) ∧ Kp (fun k => v.ownBlock = some k) w w' ∧ (v.ownBlock = some g ∨ w.heap.size ≤ g) := by
  obtain ⟨i0, hi, hz0, hz1, hz2⟩ := info_parts info25
  have o0 := World.ownsRow.alloc o (.cells #[.slice a n m] 38)
  obtain ⟨v', w', r, o', g, _, h5⟩ := run_append_own_at (P := Tryd.prog) (w.alloc (.cells #[.slice a n m] 38)) S 28 28 38 i0 (.slice none 0 0) 1 24 Tryd.underlying28 hi hz0 hz1 hz2 rfl (by decide) _ vs.length vs o0 ⟨w.heap.size, 0, none⟩ 1 1 [.slice a n m] (by rfl)
    (fun j u hj => by
      rw [Go.WideShapes.add_plain]
      unfold World.cell?
      rw [show (w.alloc (.cells #[.slice a n m] 38)).heap[w.heap.size]? = some (.cells #[.slice a n m] 38) from heap_alloc_new w _]
      simpa using hj) (by intro u hu; simp at hu; subst hu; rfl) (by unfold maxLen; omega) (by omega) (by simp; omega)
  rcases o'.2 with ⟨_, h0⟩ | ⟨G, C, cur, rfl, _⟩
  · omega
  · refine ⟨G, C, w', r, o', ((Kp.refl _ w).alloc _).grown g (fun k hk _ => hk), ?_⟩
    rcases h5 with h5 | h5
    · exact .inl (h5.symm.trans rfl)
    · have h6 : G = (w.alloc (.cells #[.slice a n m] 38)).heap.size := Option.some.inj h5
      rw [World.size_alloc] at h6
      exact .inr (by omega)
/-- Lists of bytes, each in a row of its own, named in a row. -/
structure Kpt (S : Nat) (W : World) (v : Value) (n : Nat) (V : Nat → Value) (X : Nat → List Int) : Prop where
  row : W.ownsRow S 38 1 v n (gl n V)
  own : ∀ i, i < n → W.ownsRow S 5 1 (V i) (X i).length (bc (X i))
  vv : ∀ i j, i < n → j < n → i ≠ j → ∀ g, (V i).ownBlock = some g → ¬ (V j).ownBlock = some g
  nv : ∀ i, i < n → ∀ g, v.ownBlock = some g → ¬ (V i).ownBlock = some g
theorem gl_len (n : Nat) (V : Nat → Value) : (gl n V).length = n := by simp [gl]
theorem gl_succ (n : Nat) (V : Nat → Value) : gl (n + 1) V = gl n V ++ [V n] := by simp [gl, List.range_succ]
theorem Kpt.kp {S : Nat} {W W' : World} {v : Value} {n : Nat} {V : Nat → Value} {X : Nat → List Int} {M : Nat → Prop} (h : Kpt S W v n V X) (k : Kp M W W') (h1 : ∀ g, v.ownBlock = some g → ¬ M g) (h2 : ∀ i, i < n → ∀ g, (V i).ownBlock = some g → ¬ M g) : Kpt S W' v n V X :=
  ⟨k.row h.row h1, fun i hi => k.row (h.own i hi) (h2 i hi), h.vv, h.nv⟩
theorem Kpt.below {S : Nat} {W W' : World} {v : Value} {n : Nat} {V : Nat → Value} {X : Nat → List Int} (h : Kpt S W v n V X) (k : Below W.heap.size W W') : Kpt S W' v n V X := h.kp (M := fun _ => False) (Kp.of k) (fun _ _ => id) (fun _ _ _ _ => id)
/-- What apart wants. -/
theorem Kpt.ls {S : Nat} {W : World} {n LB c : Nat} {V : Nat → Value} {X : Nat → List Int} (h : Kpt S W (.slice (some ⟨LB, 0, none⟩) n c) n V X) : Ls W.heap.size n LB V ∧ ∀ i, i < n → W.cell? ⟨LB, i, none⟩ = some (V i) :=
  ⟨⟨h.vv, fun i hi e => h.nv i hi LB rfl e, fun i hi g hg => ((h.own i hi).lt g hg).2, (h.row.lt LB rfl).2⟩, fun i hi => gl_cell h.row i hi⟩
/-- One list more. -/
theorem Kpt.more {S : Nat} {W : World} {v : Value} {n : Nat} {V : Nat → Value} {X : Nat → List Int} (h : Kpt S W v n V X) (a : Option Addr) (m : Nat) (x : List Int) (hS : S ≤ W.heap.size) (hn : (n + 1) * 24 ≤ 140737488355328) (o : W.ownsRow S 5 1 (.slice a x.length m) x.length (bc x)) (hnew : ∀ g, (Value.slice a x.length m).ownBlock = some g → ¬ v.ownBlock = some g ∧ ∀ i, i < n → ¬ (V i).ownBlock = some g) :
    ∃ g c w', (Builtin.append_ #[28, 28] 28 #[v, .slice (some ⟨W.heap.size, 0, none⟩) 1 1]).run Tryd.prog (W.alloc (.cells #[.slice a x.length m] 38)) = .ok (.slice (some ⟨g, 0, none⟩) (n + 1) c) w' ∧
      Kpt S w' (.slice (some ⟨g, 0, none⟩) (n + 1) c) (n + 1) (up V n (.slice a x.length m)) (up X n x) ∧ Kp (fun k => v.ownBlock = some k) W w' ∧ (v.ownBlock = some g ∨ W.heap.size ≤ g) := by
  obtain ⟨g, c, w', r, o', k, hg⟩ := append_v W S v (gl n V) a x.length m hS (by rw [gl_len]; exact hn) (by rw [gl_len]; exact h.row)
  rw [gl_len] at r o'
  have e : gl n V = gl n (up V n (.slice a x.length m)) := gl_congr _ _ _ (fun i hi => (up_other _ _ _ _ (by omega)).symm)
  have e2 : gl n V ++ [.slice a x.length m] = gl (n + 1) (up V n (.slice a x.length m)) := by rw [gl_succ, up_same, ← e]
  rw [e2] at o'
  refine ⟨g, c, w', r, ⟨o', fun i hi => ?_, fun i j hi hj hij b hb => ?_, fun i hi b hb => ?_⟩, k, hg⟩
  · by_cases hin : i = n
    · subst hin
      rw [up_same, up_same]
      exact k.row o (fun b hb e3 => (hnew b hb).1 e3)
    · rw [up_other _ _ _ _ hin, up_other _ _ _ _ hin]
      exact k.row (h.own i (by omega)) (fun b hb e3 => h.nv i (by omega) b e3 hb)
  · by_cases hin : i = n
    · subst hin
      rw [up_same] at hb
      rw [up_other _ _ _ _ (Ne.symm hij)]
      exact (hnew b hb).2 j (by omega)
    · rw [up_other _ _ _ _ hin] at hb
      by_cases hjn : j = n
      · subst hjn
        rw [up_same]
        exact fun e3 => (hnew b e3).2 i (by omega) hb
      · rw [up_other _ _ _ _ hjn]
        exact h.vv i j (by omega) (by omega) hij b hb
  · have eb : g = b := Option.some.inj hb
    subst eb
    have hlt : ∀ b, (up V n (.slice a x.length m) i).ownBlock = some b → b < W.heap.size ∧ ¬ v.ownBlock = some b := fun b hb => by
      by_cases hin : i = n
      · subst hin
        rw [up_same] at hb
        exact ⟨(o.lt b hb).2, (hnew b hb).1⟩
      · rw [up_other _ _ _ _ hin] at hb
        exact ⟨((h.own i (by omega)).lt b hb).2, fun e3 => h.nv i (by omega) b e3 hb⟩
    intro e3
    rcases hg with h4 | h4
    · exact (hlt g e3).2 h4
    · have := (hlt g e3).1; omega
end Go.Proofs.YtedlmjieclaojabDoor
