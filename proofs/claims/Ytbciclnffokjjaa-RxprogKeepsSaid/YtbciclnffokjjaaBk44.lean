/- A bundle of texts. -/
import Derived.Test.YtbciclnffokjjaaBk43
/- Words: repeatsOf. -/
namespace Go.Proofs.Ytbciclnffokjjaa
open Go.RowKit

theorem StV.own {S : Nat} {w : World} {v : Value} {m : Bool} {r : Sto} (h : StV S w v m r) : ∀ i, v.ownBlock = some i → S ≤ i ∧ i < w.heap.size := fun i e => by
  rcases h with ⟨_, rfl, _⟩ | ⟨L, _, _, ho⟩
  · cases e
  · exact ho.lt i e
theorem kp_two {w : World} {B : Nat} {v : Value} {m : Bool} : Kp (fun k => k = B) w ((w.setCell ⟨B, 0, none⟩ v).setCell ⟨B, 1, none⟩ (.bool m)) := ((Kp.refl (fun k => k = B) w).setCell (p := ⟨B, 0, none⟩) (show B = B from rfl) _).setCell (p := ⟨B, 1, none⟩) (show B = B from rfl) _
theorem kx_two {w : World} {B : Nat} {v u : Value} {m n : Bool} (h : w.heap[B]? = some (kX u n)) : ((w.setCell ⟨B, 0, none⟩ v).setCell ⟨B, 1, none⟩ (.bool m)).heap[B]? = some (kX v m) := by simp [World.setCell, Array.getElem?_modify, h]
/-- A row under way: a box with a stock; all else is as it was. -/
structure RwI (V : World) (RB : Nat) (r : Sto) (w' : World) (v : Value) (m : Bool) : Prop where
  box : w'.heap[RB]? = some (kX v m)
  st : ∃ S, StV S w' v m r
  ap : v.ownBlock ≠ some RB
/-- One joining: the row's box takes what joined answers. -/
theorem RwI.next {V : World} {RB : Nat} {r K : Sto} {wr w5 : World} {v u : Value} {m n : Bool} (h : RwI V RB r wr v m) (hl : RB < wr.heap.size) (hs : StV wr.heap.size w5 u n (jnS r K)) (hb : Below wr.heap.size wr w5) : RwI V RB (jnS r K) ((w5.setCell ⟨RB, 0, none⟩ u).setCell ⟨RB, 1, none⟩ (.bool n)) u n := by
  have hap : u.ownBlock ≠ some RB := fun e => by have := (hs.own RB e).1; omega
  exact ⟨kx_two ((hb.block RB hl).trans h.box), ⟨_, hs.kp kp_two (fun i e hi => hap (by rw [← (show i = RB from hi)]; exact e))⟩, hap⟩
theorem pow_sz {K : Sto} (h : Szs K 40000) (n : Nat) (hn : n ≤ 1000) : Szs (powS K n) 1000000000000 := by
  refine (h.pow n).mono ?_
  have : n * 40000 ≤ 1000 * 40000 := Nat.mul_le_mul_right _ hn
  omega
end Go.Proofs.Ytbciclnffokjjaa
