/- A bundle of texts. -/
import Derived.Test.YtmjenemjbpimcaaBk23
/- OverKeeps: samples written over. -/
namespace Go.Proofs.Ytmjenemjbpimcaa
open Go.RowKit

theorem sat_put {W : World} {g n : Nat} {s : Nat → Smp} (h : SAt W g 0 s n) (j : Nat) (x : Nat) : SAt (W.setCell ⟨g, j * 3 + 1, none⟩ (.float .f64 x)) g 0 (fun i => if i = j then ⟨(s i).t, x, (s i).s⟩ else s i) n := fun i hi => by
  obtain ⟨h1, h2, h3⟩ := h i hi
  rw [Nat.zero_add] at h1 h2 h3 ⊢
  have far : ∀ o v, o ≠ j * 3 + 1 → W.cell? ⟨g, o, none⟩ = some v → (W.setCell ⟨g, j * 3 + 1, none⟩ (.float .f64 x)).cell? ⟨g, o, none⟩ = some v := fun o v ho h => (World.cell?_setCell_other _ _ _ _ (fun e => ho (Addr.mk.inj e).2.1.symm)).trans h
  by_cases hij : i = j
  · subst hij
    dsimp only
    rw [if_pos rfl]
    exact ⟨far _ _ (by omega) h1, World.cell?_setCell_same _ _ _ h2, far _ _ (by omega) h3⟩
  · dsimp only
    rw [if_neg hij]
    exact ⟨far _ _ (by omega) h1, far _ _ (by omega) h2, far _ _ (by omega) h3⟩

/-- A window of the call's own whose values are written over. -/
def RKw (gf pi ga n cf : Nat) (F T N : Int) (og : Option Obj) (w0 : World) (m : Nat) (W : World) : Prop := ∃ s : Nat → Smp, SAt W gf 0 s n ∧ SW s n ∧ (∃ cur, W.heap[gf]? = some (.cells cur 37)) ∧ W.heap[pi]? = some (wnX (some ⟨gf, 0, none⟩) n cf F T N) ∧ W.heap[ga]? = og ∧ Below w0.heap.size w0 W ∧ m ≤ W.heap.size
theorem RKw.put {gf pi ga n cf : Nat} {F T N : Int} {og : Option Obj} {w0 W : World} {m : Nat} (h : RKw gf pi ga n cf F T N og w0 m W) (h1 : gf ≠ pi) (h2 : gf ≠ ga) (h3 : w0.heap.size ≤ gf) (j x : Nat) (hx : x < 18446744073709551616) : RKw gf pi ga n cf F T N og w0 m (W.setCell ⟨gf, j * 3 + 1, none⟩ (.float .f64 x)) := by
  obtain ⟨s, hat, hsw, ⟨cur, hcur⟩, hpi, hga, hb, hm⟩ := h
  refine ⟨_, sat_put hat j x, fun i hi => ?_, ?_, ?_, ?_, hb.setCell (p := ⟨gf, j * 3 + 1, none⟩) h3 _, ?_⟩
  · have := hsw i hi
    by_cases hij : i = j
    · dsimp only
      rw [if_pos hij]
      exact ⟨this.1, this.2.1, hx⟩
    · dsimp only
      rw [if_neg hij]
      exact this
  · rw [setCell_eq_setRow _ _ _ _ _ _ _ hcur]
    exact ⟨_, setRow_heap _ _ _ _ _ _ hcur⟩
  · exact (Below.heap_setCell _ _ _ _ (Ne.symm h1)).trans hpi
  · exact (Below.heap_setCell _ _ _ _ (Ne.symm h2)).trans hga
  · exact Nat.le_trans hm (by simp [World.setCell])
theorem RKw.drewN {gf pi ga n cf : Nat} {F T N : Int} {og : Option Obj} {w0 W : World} {m : Nat} (h : RKw gf pi ga n cf F T N og w0 m W) (q : Nat) : RKw gf pi ga n cf F T N og w0 m (W.drewN q) := by
  obtain ⟨s, hat, hsw, hc, hpi, hga, hb, hm⟩ := h
  exact ⟨s, hat, hsw, hc, hpi, hga, below_drewN hb q, hm⟩
theorem RKw.froz {gf pi ga n cf : Nat} {F T N : Int} {og : Option Obj} {w0 W : World} {m : Nat} (h : RKw gf pi ga n cf F T N og w0 m W) (o : Nat) : W.frozen? ⟨gf, o, none⟩ = false := by
  obtain ⟨s, hat, hsw, ⟨cur, hcur⟩, _⟩ := h
  unfold World.frozen?
  rw [hcur]
  simp
theorem pr_hyp {W : World} {S n c : Nat} {a : Option Addr} {s : Nat → Smp} (h : Pr W S (.slice a n c) (mvL s 0 n)) (hsw : SW s n) (hl : 24 * n ≤ 140737488355328) : HypW a n s W := by
  obtain ⟨a2, c2, e, hs, _, _⟩ := h.sml
  rw [mvL_len] at e hs
  obtain ⟨rfl, _, _⟩ := Value.slice.inj e
  refine ⟨?_, hsw, hl⟩
  rcases hs with h0 | ⟨g, o, rfl, hg, hat⟩
  · exact .inl h0
  · refine .inr ⟨g, o, rfl, hg, fun j hj => ?_⟩
    have h1 := hat j hj
    dsimp only at h1
    have e2 : (mvL s 0 n).getD j ⟨0, 0, false⟩ = s j := by
      rw [mvL_at s 0 n j hj]
      have := hsw j hj
      show (⟨wrap64 ((s j).t + 0), (s j).v, (s j).s⟩ : Smp) = s j
      rw [show wrap64 ((s j).t + 0) = (s j).t by unfold wrap64; omega]
    rw [e2] at h1
    exact h1
theorem fr_fm {W : World} {S n c : Nat} {a : Option Addr} {ys : List Nat} (h : Fr W S (.slice a n c) ys) : Fm W a ys := by
  obtain ⟨a2, c2, e, hm⟩ := h.fm
  obtain ⟨rfl, _, _⟩ := Value.slice.inj e
  exact hm
end Go.Proofs.Ytmjenemjbpimcaa
