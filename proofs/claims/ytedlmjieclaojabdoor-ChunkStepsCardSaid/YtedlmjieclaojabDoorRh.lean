/- The reference: the row of a list under way. -/
import Derived.Test.YtedlmjieclaojabDoorRf
import Derived.Test.YtedlmjieclaojabDoorRg
namespace Go.Proofs.YtedlmjieclaojabDoor
open Go.RowKit

theorem value_any (S : Nat) (v : Value) (L : List Int) (x fr to : Nat) (w : World) (h : Rw S w v L) (hL : L.length + 300 ≤ 140737488355328) (hx : x < 18446744073709551616) (hfr : (fr = 0 ∧ to = 0) ∨ (fr < to ∧ to ≤ 64)) :
    Calls Tryd.prog 42 #[v, .int .u64 (x : Nat), frV fr to] w (VlR S v L x fr to w) := by
  by_cases h0 : x = 0
  · subst h0
    exact value_zero S v L fr to w h hL
  · cases hc : cov x fr to
    · exact value_new S v L x fr to w h hL h0 hx hfr hc
    · refine value_cov S v L x fr to w h hL h0 hx ?_ hc
      have hc' : fr ≤ lz x ∧ 64 - tz x ≤ to := by simpa [cov] using hc
      have := (tz_spec x (by omega) hx).1
      rcases hfr with h | h
      · omega
      · exact h
/-- The row of a list under way: its box of the frame. -/
structure Rn (S F : Nat) (w W : World) (v : Value) (fr to : Nat) (L : List Int) : Prop where
  rw : Rw S W v L
  f0 : W.cell? ⟨F, 0, none⟩ = some (.bool (isF to))
  f1 : W.cell? ⟨F, 1, none⟩ = some (.int .i64 (fr : Nat))
  f2 : W.cell? ⟨F, 2, none⟩ = some (.int .i64 (rF to : Nat))
  fz : ∀ i, W.frozen? ⟨F, i, none⟩ = false
  nf : v.ownBlock ≠ some F
  sf : S ≤ F
  bl : Below S w W
  sw : S = w.heap.size
section
variable {S F : Nat} {w W W' : World} {v : Value} {fr to : Nat} {L X : List Int} {e : Ending}
theorem Rn.step (h : Rn S F w W v fr to L) (q : Nq S v L X W e W') : ∃ v', e = .returned v' ∧ Rn S F w W' v' fr to (L ++ X) := by
  obtain ⟨v', rfl, r', s', k'⟩ := q
  have lf := World.block_lt_of_cell? W _ h.f0
  have nm : ¬ v.ownBlock = some F := h.nf
  refine ⟨v', rfl, r', k'.cell h.f0 nm, k'.cell h.f1 nm, k'.cell h.f2 nm, fun i => by rw [World.frozen?_of_block (w := W) (k'.block F lf nm)]; exact h.fz i, fun e => h.nf (s' F e lf), h.sf, h.bl.trans (k'.below h.rw.SS (fun k hk e => by have := (h.rw.base k e).1; omega)), h.sw⟩
theorem Rn.below (h : Rn S F w W v fr to L) (k : Below W.heap.size W W') : Rn S F w W' v fr to L :=
  ⟨h.rw.below k, bcell2 k h.f0, bcell2 k h.f1, bcell2 k h.f2, fun i => by rw [World.frozen?_of_block (w := W) (k.block F (World.block_lt_of_cell? W _ h.f0))]; exact h.fz i, h.nf, h.sf, h.bl.trans (k.mono h.rw.SS), h.sw⟩
theorem Rn.val (h : Rn S F w W v fr to L) {x : Nat} (q : VlR S v L x fr to W e W') :
    ∃ v', e = .returned (.tuple #[v', frV (vfr x fr to) (vto x fr to)]) ∧ (∃ u0 u1 u2, W'.cell? ⟨F, 0, none⟩ = some (.bool u0) ∧ W'.cell? ⟨F, 1, none⟩ = some (.int .i64 u1) ∧ W'.cell? ⟨F, 2, none⟩ = some (.int .i64 u2)) ∧ (∀ i, W'.frozen? ⟨F, i, none⟩ = false) ∧
      Rn S F w (st3 W' F (isF (vto x fr to)) (vfr x fr to : Nat) (rF (vto x fr to) : Nat)) v' (vfr x fr to) (vto x fr to) (L ++ vlu x fr to) := by
  obtain ⟨v', rfl, r', s', k'⟩ := q
  have lf := World.block_lt_of_cell? W _ h.f0
  have nm : ¬ v.ownBlock = some F := h.nf
  have g0 := k'.cell h.f0 nm
  have g1 := k'.cell h.f1 nm
  have g2 := k'.cell h.f2 nm
  have gz : ∀ i, W'.frozen? ⟨F, i, none⟩ = false := fun i => by rw [World.frozen?_of_block (w := W) (k'.block F lf nm)]; exact h.fz i
  have nf' : v'.ownBlock ≠ some F := fun e => h.nf (s' F e lf)
  have kk : Kp (fun k => k = F) W' (st3 W' F (isF (vto x fr to)) (vfr x fr to : Nat) (rF (vto x fr to) : Nat)) := by
    unfold st3
    exact (((Kp.refl (fun k => k = F) W').setCell (p := ⟨F, 0, none⟩) rfl _).setCell (p := ⟨F, 1, none⟩) rfl _).setCell (p := ⟨F, 2, none⟩) rfl _
  obtain ⟨c0, c1, c2⟩ := st3_cells W' F (isF (vto x fr to)) (vfr x fr to : Nat) (rF (vto x fr to) : Nat) _ _ _ g0 g1 g2
  have b1 : Below S w W' := h.bl.trans (k'.below h.rw.SS (fun k hk e => by have := (h.rw.base k e).1; omega))
  refine ⟨v', rfl, ⟨_, _, _, g0, g1, g2⟩, gz, r'.kp kk (fun g hg e => nf' (e ▸ hg)), c0, c1, c2, fun i => ?_, nf', h.sf, b1.trans (kk.below r'.SS (fun k hk e => by have := h.sf; omega)), h.sw⟩
  unfold st3
  rw [World.frozen?_setCell, World.frozen?_setCell, World.frozen?_setCell]
  exact gz i
end
theorem wrap_w64 (x : Int) : IntKind.u64.wrap x = (w64 x : Nat) := by rw [IntKind.wrap_u64, w64_cast]
theorem make_b (w : World) (n : Nat) (hn : n ≤ 140737488355328) : ∃ w', (Instr.makeSlice 38 (.int .i64 0) (.int .i64 (n : Nat))).run Tryd.prog w = .ok (.slice (some ⟨w.heap.size, 0, none⟩) 0 n) w' ∧ Rw w.heap.size w' (.slice (some ⟨w.heap.size, 0, none⟩) 0 n) [] ∧ Below w.heap.size w w' := by
  obtain ⟨i0, hi, hz0, hz1, hz2⟩ := info_parts info5
  obtain ⟨w2, r2, o2, g2⟩ := run_make_own (P := Tryd.prog) w w.heap.size 38 5 i0 _ 1 Tryd.underlying38 hi hz0 hz1 .i64 .i64 n (by rw [hz2]; omega) (by unfold maxLen; omega) (Nat.le_refl _)
  have b : Below w.heap.size w w2 := (Below.refl _ _).grown g2 (Nat.le_refl _) (fun k hk => by cases hk)
  exact ⟨w2, r2, ⟨o2, b.size⟩, b⟩
theorem frm_len (l : List Smp) (hl : ∀ x ∈ l, Sok x) (hn : l.length ≤ 100000) (i N : Nat) : (nb N 17 ++ bod t0 (l.take i)).length ≤ 17000000 := by
  have := bod_len (l.take i) t0 gt0 (fun x hx => hl x (List.mem_of_mem_take hx))
  rw [List.length_append, nb_len]
  have h2 : (l.take i).length ≤ 100000 := by rw [List.length_take]; omega
  omega
end Go.Proofs.YtedlmjieclaojabDoor
