/- push: the walk. -/
import Derived.Test.YtnpgkiidpeaapaaDoorKc
namespace Go.Proofs.YtnpgkiidpeaapaaDoor
open Go.RowKit

/-- A stack, whatever its blocks. -/
def Sk (w : World) (S b : Nat) (L : Nat → Prop) (τ : Nat → It) (N : Nat) : Prop := ∃ nf nt fv tv sv fs, Stk w S b L τ N nf nt fv tv sv fs
/-- What a call on the stack leaves. -/
def Aft (w w' : World) (S b : Nat) (L : Nat → Prop) (τ : Nat → It) (N : Nat) : Prop := ∃ L', Sk w' S b L' τ N ∧ Kp (fun k => k = b ∨ L k) w w' ∧ Fld b w w' ∧ ∀ k, L' k → L k ∨ w.heap.size ≤ k

set_option maxHeartbeats 2000000 in
set_option maxRecDepth 100000 in
theorem push_top (w : World) (S b : Nat) (L : Nat → Prop) (τ : Nat → It) (N nf nt : Nat) (fv tv sv : Value) (fs : Nat → Value) (x : It) (h : Stk w S b L τ N nf nt fv tv sv fs) (hS : S ≤ w.heap.size) (hl : nt < bq) :
    Calls Tryd.prog 33 #[.pointer (some ⟨b, 5, none⟩), iv x] w fun r w' => r = .returned (.tuple #[]) ∧ Aft w w' S b L (up τ N x) (N + 1) := by
  have hb0 : Below w.heap.size w (w.alloc (iX x)).drew := ((Below.refl _ w).alloc (Nat.le_refl _) _).drew
  have h1 := h.below hb0
  obtain ⟨g, c, w2, r, s2, k2, fl2, q6, f6⟩ := h1.last (by simp; omega) hl x
  have hlq : nt < 65536 := hl
  obtain ⟨xk, xi⟩ := x
  have AF : Hid (Aft w (w2.setCell ⟨b, 6, none⟩ (.slice (some ⟨g, 0, none⟩) (nt + 1) c)) S b L (up τ N (xk, xi)) (N + 1)) := by
    refine ⟨_, ⟨_, _, _, _, _, _, s2⟩, (Kp.of hb0).trans k2, (Fld.kp (Kp.of (M := fun _ => False) hb0) id).trans fl2, fun k hk => ?_⟩
    rcases hk with hk | hk
    · exact .inl hk
    · have := hk.1
      simp at this
      exact .inr (by omega)
  obtain ⟨ta, tcp, rfl⟩ := slice_of h.top
  have c6 := h.c6
  have d6 : (w.alloc (.cells #[.int .i64 xk, .int .i64 xi] 88)).cell? ⟨b, 6, none⟩ = some (.slice ta nt tcp) := cell_al _ c6
  have e6 : ((w.alloc (.cells #[.int .i64 xk, .int .i64 xi] 88)).alloc (.cells #[.int .i64 xk, .int .i64 xi] 88)).cell? ⟨b, 6, none⟩ = some (.slice ta nt tcp) := cell_al _ d6
  have r' : (Builtin.append_ #[72, 72] 72 #[.slice ta nt tcp, .slice (some ⟨w.heap.size + 1, 0, none⟩) 1 1]).run Tryd.prog ((w.alloc (.cells #[.int .i64 xk, .int .i64 xi] 88)).alloc (.cells #[.int .i64 xk, .int .i64 xi] 88)).drew = .ok (.slice (some ⟨g, 0, none⟩) (nt + 1) c) w2 := by
    have := r
    rw [show (w.alloc (iX (xk, xi))).drew.heap.size = w.heap.size + 1 by simp] at this
    exact this
  have hne : ¬ (nt : Int) = 65536 := by omega
  clear h h1 s2 k2 fl2 hb0 r hl hlq
  show Calls Tryd.prog 33 #[.pointer (some ⟨b, 5, none⟩), .agg #[.int .i64 xk, .int .i64 xi]] w _
  go_enter Tryd.func33, Tryd.ntmps33
  go_wp2_with fail
  go_region_law (refine step_append_run rfl (.tmp 37) (.tmp 39) 72 72 rfl _ _ rfl rfl r' ?_)
  all_goals go_wp2
  all_goals go_end0
  all_goals exact ⟨rfl, AF.out⟩

set_option maxHeartbeats 4000000 in
set_option maxRecDepth 100000 in
theorem push_turn (w : World) (S b : Nat) (L : Nat → Prop) (τ : Nat → It) (N nf : Nat) (fv tv sv : Value) (fs : Nat → Value) (x : It) (h : Stk w S b L τ N nf bq fv tv sv fs) (hS : S ≤ w.heap.size) (hN : (N + 1) * 16 ≤ 140737488355328) :
    Calls Tryd.prog 33 #[.pointer (some ⟨b, 5, none⟩), iv x] w fun r w' => r = .returned (.tuple #[]) ∧ Aft w w' S b L (up τ N x) (N + 1) := by
  have hb0 : Below w.heap.size w (w.alloc (iX x)).drew := ((Below.refl _ w).alloc (Nat.le_refl _) _).drew
  have h1 := h.below hb0
  have hsz : (w.alloc (iX x)).drew.heap.size = w.heap.size + 1 := by simp
  obtain ⟨g, c, w2, r, s2, k2, fl2, p5, z5, p6, z6, p7, z7⟩ := h1.turn (by omega) hN
  obtain ⟨W, hW⟩ : ∃ W, W = ((w2.setCell ⟨b, 5, none⟩ (.slice (some ⟨g, 0, none⟩) (nf + 1) c)).setCell ⟨b, 6, none⟩ sv).setCell ⟨b, 7, none⟩ (.slice none 0 0) := ⟨_, rfl⟩
  rw [← hW] at s2 k2 fl2
  have hWs : (w.alloc (iX x)).drew.heap.size ≤ W.heap.size := k2.size
  have hWw : W.heap.size = w2.heap.size := by rw [hW]; simp [World.setCell]
  have hb2 : Below W.heap.size W W.drew := (Below.refl _ _).drew
  have s3 := s2.below hb2
  obtain ⟨g', c', w3, r3, s4, k4, fl4, q6, f6⟩ := s3.last (by show S ≤ W.heap.size; omega) (by rw [bq_eq]; decide) x
  have nx : ¬ (w.heap.size = b ∨ L w.heap.size) := fun e => by
    rcases e with e | e
    · have := h.blt; omega
    · have := h.lt _ e; omega
  have x0 := k2.cell (p := ⟨w.heap.size, 0, none⟩) (iX_cell w x 0 _ rfl : (w.alloc (iX x)).drew.cell? _ = _) nx
  have x1 := k2.cell (p := ⟨w.heap.size, 1, none⟩) (iX_cell w x 1 _ rfl : (w.alloc (iX x)).drew.cell? _ = _) nx
  have AF : Hid (Aft w (w3.setCell ⟨b, 6, none⟩ (.slice (some ⟨g', 0, none⟩) (0 + 1) c')) S b L (up τ N x) (N + 1)) := by
    refine ⟨_, ⟨_, _, _, _, _, _, s4⟩, (((Kp.of hb0).trans k2).trans (Kp.of hb2)).trans' (k4.mono (N := fun k => k = b ∨ more L (w.alloc (iX x)).drew w2 k) (fun i _ e => e)) (fun i hi e => ?_), ((Fld.kp (Kp.of (M := fun _ => False) hb0) id).trans fl2).trans ((Fld.kp (Kp.of (M := fun _ => False) hb2) id).trans fl4), fun k hk => ?_⟩
    · rcases e with e | e | e
      · exact .inl e
      · exact .inr e
      · have := e.1; omega
    · rcases hk with (hk | hk) | hk
      · exact .inl hk
      · exact .inr (by have := hk.1; omega)
      · exact .inr (by have : W.heap.size ≤ k := hk.1; omega)
  obtain ⟨xk, xi⟩ := x
  obtain ⟨ta, tcp, rfl⟩ := slice_of h.top
  obtain ⟨fa, fcp, rfl⟩ := slice_of h.full
  obtain ⟨sa, scp, rfl⟩ := slice_of h.spare
  have c6 := h.c6
  have c5 := h.c5
  have d6 : (w.alloc (.cells #[.int .i64 xk, .int .i64 xi] 88)).cell? ⟨b, 6, none⟩ = some (.slice ta bq tcp) := cell_al _ c6
  have d5 : (w.alloc (.cells #[.int .i64 xk, .int .i64 xi] 88)).cell? ⟨b, 5, none⟩ = some (.slice fa nf fcp) := cell_al _ c5
  have e5 : ((w.alloc (.cells #[.int .i64 xk, .int .i64 xi] 88)).alloc (.cells #[.slice ta bq tcp] 72)).cell? ⟨b, 5, none⟩ = some (.slice fa nf fcp) := cell_al _ d5
  have e6 : ((w.alloc (.cells #[.int .i64 xk, .int .i64 xi] 88)).alloc (.cells #[.slice ta bq tcp] 72)).cell? ⟨b, 6, none⟩ = some (.slice ta bq tcp) := cell_al _ d6
  have r' : (Builtin.append_ #[71, 71] 71 #[.slice fa nf fcp, .slice (some ⟨w.heap.size + 1, 0, none⟩) 1 1]).run Tryd.prog ((w.alloc (.cells #[.int .i64 xk, .int .i64 xi] 88)).alloc (.cells #[.slice ta bq tcp] 72)).drew = .ok (.slice (some ⟨g, 0, none⟩) (nf + 1) c) w2 := by
    have := r
    rw [hsz] at this
    exact this
  have y6 : W.cell? ⟨b, 6, none⟩ = some (.slice sa 0 scp) := s2.c6
  have v0 : (W.alloc (.cells #[.int .i64 xk, .int .i64 xi] 88)).cell? ⟨w.heap.size, 0, none⟩ = some (.int .i64 xk) := cell_al _ x0
  have v1 : (W.alloc (.cells #[.int .i64 xk, .int .i64 xi] 88)).cell? ⟨w.heap.size, 1, none⟩ = some (.int .i64 xi) := cell_al _ x1
  have v6 : (W.alloc (.cells #[.int .i64 xk, .int .i64 xi] 88)).cell? ⟨b, 6, none⟩ = some (.slice sa 0 scp) := cell_al _ y6
  have r3' : (Builtin.append_ #[72, 72] 72 #[.slice sa 0 scp, .slice (some ⟨W.heap.size, 0, none⟩) 1 1]).run Tryd.prog (W.alloc (.cells #[.int .i64 xk, .int .i64 xi] 88)).drew = .ok (.slice (some ⟨g', 0, none⟩) (0 + 1) c') w3 := r3
  have hq : (bq : Int) = 65536 := by rw [bq_eq]; rfl
  have HW : Hid (W = ((w2.setCell ⟨b, 5, none⟩ (.slice (some ⟨g, 0, none⟩) (nf + 1) c)).setCell ⟨b, 6, none⟩ (.slice sa 0 scp)).setCell ⟨b, 7, none⟩ (.slice none 0 0)) := hW
  have t6 : (w2.setCell ⟨b, 5, none⟩ (.slice (some ⟨g, 0, none⟩) (nf + 1) c)).cell? ⟨b, 6, none⟩ = some (.slice ta bq tcp) := by rw [World.cell?_setCell_other _ _ _ _ (by simp)]; exact p6
  have t7 : (w2.setCell ⟨b, 5, none⟩ (.slice (some ⟨g, 0, none⟩) (nf + 1) c)).cell? ⟨b, 7, none⟩ = some (.slice sa 0 scp) := by rw [World.cell?_setCell_other _ _ _ _ (by simp)]; exact p7
  have u7 : ((w2.setCell ⟨b, 5, none⟩ (.slice (some ⟨g, 0, none⟩) (nf + 1) c)).setCell ⟨b, 6, none⟩ (.slice sa 0 scp)).cell? ⟨b, 7, none⟩ = some (.slice sa 0 scp) := by rw [World.cell?_setCell_other _ _ _ _ (by simp)]; exact t7
  clear h h1 s2 k2 fl2 hb0 r hsz s3 s4 k4 fl4 r3 hW hWs hWw hb2 nx
  generalize bq = Q at *
  show Calls Tryd.prog 33 #[.pointer (some ⟨b, 5, none⟩), .agg #[.int .i64 xk, .int .i64 xi]] w _
  go_enter Tryd.func33, Tryd.ntmps33
  go_wp2_with fail
  go_region_law (refine step_append_run rfl (.tmp 14) (.tmp 19) 71 71 rfl _ _ rfl rfl r' ?_)
  all_goals go_wp2_with fail
  all_goals rw [← HW.out]
  all_goals go_region_law (refine step_append_run rfl (.tmp 37) (.tmp 39) 72 72 rfl _ _ rfl rfl r3' ?_)
  all_goals go_wp2
  all_goals go_end0
  all_goals exact ⟨rfl, AF.out⟩
theorem push_any (w : World) (S b : Nat) (L : Nat → Prop) (τ : Nat → It) (N : Nat) (x : It) (h : Sk w S b L τ N) (hS : S ≤ w.heap.size) (hN : (N + 1) * 16 ≤ 140737488355328) :
    Calls Tryd.prog 33 #[.pointer (some ⟨b, 5, none⟩), iv x] w fun r w' => r = .returned (.tuple #[]) ∧ Aft w w' S b L (up τ N x) (N + 1) := by
  obtain ⟨nf, nt, fv, tv, sv, fs, h⟩ := h
  by_cases e : nt = bq
  · subst e
    exact push_turn w S b L τ N nf fv tv sv fs x h hS hN
  · exact push_top w S b L τ N nf nt fv tv sv fs x h hS (by have := h.hnt; omega)
end Go.Proofs.YtnpgkiidpeaapaaDoor
