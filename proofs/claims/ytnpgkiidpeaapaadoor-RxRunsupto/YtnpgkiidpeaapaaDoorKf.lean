/- pop, isEmpty: the walks. -/
import Derived.Test.YtnpgkiidpeaapaaDoorKe
namespace Go.Proofs.YtnpgkiidpeaapaaDoor
open Go.RowKit

theorem infTs : (Tryd.prog.info? 88).map (·.size) = some 2 := by kernel_rfl
theorem Tr.cells {w : World} {S n g c : Nat} {f : Nat → It} (h : Tr w S (.slice (some ⟨g, 0, none⟩) n c) n f) (j : Nat) (hj : j < n) : w.cell? ⟨g, j * 2, none⟩ = some (.int .i64 (f j).1) ∧ w.cell? ⟨g, j * 2 + 1, none⟩ = some (.int .i64 (f j).2) := by
  have h0 := World.ownsRow.cellAt h (j * 2 + 0) (by omega)
  have h1 := World.ownsRow.cellAt h (j * 2 + 1) (by omega)
  rw [tc_get f n j 0 hj (by omega)] at h0
  rw [tc_get f n j 1 hj (by omega)] at h1
  exact ⟨h0, h1⟩
theorem Tr.some {w : World} {S n : Nat} {v : Value} {f : Nat → It} (h : Tr w S v (n + 1) f) : ∃ g c, v = .slice (some ⟨g, 0, none⟩) (n + 1) c ∧ n + 1 ≤ c := by
  rcases h.2 with ⟨_, h0⟩ | ⟨g, c, cur, rfl, _, _, hc, _⟩
  · omega
  · exact ⟨g, c, rfl, hc⟩

set_option maxHeartbeats 2000000 in
set_option maxRecDepth 100000 in
theorem pop_top (w : World) (S b : Nat) (L : Nat → Prop) (τ : Nat → It) (N nf nt : Nat) (fv tv sv : Value) (fs : Nat → Value) (h : Stk w S b L τ (N + 1) nf (nt + 1) fv tv sv fs) :
    Calls Tryd.prog 35 #[.pointer (some ⟨b, 5, none⟩)] w fun r w' => r = .returned (iv (τ N)) ∧ Aft w w' S b L τ N := by
  obtain ⟨g, c, rfl, hc⟩ := h.top.some
  have hbb : b < w.heap.size := h.blt
  have hgl : g < w.heap.size := (row_lt h.top g rfl).2
  have hnt : nt + 1 ≤ 65536 := h.hnt
  have heN := h.eN
  obtain ⟨⟨xk, xi⟩, hx⟩ : ∃ x, τ N = x := ⟨_, rfl⟩
  obtain ⟨s2, k2, fl2⟩ := h.less
  obtain ⟨W2, hW2⟩ : ∃ W2, W2 = w.setCell ⟨b, 6, none⟩ (.slice (some ⟨g, 0, none⟩) nt c) := ⟨_, rfl⟩
  rw [← hW2] at s2 k2 fl2
  have hs2 : W2.heap.size = w.heap.size := by rw [hW2]; simp [World.setCell]
  have hb3 : Below W2.heap.size W2 ((W2.alloc (iX (xk, xi))).alloc (iX (xk, xi))) := (((Below.refl _ _).alloc (Nat.le_refl _) _).alloc (by simp) _)
  obtain ⟨W3, hW3⟩ : ∃ W3, W3 = (W2.alloc (iX (xk, xi))).alloc (iX (xk, xi)) := ⟨_, rfl⟩
  rw [← hW3] at hb3
  have AF : Hid (Aft w W3 S b L τ N) := ⟨L, ⟨_, _, _, _, _, _, s2.below hb3⟩, (k2.mono (fun _ _ e => .inl e)).trans (Kp.of hb3), fl2.trans (Fld.kp (Kp.of (M := fun _ => False) hb3) id), fun k hk => .inl hk⟩
  have HB3 : Hid (W3.heap[w.heap.size]? = some (.cells #[.int .i64 xk, .int .i64 xi] 88)) := by
    show _ = _
    rw [hW3, ← hs2]
    exact (Below.heap_alloc _ _ _ (by simp)).trans (heap_alloc_new W2 _)
  have c6 := h.c6
  have g6 := h.z6
  obtain ⟨a0, a1⟩ := h.top.cells nt (by omega)
  have e : τ (bq * nf + nt) = (xk, xi) := by rw [← hx]; congr 1; omega
  simp only [e] at a0 a1
  have z6 : (w.alloc (.cells #[.int .i64 0, .int .i64 0] 88)).cell? ⟨b, 6, none⟩ = some (.slice (some ⟨g, 0, none⟩) (nt + 1) c) := cell_al _ c6
  have z0 : (w.alloc (.cells #[.int .i64 0, .int .i64 0] 88)).cell? ⟨g, nt * 2, none⟩ = some (.int .i64 xk) := cell_al _ a0
  have z1 : (w.alloc (.cells #[.int .i64 0, .int .i64 0] 88)).cell? ⟨g, nt * 2 + 1, none⟩ = some (.int .i64 xi) := cell_al _ a1
  have HW3 : Hid (W3 = ((w.setCell ⟨b, 6, none⟩ (.slice (some ⟨g, 0, none⟩) nt c)).alloc (.cells #[.int .i64 xk, .int .i64 xi] 88)).alloc (.cells #[.int .i64 xk, .int .i64 xi] 88)) := by
    show _ = _
    rw [hW3, hW2]
  have hne : ¬ (nt : Int) + 1 = 0 := by omega
  rw [hx]
  clear h s2 k2 fl2 hb3 hW2 hW3 hx e heN hs2
  go_enter Tryd.func35, Tryd.ntmps35
  go_wp2
  rw [← HW3.out]
  refine bodyPost_ret (results_cell_row rfl _ _ w.heap.size 88 #[.int .i64 xk, .int .i64 xi] (0, 0) _ rfl HB3.out Tryd.underlying88 rfl infTs) rfl ?_
  exact ⟨rfl, AF.out⟩

set_option maxHeartbeats 2000000 in
set_option maxRecDepth 100000 in
theorem pop_open (w : World) (S b : Nat) (L : Nat → Prop) (τ : Nat → It) (N nf : Nat) (fv tv sv : Value) (fs : Nat → Value) (h : Stk w S b L τ (N + 1) (nf + 1) 0 fv tv sv fs) :
    Calls Tryd.prog 35 #[.pointer (some ⟨b, 5, none⟩)] w fun r w' => r = .returned (iv (τ N)) ∧ Aft w w' S b L τ N := by
  obtain ⟨fa0, fcp, rfl⟩ := slice_of h.full
  obtain ⟨fg, rfl, hnc⟩ : ∃ fg, fa0 = some ⟨fg, 0, none⟩ ∧ nf + 1 ≤ fcp := by
    rcases h.full.2 with ⟨_, h0⟩ | ⟨g, c, cur, hv, _, _, hc, _⟩
    · omega
    · cases hv
      exact ⟨g, rfl, hc⟩
  obtain ⟨ta, tcp, rfl⟩ := slice_of h.top
  obtain ⟨s2, k2, fl2⟩ := h.open'
  obtain ⟨e1, e2⟩ := h.each nf (by omega)
  obtain ⟨q, hq⟩ : ∃ q, bq = q + 1 := ⟨65535, rfl⟩
  have e1' := e1
  rw [hq] at e1'
  obtain ⟨g, c, hfs, hc⟩ := e1'.some
  rw [← hq] at hfs hc
  have cf : w.cell? ⟨fg, nf, none⟩ = some (.slice (some ⟨g, 0, none⟩) bq c) := by
    have := World.ownsRow.cellAt h.full nf (by omega)
    rw [sc_get fs (nf + 1) nf (by omega), hfs] at this
    exact this
  have nfb : fg ≠ b := (h.inL 0 fg rfl).2
  rw [hfs] at s2 k2 fl2 e1
  obtain ⟨W2, hW2⟩ : ∃ W2, W2 = ((w.setCell ⟨b, 7, none⟩ (.slice ta 0 tcp)).setCell ⟨b, 6, none⟩ (.slice (some ⟨g, 0, none⟩) bq c)).setCell ⟨b, 5, none⟩ (.slice (some ⟨fg, 0, none⟩) nf fcp) := ⟨_, rfl⟩
  rw [← hW2] at s2 k2 fl2
  have hs2 : W2.heap.size = w.heap.size := by rw [hW2]; simp [World.setCell]
  rw [hq] at s2
  obtain ⟨s3, k3, fl3⟩ := s2.less
  obtain ⟨⟨xk, xi⟩, hx⟩ : ∃ x, τ N = x := ⟨_, rfl⟩
  obtain ⟨W3, hW3⟩ : ∃ W3, W3 = W2.setCell ⟨b, 6, none⟩ (.slice (some ⟨g, 0, none⟩) q c) := ⟨_, rfl⟩
  rw [← hW3] at s3 k3 fl3
  have hs3 : W3.heap.size = w.heap.size := by rw [hW3, ← hs2]; simp [World.setCell]
  obtain ⟨W4, hW4⟩ : ∃ W4, W4 = ((W3.alloc (iX (xk, xi))).alloc (iX (xk, xi))).drew := ⟨_, rfl⟩
  have hb4 : Below W3.heap.size W3 W4 := by rw [hW4]; exact (((Below.refl _ _).alloc (Nat.le_refl _) _).alloc (by simp) _).drew
  have AF : Hid (Aft w W4 S b L τ N) := ⟨L, ⟨_, _, _, _, _, _, s3.below hb4⟩, ((k2.trans k3).mono (fun _ _ e => .inl e)).trans (Kp.of hb4), (fl2.trans fl3).trans (Fld.kp (Kp.of (M := fun _ => False) hb4) id), fun k hk => .inl hk⟩
  have HB4 : Hid (W4.heap[w.heap.size]? = some (.cells #[.int .i64 xk, .int .i64 xi] 88)) := by
    show _ = _
    rw [hW4, ← hs3]
    exact (Below.heap_alloc _ _ _ (by simp)).trans (heap_alloc_new W3 _)
  have c5 := h.c5
  have c6 := h.c6
  have c7 := h.c7
  have g5 := h.z5
  have g6 := h.z6
  have g7 := h.z7
  have heN := h.eN
  have hms : bq * (nf + 1) = bq * nf + bq := Nat.mul_succ _ _
  obtain ⟨a0, a1⟩ := e1.cells q (by omega)
  have e : τ (bq * nf + q) = (xk, xi) := by rw [← hx]; congr 1; omega
  simp only [e] at a0 a1
  have d5 := s2.c5
  have d6 := s2.c6
  have f6 := s2.z6
  have ng : g ≠ b := (s2.inL 1 g rfl).2
  have b0 := k2.cell a0 ng
  have b1 := k2.cell a1 ng
  have hgl : g < w.heap.size := World.block_lt_of_cell? w _ a0
  have hbl : b < w.heap.size := World.block_lt_of_cell? w _ c5
  have hfl : fg < w.heap.size := World.block_lt_of_cell? w _ cf
  have z5 : (w.alloc (.cells #[.int .i64 0, .int .i64 0] 88)).cell? ⟨b, 5, none⟩ = some (.slice (some ⟨fg, 0, none⟩) (nf + 1) fcp) := cell_al _ c5
  have z6 : (w.alloc (.cells #[.int .i64 0, .int .i64 0] 88)).cell? ⟨b, 6, none⟩ = some (.slice ta 0 tcp) := cell_al _ c6
  have z7 : (w.alloc (.cells #[.int .i64 0, .int .i64 0] 88)).cell? ⟨b, 7, none⟩ = some sv := cell_al _ c7
  have zf : (w.alloc (.cells #[.int .i64 0, .int .i64 0] 88)).cell? ⟨fg, nf, none⟩ = some (.slice (some ⟨g, 0, none⟩) bq c) := cell_al _ cf
  rw [hx]
  have hq16 : bq = 65536 := bq_eq
  have hN2 : nf + 1 ≤ 9223372036854775807 := by
    rcases h.full.2 with ⟨h0, _⟩ | ⟨g', cap, cur, hv, hB, hg, h1, h2, _⟩
    · cases h0
    · cases hv
      unfold maxLen at h2
      omega
  have HW2 : Hid (W2 = ((w.setCell ⟨b, 7, none⟩ (.slice ta 0 tcp)).setCell ⟨b, 6, none⟩ (.slice (some ⟨g, 0, none⟩) (q + 1) c)).setCell ⟨b, 5, none⟩ (.slice (some ⟨fg, 0, none⟩) nf fcp)) := by
    show _ = _
    rw [hW2, hq]
  have HW4 : Hid (W4 = (((W2.setCell ⟨b, 6, none⟩ (.slice (some ⟨g, 0, none⟩) q c)).alloc (.cells #[.int .i64 xk, .int .i64 xi] 88)).alloc (.cells #[.int .i64 xk, .int .i64 xi] 88)).drew) := by
    show _ = _
    rw [hW4, hW3]
  have HS2 : Hid (W2.heap.size = w.heap.size) := hs2
  have D6 : Hid (W2.cell? ⟨b, 6, none⟩ = some (.slice (some ⟨g, 0, none⟩) (q + 1) c)) := d6
  have E6 : Hid ((W2.alloc (.cells #[.int .i64 0, .int .i64 0] 88)).cell? ⟨b, 6, none⟩ = some (.slice (some ⟨g, 0, none⟩) (q + 1) c)) := cell_al _ d6
  have F6 : Hid (W2.frozen? ⟨b, 6, none⟩ = false) := f6
  have B0 : Hid (W2.cell? ⟨g, q * 2, none⟩ = some (.int .i64 xk)) := b0
  have B1 : Hid (W2.cell? ⟨g, q * 2 + 1, none⟩ = some (.int .i64 xi)) := b1
  have Y0 : Hid ((W2.alloc (.cells #[.int .i64 0, .int .i64 0] 88)).cell? ⟨g, q * 2, none⟩ = some (.int .i64 xk)) := cell_al _ b0
  have Y1 : Hid ((W2.alloc (.cells #[.int .i64 0, .int .i64 0] 88)).cell? ⟨g, q * 2 + 1, none⟩ = some (.int .i64 xi)) := cell_al _ b1
  have hq6 : (q : Int) ≤ 65535 := by omega
  have hqc : q + 1 ≤ c := by omega
  clear h s2 s3 k2 k3 fl2 fl3 hb4 hW4 hx e heN hms e1 e1' hfs e2 hW2 hW3 d5 d6 f6 b0 b1 hs2 hs3 a0 a1 hc hq16
  go_enter Tryd.func35, Tryd.ntmps35
  go_wp2_with fail
  go_region
  rw [← HW2.out, ← HS2.out]
  clear z5 z6 z7 zf c5 c6 c7 cf g5 g6 g7 hgl hbl hfl
  have d6 := D6.out
  have e6 := E6.out
  have f6 := F6.out
  have b0 := B0.out
  have b1 := B1.out
  have y0 := Y0.out
  have y1 := Y1.out
  have hgl := World.block_lt_of_cell? W2 _ b0
  have hbl := World.block_lt_of_cell? W2 _ d6
  go_wp2
  rw [← HW4.out]
  refine bodyPost_ret (results_cell_row rfl _ _ w.heap.size 88 #[.int .i64 xk, .int .i64 xi] (0, 0) _ (by rw [← HS2.out]; rfl) HB4.out Tryd.underlying88 rfl infTs) rfl ?_
  exact ⟨rfl, AF.out⟩
theorem pop_any (w : World) (S b : Nat) (L : Nat → Prop) (τ : Nat → It) (N : Nat) (h : Sk w S b L τ (N + 1)) :
    Calls Tryd.prog 35 #[.pointer (some ⟨b, 5, none⟩)] w fun r w' => r = .returned (iv (τ N)) ∧ Aft w w' S b L τ N := by
  obtain ⟨nf, nt, fv, tv, sv, fs, h⟩ := h
  cases nt with
  | zero =>
    cases nf with
    | zero => have := h.eN; omega
    | succ nf => exact pop_open w S b L τ N nf fv tv sv fs h
  | succ nt => exact pop_top w S b L τ N nf nt fv tv sv fs h
set_option maxHeartbeats 2000000 in
theorem empty_any (w : World) (S b : Nat) (L : Nat → Prop) (τ : Nat → It) (N : Nat) (h : Sk w S b L τ N) (hN : N * 16 ≤ 140737488355328) :
    Calls Tryd.prog 34 #[.pointer (some ⟨b, 5, none⟩)] w fun r w' => r = .returned (.bool (decide (N = 0))) ∧ Below w.heap.size w w' := by
  obtain ⟨nf, nt, fv, tv, sv, fs, h⟩ := h
  obtain ⟨ta, tcp, rfl⟩ := slice_of h.top
  obtain ⟨fa, fcp, rfl⟩ := slice_of h.full
  have c5 := h.c5
  have c6 := h.c6
  have heN := h.eN
  have h1 : nf ≤ bq * nf := Nat.le_mul_of_pos_left _ (by rw [bq_eq]; decide)
  have hv : (N = 0) ↔ ((nt : Int) + (nf : Int) = 0) := by
    have h2 : nf = 0 → bq * nf = 0 := fun e => by rw [e, Nat.mul_zero]
    omega
  have hb1 : (nt : Int) ≤ 140737488355328 := by omega
  have hb2 : (nf : Int) ≤ 140737488355328 := by omega
  have HV : Hid (decide (N = 0) = decide ((nt : Int) + (nf : Int) = 0)) := by
    show _ = _
    rw [decide_eq_decide]
    exact hv
  clear h hv heN h1 hN
  rw [HV.out]
  go_enter Tryd.func34, Tryd.ntmps34
  go_wp2_with fail
  go_region
  go_wp2
  go_ret
  exact ⟨rfl, (Below.refl _ _).drew⟩
end Go.Proofs.YtnpgkiidpeaapaaDoor
