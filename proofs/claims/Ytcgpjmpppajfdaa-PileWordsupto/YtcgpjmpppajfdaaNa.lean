/- A nil pile. -/
import Derived.Test.YtcgpjmpppajfdaaSa
import Derived.Test.YtcgpjmpppajfdaaIb
namespace Go.Proofs.Ytcgpjmpppajfdaa
open Go.RowKit Go.Shelf

attribute [local go_sem] Oper.semAt_some

theorem ppush_nil (x : It) (w : World) : Calls Try.prog 13 #[.pointer none, iv x] w fun r w' => r = .returned (.tuple #[]) ∧ Below w.heap.size w w' := by
  obtain ⟨xk, xi⟩ := x
  show Calls Try.prog 13 #[.pointer none, .agg #[.int .i64 xk, .int .i64 xi]] w _
  have HB : Hid (Below w.heap.size w (w.alloc (.cells #[.int .i64 xk, .int .i64 xi] 24))) := (Below.refl _ w).alloc (Nat.le_refl _) _
  go_enter Try.func13, Try.ntmps13
  go_wp2
  refine bodyPost_ret (results_none rfl _ _ _) rfl ?_
  exact ⟨rfl, HB.out⟩
theorem ppop_nil (w : World) : Calls Try.prog 14 #[.pointer none] w fun r w' => r = .returned (.tuple #[.agg #[.int .i64 0, .int .i64 0], .bool false]) ∧ Below w.heap.size w w' := by
  have HG : Hid (((w.alloc (iX (0, 0))).alloc (iX (0, 0))).heap[w.heap.size]? = some (.cells #[.int .i64 0, .int .i64 0] 24)) := (Below.heap_alloc _ _ _ (by simp)).trans (heap_alloc_new w _)
  have HB : Hid (Below w.heap.size w ((w.alloc (iX (0, 0))).alloc (iX (0, 0)))) := ((Below.refl _ w).alloc (Nat.le_refl _) _).alloc (by simp) _
  go_enter Try.func14, Try.ntmps14
  go_wp2_with fail
  refine (len_nil _).mono ?_
  rintro r w2 ⟨rfl, rfl⟩
  go_wp2
  refine bodyPost_ret (results_it rfl _ _ w.heap.size 0 0 rfl HG.out) rfl ?_
  exact ⟨rfl, HB.out⟩
theorem peek_nil (w : World) : Calls Try.prog 17 #[.pointer none] w fun r w' => r = .returned (.tuple #[.agg #[.int .i64 0, .int .i64 0], .bool false]) ∧ Below w.heap.size w w' := by
  have HG : Hid (((w.alloc (iX (0, 0))).alloc (iX (0, 0))).heap[w.heap.size]? = some (.cells #[.int .i64 0, .int .i64 0] 24)) := (Below.heap_alloc _ _ _ (by simp)).trans (heap_alloc_new w _)
  have HB : Hid (Below w.heap.size w ((w.alloc (iX (0, 0))).alloc (iX (0, 0)))) := ((Below.refl _ w).alloc (Nat.le_refl _) _).alloc (by simp) _
  go_enter Try.func17, Try.ntmps17
  go_wp2_with fail
  refine (len_nil _).mono ?_
  rintro r w2 ⟨rfl, rfl⟩
  go_wp2
  refine bodyPost_ret (results_it rfl _ _ w.heap.size 0 0 rfl HG.out) rfl ?_
  exact ⟨rfl, HB.out⟩
theorem eq_seq (Bp : Nat) (w : World) : (binOp .eql 39 (.func (.func 43) #[] #[.pointer (some ⟨Bp, 0, none⟩)]) .nilFunc).run Try.prog w = .ok (.bool false) w := by kernel_rfl
theorem keeps_below {B : Nat} {W W' : World} (h : Below W.heap.size W W') : KeepsFrom B W W' := ⟨h.size, fun k _ _ hk _ => (h.block k (Array.getElem?_eq_some_iff.1 hk).1).trans hk⟩
theorem keeps_kp {B : Nat} {M : Nat → Prop} {W W' : World} (h : Kp M W W') (hm : ∀ k o, M k → W.heap[k]? = some o → o.isCells = true) : KeepsFrom B W W' := ⟨h.size, fun k o _ hk hc => (h.block k (Array.getElem?_eq_some_iff.1 hk).1 (fun x => by rw [hm k o x hk] at hc; cases hc)).trans hk⟩

set_option maxRecDepth 100000 in
set_option maxHeartbeats 4000000 in
theorem drained_nil (Bp : Nat) (x : It) (w : World) (hBp : w.cell? ⟨Bp, 0, none⟩ = some (.pointer none)) :
    Calls Try.prog 19 #[.pointer none, .func (.func 43) #[] #[.pointer (some ⟨Bp, 0, none⟩)], .int .i64 1, .int .i64 0, .bool false, iv x] w fun e w' => e = .returned (.slice none 0 0) ∧ Below w.heap.size w w' := by
  refine (callsIn_wide (n := 3)).1 ?_
  obtain ⟨xk, xi⟩ := x
  have hne := fun w' => eq_seq Bp w'
  obtain ⟨W0, hW0⟩ : ∃ W0, W0 = (((((w.alloc (.cells #[.pointer none] 28)).alloc (.cells #[.int .i64 1] 3)).alloc (.cells #[.int .i64 0] 3)).alloc (.cells #[.bool false] 4)).alloc (.cells #[.int .i64 xk, .int .i64 xi] 24)).alloc (.cells #[.slice none 0 0] 22) := ⟨_, rfl⟩
  have hb0 : Below w.heap.size w W0 := by
    rw [hW0]
    exact ((((((Below.refl _ w).alloc (Nat.le_refl _) _).alloc (by simp) _).alloc (by simp; omega) _).alloc (by simp; omega) _).alloc (by simp; omega) _).alloc (by simp; omega) _
  have hl0 : W0.cell? ⟨w.heap.size + 5, 0, none⟩ = some (.slice none 0 0) := by
    rw [hW0]
    have := Boxed.new ((((((w.alloc (.cells #[.pointer none] 28)).alloc (.cells #[.int .i64 1] 3)).alloc (.cells #[.int .i64 0] 3)).alloc (.cells #[.bool false] 4)).alloc (.cells #[.int .i64 xk, .int .i64 xi] 24))) 22 (.slice none 0 0)
    simp only [World.size_alloc] at this
    exact this.cell
  have hc0 : W0.cell? ⟨Bp, 0, none⟩ = some (.pointer none) := (hb0.cell (p := ⟨Bp, 0, none⟩) (World.block_lt_of_cell? w _ hBp)).trans hBp
  have HW0 : Hid (W0 = (((((w.alloc (.cells #[.pointer none] 28)).alloc (.cells #[.int .i64 1] 3)).alloc (.cells #[.int .i64 0] 3)).alloc (.cells #[.bool false] 4)).alloc (.cells #[.int .i64 xk, .int .i64 xi] 24)).alloc (.cells #[.slice none 0 0] 22)) := hW0
  clear hW0
  show CallsIn Fence.wide 3 Try.prog 19 #[.pointer none, .func (.func 43) #[] #[.pointer (some ⟨Bp, 0, none⟩)], .int .i64 1, .int .i64 0, .bool false, .agg #[.int .i64 xk, .int .i64 xi]] w _
  refine callsIn_of_wp_marks Try.func19 rfl trivial ?_ rfl
  simp only [Try.ntmps19, List.size_toArray, List.length_cons, List.length_nil, Nat.reduceAdd, Nat.reduceSub, Array.replicate_succ, Array.replicate_zero, List.push_toArray, List.append_toArray, List.nil_append, List.cons_append]
  gi_wp2
  rw [← HW0.out]
  refine wpIn_rangeDrain (by omega) (by omega) (Bp := Bp) rfl rfl (fun _ => 0) (fun _ _ _ _ _ _ _ => rfl)
    (fun W => (W.cell? ⟨Bp, 0, none⟩ = some (.pointer none) ∧ W.cell? ⟨w.heap.size + 5, 0, none⟩ = some (.slice none 0 0)) ∧ Below w.heap.size w W)
    (fun W => (W.cell? ⟨Bp, 0, none⟩ = some (.pointer none) ∧ W.cell? ⟨w.heap.size + 5, 0, none⟩ = some (.slice none 0 0)) ∧ Below w.heap.size w W)
    (fun _ _ _ => False) (fun _ _ => False)
    (OwnFrom.and (Own.from (fun s A B row hs hg hr => ⟨cell_kept hs.1 hg hr, cell_kept hs.2 hg hr⟩) _) (ownFrom_below (Nat.le_refl _) hb0.size))
    (OwnFrom.and (Own.from (fun s A B row hs hg hr => ⟨cell_kept hs.1 hg hr, cell_kept hs.2 hg hr⟩) _) (ownFrom_below (Nat.le_refl _) hb0.size))
    (fun _ _ _ _ _ _ h _ _ => h) (fun _ _ _ _ _ h _ _ => h) ⟨⟨hc0, hl0⟩, hb0⟩ ?pop (fun _ _ _ => True) (fun _ _ _ _ _ _ h _ _ => h) (fun _ _ _ _ _ h _ => h.elim) (fun _ _ _ _ _ h _ => h.elim) ?done (fun _ _ _ _ h _ => h.elim)
  case pop =>
    rintro W ⟨⟨h1, h2⟩, h3⟩
    refine ⟨none, h1, .inl ((ppop_nil W).mono fun e W' ⟨he, hb⟩ => ⟨he, ⟨⟨?_, ?_⟩, h3.trans (hb.mono h3.size)⟩, keeps_below hb⟩)⟩
    · exact (hb.cell (p := ⟨Bp, 0, none⟩) (World.block_lt_of_cell? W _ h1)).trans h1
    · exact (hb.cell (p := ⟨w.heap.size + 5, 0, none⟩) (World.block_lt_of_cell? W _ h2)).trans h2
  case done =>
    rintro D W hD ⟨⟨h1, h2⟩, h3⟩ hK
    gi_wp2
    refine ⟨by simp, .inl ⟨_, _, rfl, run_takeDeferred hK, ?_⟩⟩
    refine ⟨_, results_tmp rfl _ _ _, rfl, h3.trans (belowK_b (w := w) (Nat.le_refl _) W D _ _ (Nat.le_trans hb0.size hD) hK rfl rfl)⟩
end Go.Proofs.Ytcgpjmpppajfdaa
