
/- A nil pile. -/
import Derived.Test.YtcgpjmpppajfdabSa
import Derived.Test.YtcgpjmpppajfdabIb
namespace Go.Proofs.Ytcgpjmpppajfdab
open Go.RowKit Go.Shelf

attribute [local go_sem] Oper.semAt_some

theorem ppush_nil (x : It) (w : World) : Calls Try.prog 15 #[.pointer none, iv x] w fun r w' => r = .returned (.tuple #[]) ∧ Below w.heap.size w w' := by
  obtain ⟨xk, xi⟩ := x
  show Calls Try.prog 15 #[.pointer none, .agg #[.int .i64 xk, .int .i64 xi]] w _
  have HB : Hid (Below w.heap.size w (w.alloc (.cells #[.int .i64 xk, .int .i64 xi] 26))) := (Below.refl _ w).alloc (Nat.le_refl _) _
  go_enter Try.func15, Try.ntmps15
  go_wp2
  refine bodyPost_ret (results_none rfl _ _ _) rfl ?_
  exact ⟨rfl, HB.out⟩
theorem ppop_nil (w : World) : Calls Try.prog 23 #[.pointer none] w fun r w' => r = .returned (.tuple #[.agg #[.int .i64 0, .int .i64 0], .bool false]) ∧ Below w.heap.size w w' := by
  have HG : Hid (((w.alloc (iX (0, 0))).alloc (iX (0, 0))).heap[w.heap.size]? = some (.cells #[.int .i64 0, .int .i64 0] 26)) := (Below.heap_alloc _ _ _ (by simp)).trans (heap_alloc_new w _)
  have HB : Hid (Below w.heap.size w ((w.alloc (iX (0, 0))).alloc (iX (0, 0)))) := ((Below.refl _ w).alloc (Nat.le_refl _) _).alloc (by simp) _
  go_enter Try.func23, Try.ntmps23
  go_wp2_with fail
  refine (len_nil _).mono ?_
  rintro r w2 ⟨rfl, rfl⟩
  go_wp2
  refine bodyPost_ret (results_it rfl _ _ w.heap.size 0 0 rfl HG.out) rfl ?_
  exact ⟨rfl, HB.out⟩
theorem eq_seq (Bp : Nat) (w : World) : (binOp .eql 42 (.func (.func 22) #[] #[.pointer (some ⟨Bp, 0, none⟩)]) .nilFunc).run Try.prog w = .ok (.bool false) w := by kernel_rfl
theorem keeps_below {B : Nat} {W W' : World} (h : Below W.heap.size W W') : KeepsFrom B W W' := ⟨h.size, fun k _ _ hk _ => (h.block k (Array.getElem?_eq_some_iff.1 hk).1).trans hk⟩
theorem keeps_kp {B : Nat} {M : Nat → Prop} {W W' : World} (h : Kp M W W') (hm : ∀ k o, M k → W.heap[k]? = some o → o.isCells = true) : KeepsFrom B W W' := ⟨h.size, fun k o _ hk hc => (h.block k (Array.getElem?_eq_some_iff.1 hk).1 (fun x => by rw [hm k o x hk] at hc; cases hc)).trans hk⟩

end Go.Proofs.Ytcgpjmpppajfdab
