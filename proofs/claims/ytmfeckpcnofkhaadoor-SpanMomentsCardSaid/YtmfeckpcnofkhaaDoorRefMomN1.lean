/- The reference's ways of a range that does not hold (1). -/
import Derived.Test.YtmfeckpcnofkhaaDoorRefMom
import Derived.Test.YtmfeckpcnofkhaaDoorMomA
import Derived.Test.YtmfeckpcnofkhaaDoorQs
namespace Go.Proofs.YtmfeckpcnofkhaaDoor
open Go.RowKit

set_option maxHeartbeats 4000000 in
set_option maxRecDepth 100000 in
theorem rmoment_no1 (Y M D h mi s ml x1 x2 x3 : Int) (w : World) (Y0 : 0 ≤ Y) (Y1 : Y ≤ 9999)  (g1 : M < 1) :
    Calls Tryd.prog 10 #[ag Y M D h mi s ml x1 x2 x3] w fun e w' => e = .returned (.tuple #[.int .i64 0, .int .i64 2]) ∧ Below w.heap.size w w' := by
  have q1 : (w.alloc (tenO Y M D h mi s ml x1 x2 x3)).cell? ⟨w.heap.size, 1, none⟩ = some (.int .i64 M) := tenO_cell Y M D h mi s ml x1 x2 x3 w 1 _ rfl
  have d1 : decide (M < 1) = true := decide_eq_true g1
  clear g1
  have hb : Below w.heap.size w (w.alloc (tenO Y M D h mi s ml x1 x2 x3)) := (Below.refl w.heap.size w).alloc (Nat.le_refl _) _
  go_enter Tryd.func10, Tryd.ntmps10
  go_wp2_with fail
  generalize w.alloc (tenO Y M D h mi s ml x1 x2 x3) = W at *
  refine wp_region_quiet_lit (by kernel_rfl) (by kernel_rfl) ?_
  iterate 4
    (refine q_take (by kernel_rfl) (fun K hK => ?_)
     go_simp
     refine hK.out _ ?_; clear hK K)
  iterate 3
    (refine q_skip (by kernel_rfl) (fun K hK => ?_)
     go_simp
     refine hK.out _ ?_; clear hK K)
  iterate 2
    (refine q_take (by kernel_rfl) (fun K hK => ?_)
     go_simp
     refine hK.out _ ?_; clear hK K)
  iterate 3
    (refine q_skip (by kernel_rfl) (fun K hK => ?_)
     go_simp
     refine hK.out _ ?_; clear hK K)
  iterate 2
    (refine q_take (by kernel_rfl) (fun K hK => ?_)
     go_simp
     refine hK.out _ ?_; clear hK K)
  iterate 8
    (refine q_skip (by kernel_rfl) (fun K hK => ?_)
     go_simp
     refine hK.out _ ?_; clear hK K)
  iterate 2
    (refine q_take (by kernel_rfl) (fun K hK => ?_)
     go_simp
     refine hK.out _ ?_; clear hK K)
  iterate 3
    (refine q_skip (by kernel_rfl) (fun K hK => ?_)
     go_simp
     refine hK.out _ ?_; clear hK K)
  iterate 2
    (refine q_take (by kernel_rfl) (fun K hK => ?_)
     go_simp
     refine hK.out _ ?_; clear hK K)
  iterate 3
    (refine q_skip (by kernel_rfl) (fun K hK => ?_)
     go_simp
     refine hK.out _ ?_; clear hK K)
  iterate 2
    (refine q_take (by kernel_rfl) (fun K hK => ?_)
     go_simp
     refine hK.out _ ?_; clear hK K)
  iterate 3
    (refine q_skip (by kernel_rfl) (fun K hK => ?_)
     go_simp
     refine hK.out _ ?_; clear hK K)
  iterate 2
    (refine q_take (by kernel_rfl) (fun K hK => ?_)
     go_simp
     refine hK.out _ ?_; clear hK K)
  iterate 3
    (refine q_skip (by kernel_rfl) (fun K hK => ?_)
     go_simp
     refine hK.out _ ?_; clear hK K)
  iterate 2
    (refine q_take (by kernel_rfl) (fun K hK => ?_)
     go_simp
     refine hK.out _ ?_; clear hK K)
  iterate 3
    (refine q_skip (by kernel_rfl) (fun K hK => ?_)
     go_simp
     refine hK.out _ ?_; clear hK K)
  iterate 2
    (refine q_take (by kernel_rfl) (fun K hK => ?_)
     go_simp
     refine hK.out _ ?_; clear hK K)
  iterate 3
    (refine q_skip (by kernel_rfl) (fun K hK => ?_)
     go_simp
     refine hK.out _ ?_; clear hK K)
  iterate 2
    (refine q_take (by kernel_rfl) (fun K hK => ?_)
     go_simp
     refine hK.out _ ?_; clear hK K)
  iterate 3
    (refine q_skip (by kernel_rfl) (fun K hK => ?_)
     go_simp
     refine hK.out _ ?_; clear hK K)
  iterate 2
    (refine q_take (by kernel_rfl) (fun K hK => ?_)
     go_simp
     refine hK.out _ ?_; clear hK K)
  iterate 3
    (refine q_skip (by kernel_rfl) (fun K hK => ?_)
     go_simp
     refine hK.out _ ?_; clear hK K)
  iterate 1
    (refine q_take (by kernel_rfl) (fun K hK => ?_)
     go_simp
     refine hK.out _ ?_; clear hK K)
  refine wpQuiet_nil ?_
  intro _ hw'
  obtain ⟨nq, hw''⟩ := hw'
  subst hw''
  go_wp2
  go_ret2
  exact ⟨rfl, below_drewN hb nq⟩

set_option maxHeartbeats 4000000 in
set_option maxRecDepth 100000 in
theorem rmoment_no2 (Y M D h mi s ml x1 x2 x3 : Int) (w : World) (Y0 : 0 ≤ Y) (Y1 : Y ≤ 9999) (g1 : ¬ M < 1) (g2 : 12 < M) :
    Calls Tryd.prog 10 #[ag Y M D h mi s ml x1 x2 x3] w fun e w' => e = .returned (.tuple #[.int .i64 0, .int .i64 2]) ∧ Below w.heap.size w w' := by
  have q1 : (w.alloc (tenO Y M D h mi s ml x1 x2 x3)).cell? ⟨w.heap.size, 1, none⟩ = some (.int .i64 M) := tenO_cell Y M D h mi s ml x1 x2 x3 w 1 _ rfl
  have d1 : decide (M < 1) = false := decide_eq_false g1
  have d2 : decide (12 < M) = true := decide_eq_true g2
  clear g1 g2
  have hb : Below w.heap.size w (w.alloc (tenO Y M D h mi s ml x1 x2 x3)) := (Below.refl w.heap.size w).alloc (Nat.le_refl _) _
  go_enter Tryd.func10, Tryd.ntmps10
  go_wp2_with fail
  generalize w.alloc (tenO Y M D h mi s ml x1 x2 x3) = W at *
  refine wp_region_quiet_lit (by kernel_rfl) (by kernel_rfl) ?_
  iterate 9
    (refine q_take (by kernel_rfl) (fun K hK => ?_)
     go_simp
     refine hK.out _ ?_; clear hK K)
  iterate 3
    (refine q_skip (by kernel_rfl) (fun K hK => ?_)
     go_simp
     refine hK.out _ ?_; clear hK K)
  iterate 2
    (refine q_take (by kernel_rfl) (fun K hK => ?_)
     go_simp
     refine hK.out _ ?_; clear hK K)
  iterate 8
    (refine q_skip (by kernel_rfl) (fun K hK => ?_)
     go_simp
     refine hK.out _ ?_; clear hK K)
  iterate 2
    (refine q_take (by kernel_rfl) (fun K hK => ?_)
     go_simp
     refine hK.out _ ?_; clear hK K)
  iterate 3
    (refine q_skip (by kernel_rfl) (fun K hK => ?_)
     go_simp
     refine hK.out _ ?_; clear hK K)
  iterate 2
    (refine q_take (by kernel_rfl) (fun K hK => ?_)
     go_simp
     refine hK.out _ ?_; clear hK K)
  iterate 3
    (refine q_skip (by kernel_rfl) (fun K hK => ?_)
     go_simp
     refine hK.out _ ?_; clear hK K)
  iterate 2
    (refine q_take (by kernel_rfl) (fun K hK => ?_)
     go_simp
     refine hK.out _ ?_; clear hK K)
  iterate 3
    (refine q_skip (by kernel_rfl) (fun K hK => ?_)
     go_simp
     refine hK.out _ ?_; clear hK K)
  iterate 2
    (refine q_take (by kernel_rfl) (fun K hK => ?_)
     go_simp
     refine hK.out _ ?_; clear hK K)
  iterate 3
    (refine q_skip (by kernel_rfl) (fun K hK => ?_)
     go_simp
     refine hK.out _ ?_; clear hK K)
  iterate 2
    (refine q_take (by kernel_rfl) (fun K hK => ?_)
     go_simp
     refine hK.out _ ?_; clear hK K)
  iterate 3
    (refine q_skip (by kernel_rfl) (fun K hK => ?_)
     go_simp
     refine hK.out _ ?_; clear hK K)
  iterate 2
    (refine q_take (by kernel_rfl) (fun K hK => ?_)
     go_simp
     refine hK.out _ ?_; clear hK K)
  iterate 3
    (refine q_skip (by kernel_rfl) (fun K hK => ?_)
     go_simp
     refine hK.out _ ?_; clear hK K)
  iterate 2
    (refine q_take (by kernel_rfl) (fun K hK => ?_)
     go_simp
     refine hK.out _ ?_; clear hK K)
  iterate 3
    (refine q_skip (by kernel_rfl) (fun K hK => ?_)
     go_simp
     refine hK.out _ ?_; clear hK K)
  iterate 2
    (refine q_take (by kernel_rfl) (fun K hK => ?_)
     go_simp
     refine hK.out _ ?_; clear hK K)
  iterate 3
    (refine q_skip (by kernel_rfl) (fun K hK => ?_)
     go_simp
     refine hK.out _ ?_; clear hK K)
  iterate 1
    (refine q_take (by kernel_rfl) (fun K hK => ?_)
     go_simp
     refine hK.out _ ?_; clear hK K)
  refine wpQuiet_nil ?_
  intro _ hw'
  obtain ⟨nq, hw''⟩ := hw'
  subst hw''
  go_wp2
  go_ret2
  exact ⟨rfl, below_drewN hb nq⟩

set_option maxHeartbeats 4000000 in
set_option maxRecDepth 100000 in
theorem rmoment_no3 (Y M D h mi s ml x1 x2 x3 : Int) (w : World) (Y0 : 0 ≤ Y) (Y1 : Y ≤ 9999) (g1 : ¬ M < 1) (g2 : ¬ 12 < M) (g3 : D < 1) :
    Calls Tryd.prog 10 #[ag Y M D h mi s ml x1 x2 x3] w fun e w' => e = .returned (.tuple #[.int .i64 0, .int .i64 2]) ∧ Below w.heap.size w w' := by
  have q1 : (w.alloc (tenO Y M D h mi s ml x1 x2 x3)).cell? ⟨w.heap.size, 1, none⟩ = some (.int .i64 M) := tenO_cell Y M D h mi s ml x1 x2 x3 w 1 _ rfl
  have q2 : (w.alloc (tenO Y M D h mi s ml x1 x2 x3)).cell? ⟨w.heap.size, 2, none⟩ = some (.int .i64 D) := tenO_cell Y M D h mi s ml x1 x2 x3 w 2 _ rfl
  have d1 : decide (M < 1) = false := decide_eq_false g1
  have d2 : decide (12 < M) = false := decide_eq_false g2
  have d3 : decide (D < 1) = true := decide_eq_true g3
  clear g1 g2 g3
  have hb : Below w.heap.size w (w.alloc (tenO Y M D h mi s ml x1 x2 x3)) := (Below.refl w.heap.size w).alloc (Nat.le_refl _) _
  go_enter Tryd.func10, Tryd.ntmps10
  go_wp2_with fail
  generalize w.alloc (tenO Y M D h mi s ml x1 x2 x3) = W at *
  refine wp_region_quiet_lit (by kernel_rfl) (by kernel_rfl) ?_
  iterate 14
    (refine q_take (by kernel_rfl) (fun K hK => ?_)
     go_simp
     refine hK.out _ ?_; clear hK K)
  iterate 8
    (refine q_skip (by kernel_rfl) (fun K hK => ?_)
     go_simp
     refine hK.out _ ?_; clear hK K)
  iterate 2
    (refine q_take (by kernel_rfl) (fun K hK => ?_)
     go_simp
     refine hK.out _ ?_; clear hK K)
  iterate 3
    (refine q_skip (by kernel_rfl) (fun K hK => ?_)
     go_simp
     refine hK.out _ ?_; clear hK K)
  iterate 2
    (refine q_take (by kernel_rfl) (fun K hK => ?_)
     go_simp
     refine hK.out _ ?_; clear hK K)
  iterate 3
    (refine q_skip (by kernel_rfl) (fun K hK => ?_)
     go_simp
     refine hK.out _ ?_; clear hK K)
  iterate 2
    (refine q_take (by kernel_rfl) (fun K hK => ?_)
     go_simp
     refine hK.out _ ?_; clear hK K)
  iterate 3
    (refine q_skip (by kernel_rfl) (fun K hK => ?_)
     go_simp
     refine hK.out _ ?_; clear hK K)
  iterate 2
    (refine q_take (by kernel_rfl) (fun K hK => ?_)
     go_simp
     refine hK.out _ ?_; clear hK K)
  iterate 3
    (refine q_skip (by kernel_rfl) (fun K hK => ?_)
     go_simp
     refine hK.out _ ?_; clear hK K)
  iterate 2
    (refine q_take (by kernel_rfl) (fun K hK => ?_)
     go_simp
     refine hK.out _ ?_; clear hK K)
  iterate 3
    (refine q_skip (by kernel_rfl) (fun K hK => ?_)
     go_simp
     refine hK.out _ ?_; clear hK K)
  iterate 2
    (refine q_take (by kernel_rfl) (fun K hK => ?_)
     go_simp
     refine hK.out _ ?_; clear hK K)
  iterate 3
    (refine q_skip (by kernel_rfl) (fun K hK => ?_)
     go_simp
     refine hK.out _ ?_; clear hK K)
  iterate 2
    (refine q_take (by kernel_rfl) (fun K hK => ?_)
     go_simp
     refine hK.out _ ?_; clear hK K)
  iterate 3
    (refine q_skip (by kernel_rfl) (fun K hK => ?_)
     go_simp
     refine hK.out _ ?_; clear hK K)
  iterate 2
    (refine q_take (by kernel_rfl) (fun K hK => ?_)
     go_simp
     refine hK.out _ ?_; clear hK K)
  iterate 3
    (refine q_skip (by kernel_rfl) (fun K hK => ?_)
     go_simp
     refine hK.out _ ?_; clear hK K)
  iterate 1
    (refine q_take (by kernel_rfl) (fun K hK => ?_)
     go_simp
     refine hK.out _ ?_; clear hK K)
  refine wpQuiet_nil ?_
  intro _ hw'
  obtain ⟨nq, hw''⟩ := hw'
  subst hw''
  go_wp2
  go_ret2
  exact ⟨rfl, below_drewN hb nq⟩
end Go.Proofs.YtmfeckpcnofkhaaDoor
