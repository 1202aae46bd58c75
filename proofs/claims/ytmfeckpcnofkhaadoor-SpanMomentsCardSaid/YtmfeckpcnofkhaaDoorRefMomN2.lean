/- The reference's ways of a range that does not hold (2). -/
import Derived.Test.YtmfeckpcnofkhaaDoorRefMom
import Derived.Test.YtmfeckpcnofkhaaDoorMomA
import Derived.Test.YtmfeckpcnofkhaaDoorQs
namespace Go.Proofs.YtmfeckpcnofkhaaDoor
open Go.RowKit

set_option maxHeartbeats 4000000 in
set_option maxRecDepth 100000 in
theorem rmoment_no4 (Y M D h mi s ml x1 x2 x3 : Int) (w : World) (Y0 : 0 ≤ Y) (Y1 : Y ≤ 9999) (g1 : ¬ M < 1) (g2 : ¬ 12 < M) (g3 : ¬ D < 1) (g4 : md Y M < D) :
    Calls Tryd.prog 10 #[ag Y M D h mi s ml x1 x2 x3] w fun e w' => e = .returned (.tuple #[.int .i64 0, .int .i64 2]) ∧ Below w.heap.size w w' := by
  have cm := fun w => rmonthDays_any Y M w Y0 (by omega) (by omega) (by omega)
  have hm := md_bd Y M
  have q1 : (w.alloc (tenO Y M D h mi s ml x1 x2 x3)).cell? ⟨w.heap.size, 1, none⟩ = some (.int .i64 M) := tenO_cell Y M D h mi s ml x1 x2 x3 w 1 _ rfl
  have q2 : (w.alloc (tenO Y M D h mi s ml x1 x2 x3)).cell? ⟨w.heap.size, 2, none⟩ = some (.int .i64 D) := tenO_cell Y M D h mi s ml x1 x2 x3 w 2 _ rfl
  have q0 : (w.alloc (tenO Y M D h mi s ml x1 x2 x3)).cell? ⟨w.heap.size, 0, none⟩ = some (.int .i64 Y) := tenO_cell Y M D h mi s ml x1 x2 x3 w 0 _ rfl
  have d1 : decide (M < 1) = false := decide_eq_false g1
  have d2 : decide (12 < M) = false := decide_eq_false g2
  have d3 : decide (D < 1) = false := decide_eq_false g3
  have d4 : decide (md Y M < D) = true := decide_eq_true g4
  generalize md Y M = Z at *
  clear g1 g2 g3 g4
  have hb : Below w.heap.size w (w.alloc (tenO Y M D h mi s ml x1 x2 x3)) := (Below.refl w.heap.size w).alloc (Nat.le_refl _) _
  go_enter Tryd.func10, Tryd.ntmps10
  go_wp2_with fail
  generalize w.alloc (tenO Y M D h mi s ml x1 x2 x3) = W at *
  refine wp_region_quiet_lit (by kernel_rfl) (by kernel_rfl) ?_
  iterate 20
    (refine q_take (by kernel_rfl) (fun K hK => ?_)
     go_simp
     refine hK.out _ ?_; clear hK K)
  refine q_take (by kernel_rfl) (fun K hK => ?_)
  go_simp
  apply Exists.intro
  refine ⟨fun _ => ?_, hK.out _ ?_⟩
  exact Calls.quiet_of_same (cm _)
  clear hK K
  iterate 3
    (refine q_take (by kernel_rfl) (fun K hK => ?_)
     go_simp
     refine hK.out _ ?_; clear hK K)
  iterate 3
    (refine q_skip (by kernel_rfl) (fun K hK => ?_)
     go_simp
     refine hK.out _ ?_; clear hK K)
  iterate 2
    (refine q_take (by kernel_rfl) (fun K hK => ?_)
     go_simp
     refine hK.out _ ?_; clear hK K)
  iterate 3
    (refine q_skip (by kernel_rfl) (fun K hK => ?_)
     go_simp
     refine hK.out _ ?_; clear hK K)
  iterate 2
    (refine q_take (by kernel_rfl) (fun K hK => ?_)
     go_simp
     refine hK.out _ ?_; clear hK K)
  iterate 3
    (refine q_skip (by kernel_rfl) (fun K hK => ?_)
     go_simp
     refine hK.out _ ?_; clear hK K)
  iterate 2
    (refine q_take (by kernel_rfl) (fun K hK => ?_)
     go_simp
     refine hK.out _ ?_; clear hK K)
  iterate 3
    (refine q_skip (by kernel_rfl) (fun K hK => ?_)
     go_simp
     refine hK.out _ ?_; clear hK K)
  iterate 2
    (refine q_take (by kernel_rfl) (fun K hK => ?_)
     go_simp
     refine hK.out _ ?_; clear hK K)
  iterate 3
    (refine q_skip (by kernel_rfl) (fun K hK => ?_)
     go_simp
     refine hK.out _ ?_; clear hK K)
  iterate 2
    (refine q_take (by kernel_rfl) (fun K hK => ?_)
     go_simp
     refine hK.out _ ?_; clear hK K)
  iterate 3
    (refine q_skip (by kernel_rfl) (fun K hK => ?_)
     go_simp
     refine hK.out _ ?_; clear hK K)
  iterate 2
    (refine q_take (by kernel_rfl) (fun K hK => ?_)
     go_simp
     refine hK.out _ ?_; clear hK K)
  iterate 3
    (refine q_skip (by kernel_rfl) (fun K hK => ?_)
     go_simp
     refine hK.out _ ?_; clear hK K)
  iterate 2
    (refine q_take (by kernel_rfl) (fun K hK => ?_)
     go_simp
     refine hK.out _ ?_; clear hK K)
  iterate 3
    (refine q_skip (by kernel_rfl) (fun K hK => ?_)
     go_simp
     refine hK.out _ ?_; clear hK K)
  iterate 1
    (refine q_take (by kernel_rfl) (fun K hK => ?_)
     go_simp
     refine hK.out _ ?_; clear hK K)
  refine wpQuiet_nil ?_
  intro _ hw'
  obtain ⟨nq, hw''⟩ := hw'
  subst hw''
  go_wp2
  go_ret2
  exact ⟨rfl, below_drewN hb nq⟩

set_option maxHeartbeats 4000000 in
set_option maxRecDepth 100000 in
theorem rmoment_no5 (Y M D h mi s ml x1 x2 x3 : Int) (w : World) (Y0 : 0 ≤ Y) (Y1 : Y ≤ 9999) (g1 : ¬ M < 1) (g2 : ¬ 12 < M) (g3 : ¬ D < 1) (g4 : ¬ md Y M < D) (g5 : h < 0) :
    Calls Tryd.prog 10 #[ag Y M D h mi s ml x1 x2 x3] w fun e w' => e = .returned (.tuple #[.int .i64 0, .int .i64 2]) ∧ Below w.heap.size w w' := by
  have cm := fun w => rmonthDays_any Y M w Y0 (by omega) (by omega) (by omega)
  have hm := md_bd Y M
  have q1 : (w.alloc (tenO Y M D h mi s ml x1 x2 x3)).cell? ⟨w.heap.size, 1, none⟩ = some (.int .i64 M) := tenO_cell Y M D h mi s ml x1 x2 x3 w 1 _ rfl
  have q2 : (w.alloc (tenO Y M D h mi s ml x1 x2 x3)).cell? ⟨w.heap.size, 2, none⟩ = some (.int .i64 D) := tenO_cell Y M D h mi s ml x1 x2 x3 w 2 _ rfl
  have q0 : (w.alloc (tenO Y M D h mi s ml x1 x2 x3)).cell? ⟨w.heap.size, 0, none⟩ = some (.int .i64 Y) := tenO_cell Y M D h mi s ml x1 x2 x3 w 0 _ rfl
  have q3 : (w.alloc (tenO Y M D h mi s ml x1 x2 x3)).cell? ⟨w.heap.size, 3, none⟩ = some (.int .i64 h) := tenO_cell Y M D h mi s ml x1 x2 x3 w 3 _ rfl
  have d1 : decide (M < 1) = false := decide_eq_false g1
  have d2 : decide (12 < M) = false := decide_eq_false g2
  have d3 : decide (D < 1) = false := decide_eq_false g3
  have d4 : decide (md Y M < D) = false := decide_eq_false g4
  have d5 : decide (h < 0) = true := decide_eq_true g5
  generalize md Y M = Z at *
  clear g1 g2 g3 g4 g5
  have hb : Below w.heap.size w (w.alloc (tenO Y M D h mi s ml x1 x2 x3)) := (Below.refl w.heap.size w).alloc (Nat.le_refl _) _
  go_enter Tryd.func10, Tryd.ntmps10
  go_wp2_with fail
  generalize w.alloc (tenO Y M D h mi s ml x1 x2 x3) = W at *
  refine wp_region_quiet_lit (by kernel_rfl) (by kernel_rfl) ?_
  iterate 20
    (refine q_take (by kernel_rfl) (fun K hK => ?_)
     go_simp
     refine hK.out _ ?_; clear hK K)
  refine q_take (by kernel_rfl) (fun K hK => ?_)
  go_simp
  apply Exists.intro
  refine ⟨fun _ => ?_, hK.out _ ?_⟩
  exact Calls.quiet_of_same (cm _)
  clear hK K
  iterate 8
    (refine q_take (by kernel_rfl) (fun K hK => ?_)
     go_simp
     refine hK.out _ ?_; clear hK K)
  iterate 3
    (refine q_skip (by kernel_rfl) (fun K hK => ?_)
     go_simp
     refine hK.out _ ?_; clear hK K)
  iterate 2
    (refine q_take (by kernel_rfl) (fun K hK => ?_)
     go_simp
     refine hK.out _ ?_; clear hK K)
  iterate 3
    (refine q_skip (by kernel_rfl) (fun K hK => ?_)
     go_simp
     refine hK.out _ ?_; clear hK K)
  iterate 2
    (refine q_take (by kernel_rfl) (fun K hK => ?_)
     go_simp
     refine hK.out _ ?_; clear hK K)
  iterate 3
    (refine q_skip (by kernel_rfl) (fun K hK => ?_)
     go_simp
     refine hK.out _ ?_; clear hK K)
  iterate 2
    (refine q_take (by kernel_rfl) (fun K hK => ?_)
     go_simp
     refine hK.out _ ?_; clear hK K)
  iterate 3
    (refine q_skip (by kernel_rfl) (fun K hK => ?_)
     go_simp
     refine hK.out _ ?_; clear hK K)
  iterate 2
    (refine q_take (by kernel_rfl) (fun K hK => ?_)
     go_simp
     refine hK.out _ ?_; clear hK K)
  iterate 3
    (refine q_skip (by kernel_rfl) (fun K hK => ?_)
     go_simp
     refine hK.out _ ?_; clear hK K)
  iterate 2
    (refine q_take (by kernel_rfl) (fun K hK => ?_)
     go_simp
     refine hK.out _ ?_; clear hK K)
  iterate 3
    (refine q_skip (by kernel_rfl) (fun K hK => ?_)
     go_simp
     refine hK.out _ ?_; clear hK K)
  iterate 2
    (refine q_take (by kernel_rfl) (fun K hK => ?_)
     go_simp
     refine hK.out _ ?_; clear hK K)
  iterate 3
    (refine q_skip (by kernel_rfl) (fun K hK => ?_)
     go_simp
     refine hK.out _ ?_; clear hK K)
  iterate 1
    (refine q_take (by kernel_rfl) (fun K hK => ?_)
     go_simp
     refine hK.out _ ?_; clear hK K)
  refine wpQuiet_nil ?_
  intro _ hw'
  obtain ⟨nq, hw''⟩ := hw'
  subst hw''
  go_wp2
  go_ret2
  exact ⟨rfl, below_drewN hb nq⟩

set_option maxHeartbeats 4000000 in
set_option maxRecDepth 100000 in
theorem rmoment_no6 (Y M D h mi s ml x1 x2 x3 : Int) (w : World) (Y0 : 0 ≤ Y) (Y1 : Y ≤ 9999) (g1 : ¬ M < 1) (g2 : ¬ 12 < M) (g3 : ¬ D < 1) (g4 : ¬ md Y M < D) (g5 : ¬ h < 0) (g6 : 23 < h) :
    Calls Tryd.prog 10 #[ag Y M D h mi s ml x1 x2 x3] w fun e w' => e = .returned (.tuple #[.int .i64 0, .int .i64 2]) ∧ Below w.heap.size w w' := by
  have cm := fun w => rmonthDays_any Y M w Y0 (by omega) (by omega) (by omega)
  have hm := md_bd Y M
  have q1 : (w.alloc (tenO Y M D h mi s ml x1 x2 x3)).cell? ⟨w.heap.size, 1, none⟩ = some (.int .i64 M) := tenO_cell Y M D h mi s ml x1 x2 x3 w 1 _ rfl
  have q2 : (w.alloc (tenO Y M D h mi s ml x1 x2 x3)).cell? ⟨w.heap.size, 2, none⟩ = some (.int .i64 D) := tenO_cell Y M D h mi s ml x1 x2 x3 w 2 _ rfl
  have q0 : (w.alloc (tenO Y M D h mi s ml x1 x2 x3)).cell? ⟨w.heap.size, 0, none⟩ = some (.int .i64 Y) := tenO_cell Y M D h mi s ml x1 x2 x3 w 0 _ rfl
  have q3 : (w.alloc (tenO Y M D h mi s ml x1 x2 x3)).cell? ⟨w.heap.size, 3, none⟩ = some (.int .i64 h) := tenO_cell Y M D h mi s ml x1 x2 x3 w 3 _ rfl
  have d1 : decide (M < 1) = false := decide_eq_false g1
  have d2 : decide (12 < M) = false := decide_eq_false g2
  have d3 : decide (D < 1) = false := decide_eq_false g3
  have d4 : decide (md Y M < D) = false := decide_eq_false g4
  have d5 : decide (h < 0) = false := decide_eq_false g5
  have d6 : decide (23 < h) = true := decide_eq_true g6
  generalize md Y M = Z at *
  clear g1 g2 g3 g4 g5 g6
  have hb : Below w.heap.size w (w.alloc (tenO Y M D h mi s ml x1 x2 x3)) := (Below.refl w.heap.size w).alloc (Nat.le_refl _) _
  go_enter Tryd.func10, Tryd.ntmps10
  go_wp2_with fail
  generalize w.alloc (tenO Y M D h mi s ml x1 x2 x3) = W at *
  refine wp_region_quiet_lit (by kernel_rfl) (by kernel_rfl) ?_
  iterate 20
    (refine q_take (by kernel_rfl) (fun K hK => ?_)
     go_simp
     refine hK.out _ ?_; clear hK K)
  refine q_take (by kernel_rfl) (fun K hK => ?_)
  go_simp
  apply Exists.intro
  refine ⟨fun _ => ?_, hK.out _ ?_⟩
  exact Calls.quiet_of_same (cm _)
  clear hK K
  iterate 13
    (refine q_take (by kernel_rfl) (fun K hK => ?_)
     go_simp
     refine hK.out _ ?_; clear hK K)
  iterate 3
    (refine q_skip (by kernel_rfl) (fun K hK => ?_)
     go_simp
     refine hK.out _ ?_; clear hK K)
  iterate 2
    (refine q_take (by kernel_rfl) (fun K hK => ?_)
     go_simp
     refine hK.out _ ?_; clear hK K)
  iterate 3
    (refine q_skip (by kernel_rfl) (fun K hK => ?_)
     go_simp
     refine hK.out _ ?_; clear hK K)
  iterate 2
    (refine q_take (by kernel_rfl) (fun K hK => ?_)
     go_simp
     refine hK.out _ ?_; clear hK K)
  iterate 3
    (refine q_skip (by kernel_rfl) (fun K hK => ?_)
     go_simp
     refine hK.out _ ?_; clear hK K)
  iterate 2
    (refine q_take (by kernel_rfl) (fun K hK => ?_)
     go_simp
     refine hK.out _ ?_; clear hK K)
  iterate 3
    (refine q_skip (by kernel_rfl) (fun K hK => ?_)
     go_simp
     refine hK.out _ ?_; clear hK K)
  iterate 2
    (refine q_take (by kernel_rfl) (fun K hK => ?_)
     go_simp
     refine hK.out _ ?_; clear hK K)
  iterate 3
    (refine q_skip (by kernel_rfl) (fun K hK => ?_)
     go_simp
     refine hK.out _ ?_; clear hK K)
  iterate 2
    (refine q_take (by kernel_rfl) (fun K hK => ?_)
     go_simp
     refine hK.out _ ?_; clear hK K)
  iterate 3
    (refine q_skip (by kernel_rfl) (fun K hK => ?_)
     go_simp
     refine hK.out _ ?_; clear hK K)
  iterate 1
    (refine q_take (by kernel_rfl) (fun K hK => ?_)
     go_simp
     refine hK.out _ ?_; clear hK K)
  refine wpQuiet_nil ?_
  intro _ hw'
  obtain ⟨nq, hw''⟩ := hw'
  subst hw''
  go_wp2
  go_ret2
  exact ⟨rfl, below_drewN hb nq⟩
end Go.Proofs.YtmfeckpcnofkhaaDoor
