/- The ways of a range that does not hold. -/
import Derived.Test.YtmfeckpcnofkhaaDoorMomA
import Derived.Test.YtmfeckpcnofkhaaDoorQs
namespace Go.Proofs.YtmfeckpcnofkhaaDoor
open Go.RowKit

set_option maxHeartbeats 4000000 in
set_option maxRecDepth 100000 in
theorem inRange_no1 (Y M D h mi s ml x1 x2 x3 : Int) (w : World)  (g1 : ¬ (1 ≤ M ∧ M ≤ 12)) :
    Calls Tryd.prog 27 #[ag Y M D h mi s ml x1 x2 x3] w fun e w' => e = .returned (.bool false) ∧ Below w.heap.size w w' := by
  have c1 := within_f M 1 12 g1
  have q1 : (w.alloc (tenO Y M D h mi s ml x1 x2 x3)).cell? ⟨w.heap.size, 1, none⟩ = some (.int .i64 M) := tenO_cell Y M D h mi s ml x1 x2 x3 w 1 _ rfl
  clear g1
  have hb : Below w.heap.size w (w.alloc (tenO Y M D h mi s ml x1 x2 x3)) := (Below.refl w.heap.size w).alloc (Nat.le_refl _) _
  go_enter Tryd.func27, Tryd.ntmps27
  go_wp2_with fail
  generalize w.alloc (tenO Y M D h mi s ml x1 x2 x3) = W at *
  refine wp_region_quiet_lit (by kernel_rfl) (by kernel_rfl) ?_
  iterate 2
    (refine q_take (by kernel_rfl) (fun K hK => ?_)
     go_simp
     refine hK.out _ ?_; clear hK K)
  refine q_take (by kernel_rfl) (fun K hK => ?_)
  go_simp
  apply Exists.intro
  refine ⟨fun _ => ?_, hK.out _ ?_⟩
  exact Calls.quiet_of_same (c1 _)
  clear hK K
  iterate 1
    (refine q_take (by kernel_rfl) (fun K hK => ?_)
     go_simp
     refine hK.out _ ?_; clear hK K)
  iterate 8
    (refine q_skip (by kernel_rfl) (fun K hK => ?_)
     go_simp
     refine hK.out _ ?_; clear hK K)
  iterate 2
    (refine q_take (by kernel_rfl) (fun K hK => ?_)
     go_simp
     refine hK.out _ ?_; clear hK K)
  iterate 3
    (refine q_skip (by kernel_rfl) (fun K hK => ?_)
     go_simp
     refine hK.out _ ?_; clear hK K)
  iterate 2
    (refine q_take (by kernel_rfl) (fun K hK => ?_)
     go_simp
     refine hK.out _ ?_; clear hK K)
  iterate 3
    (refine q_skip (by kernel_rfl) (fun K hK => ?_)
     go_simp
     refine hK.out _ ?_; clear hK K)
  iterate 2
    (refine q_take (by kernel_rfl) (fun K hK => ?_)
     go_simp
     refine hK.out _ ?_; clear hK K)
  iterate 3
    (refine q_skip (by kernel_rfl) (fun K hK => ?_)
     go_simp
     refine hK.out _ ?_; clear hK K)
  iterate 2
    (refine q_take (by kernel_rfl) (fun K hK => ?_)
     go_simp
     refine hK.out _ ?_; clear hK K)
  iterate 3
    (refine q_skip (by kernel_rfl) (fun K hK => ?_)
     go_simp
     refine hK.out _ ?_; clear hK K)
  iterate 2
    (refine q_take (by kernel_rfl) (fun K hK => ?_)
     go_simp
     refine hK.out _ ?_; clear hK K)
  refine wpQuiet_nil ?_
  intro _ hw'
  obtain ⟨nq, hw''⟩ := hw'
  subst hw''
  go_wp2
  go_ret
  exact ⟨rfl, below_drewN hb nq⟩

set_option maxHeartbeats 4000000 in
set_option maxRecDepth 100000 in
theorem inRange_no2 (Y M D h mi s ml x1 x2 x3 : Int) (w : World) (Y0 : 0 ≤ Y) (Y1 : Y ≤ 9999) (g1 : 1 ≤ M ∧ M ≤ 12) (g2 : ¬ (1 ≤ D ∧ D ≤ md Y M)) :
    Calls Tryd.prog 27 #[ag Y M D h mi s ml x1 x2 x3] w fun e w' => e = .returned (.bool false) ∧ Below w.heap.size w w' := by
  have c1 := within_t M 1 12 g1
  have c2 := within_f D 1 (md Y M) g2
  have cm := fun w => monthDays_any Y M w Y0 (by omega) g1.1 g1.2
  have hm := md_bd Y M
  have q1 : (w.alloc (tenO Y M D h mi s ml x1 x2 x3)).cell? ⟨w.heap.size, 1, none⟩ = some (.int .i64 M) := tenO_cell Y M D h mi s ml x1 x2 x3 w 1 _ rfl
  have q2 : (w.alloc (tenO Y M D h mi s ml x1 x2 x3)).cell? ⟨w.heap.size, 2, none⟩ = some (.int .i64 D) := tenO_cell Y M D h mi s ml x1 x2 x3 w 2 _ rfl
  have q0 : (w.alloc (tenO Y M D h mi s ml x1 x2 x3)).cell? ⟨w.heap.size, 0, none⟩ = some (.int .i64 Y) := tenO_cell Y M D h mi s ml x1 x2 x3 w 0 _ rfl
  clear g1 g2
  generalize md Y M = Z at *
  have hb : Below w.heap.size w (w.alloc (tenO Y M D h mi s ml x1 x2 x3)) := (Below.refl w.heap.size w).alloc (Nat.le_refl _) _
  go_enter Tryd.func27, Tryd.ntmps27
  go_wp2_with fail
  generalize w.alloc (tenO Y M D h mi s ml x1 x2 x3) = W at *
  refine wp_region_quiet_lit (by kernel_rfl) (by kernel_rfl) ?_
  iterate 2
    (refine q_take (by kernel_rfl) (fun K hK => ?_)
     go_simp
     refine hK.out _ ?_; clear hK K)
  refine q_take (by kernel_rfl) (fun K hK => ?_)
  go_simp
  apply Exists.intro
  refine ⟨fun _ => ?_, hK.out _ ?_⟩
  exact Calls.quiet_of_same (c1 _)
  clear hK K
  iterate 7
    (refine q_take (by kernel_rfl) (fun K hK => ?_)
     go_simp
     refine hK.out _ ?_; clear hK K)
  refine q_take (by kernel_rfl) (fun K hK => ?_)
  go_simp
  apply Exists.intro
  refine ⟨fun _ => ?_, hK.out _ ?_⟩
  exact Calls.quiet_of_same (cm _)
  clear hK K
  refine q_take (by kernel_rfl) (fun K hK => ?_)
  go_simp
  apply Exists.intro
  refine ⟨fun _ => ?_, hK.out _ ?_⟩
  exact Calls.quiet_of_same (c2 _)
  clear hK K
  iterate 2
    (refine q_take (by kernel_rfl) (fun K hK => ?_)
     go_simp
     refine hK.out _ ?_; clear hK K)
  iterate 3
    (refine q_skip (by kernel_rfl) (fun K hK => ?_)
     go_simp
     refine hK.out _ ?_; clear hK K)
  iterate 2
    (refine q_take (by kernel_rfl) (fun K hK => ?_)
     go_simp
     refine hK.out _ ?_; clear hK K)
  iterate 3
    (refine q_skip (by kernel_rfl) (fun K hK => ?_)
     go_simp
     refine hK.out _ ?_; clear hK K)
  iterate 2
    (refine q_take (by kernel_rfl) (fun K hK => ?_)
     go_simp
     refine hK.out _ ?_; clear hK K)
  iterate 3
    (refine q_skip (by kernel_rfl) (fun K hK => ?_)
     go_simp
     refine hK.out _ ?_; clear hK K)
  iterate 2
    (refine q_take (by kernel_rfl) (fun K hK => ?_)
     go_simp
     refine hK.out _ ?_; clear hK K)
  iterate 3
    (refine q_skip (by kernel_rfl) (fun K hK => ?_)
     go_simp
     refine hK.out _ ?_; clear hK K)
  iterate 2
    (refine q_take (by kernel_rfl) (fun K hK => ?_)
     go_simp
     refine hK.out _ ?_; clear hK K)
  refine wpQuiet_nil ?_
  intro _ hw'
  obtain ⟨nq, hw''⟩ := hw'
  subst hw''
  go_wp2
  go_ret
  exact ⟨rfl, below_drewN hb nq⟩

set_option maxHeartbeats 4000000 in
set_option maxRecDepth 100000 in
theorem inRange_no3 (Y M D h mi s ml x1 x2 x3 : Int) (w : World) (Y0 : 0 ≤ Y) (Y1 : Y ≤ 9999) (g1 : 1 ≤ M ∧ M ≤ 12) (g2 : 1 ≤ D ∧ D ≤ md Y M) (g3 : ¬ (0 ≤ h ∧ h ≤ 23)) :
    Calls Tryd.prog 27 #[ag Y M D h mi s ml x1 x2 x3] w fun e w' => e = .returned (.bool false) ∧ Below w.heap.size w w' := by
  have c1 := within_t M 1 12 g1
  have c2 := within_t D 1 (md Y M) g2
  have c3 := within_f h 0 23 g3
  have cm := fun w => monthDays_any Y M w Y0 (by omega) g1.1 g1.2
  have hm := md_bd Y M
  have q1 : (w.alloc (tenO Y M D h mi s ml x1 x2 x3)).cell? ⟨w.heap.size, 1, none⟩ = some (.int .i64 M) := tenO_cell Y M D h mi s ml x1 x2 x3 w 1 _ rfl
  have q2 : (w.alloc (tenO Y M D h mi s ml x1 x2 x3)).cell? ⟨w.heap.size, 2, none⟩ = some (.int .i64 D) := tenO_cell Y M D h mi s ml x1 x2 x3 w 2 _ rfl
  have q0 : (w.alloc (tenO Y M D h mi s ml x1 x2 x3)).cell? ⟨w.heap.size, 0, none⟩ = some (.int .i64 Y) := tenO_cell Y M D h mi s ml x1 x2 x3 w 0 _ rfl
  have q3 : (w.alloc (tenO Y M D h mi s ml x1 x2 x3)).cell? ⟨w.heap.size, 3, none⟩ = some (.int .i64 h) := tenO_cell Y M D h mi s ml x1 x2 x3 w 3 _ rfl
  clear g1 g2 g3
  generalize md Y M = Z at *
  have hb : Below w.heap.size w (w.alloc (tenO Y M D h mi s ml x1 x2 x3)) := (Below.refl w.heap.size w).alloc (Nat.le_refl _) _
  go_enter Tryd.func27, Tryd.ntmps27
  go_wp2_with fail
  generalize w.alloc (tenO Y M D h mi s ml x1 x2 x3) = W at *
  refine wp_region_quiet_lit (by kernel_rfl) (by kernel_rfl) ?_
  iterate 2
    (refine q_take (by kernel_rfl) (fun K hK => ?_)
     go_simp
     refine hK.out _ ?_; clear hK K)
  refine q_take (by kernel_rfl) (fun K hK => ?_)
  go_simp
  apply Exists.intro
  refine ⟨fun _ => ?_, hK.out _ ?_⟩
  exact Calls.quiet_of_same (c1 _)
  clear hK K
  iterate 7
    (refine q_take (by kernel_rfl) (fun K hK => ?_)
     go_simp
     refine hK.out _ ?_; clear hK K)
  refine q_take (by kernel_rfl) (fun K hK => ?_)
  go_simp
  apply Exists.intro
  refine ⟨fun _ => ?_, hK.out _ ?_⟩
  exact Calls.quiet_of_same (cm _)
  clear hK K
  refine q_take (by kernel_rfl) (fun K hK => ?_)
  go_simp
  apply Exists.intro
  refine ⟨fun _ => ?_, hK.out _ ?_⟩
  exact Calls.quiet_of_same (c2 _)
  clear hK K
  iterate 4
    (refine q_take (by kernel_rfl) (fun K hK => ?_)
     go_simp
     refine hK.out _ ?_; clear hK K)
  refine q_take (by kernel_rfl) (fun K hK => ?_)
  go_simp
  apply Exists.intro
  refine ⟨fun _ => ?_, hK.out _ ?_⟩
  exact Calls.quiet_of_same (c3 _)
  clear hK K
  iterate 2
    (refine q_take (by kernel_rfl) (fun K hK => ?_)
     go_simp
     refine hK.out _ ?_; clear hK K)
  iterate 3
    (refine q_skip (by kernel_rfl) (fun K hK => ?_)
     go_simp
     refine hK.out _ ?_; clear hK K)
  iterate 2
    (refine q_take (by kernel_rfl) (fun K hK => ?_)
     go_simp
     refine hK.out _ ?_; clear hK K)
  iterate 3
    (refine q_skip (by kernel_rfl) (fun K hK => ?_)
     go_simp
     refine hK.out _ ?_; clear hK K)
  iterate 2
    (refine q_take (by kernel_rfl) (fun K hK => ?_)
     go_simp
     refine hK.out _ ?_; clear hK K)
  iterate 3
    (refine q_skip (by kernel_rfl) (fun K hK => ?_)
     go_simp
     refine hK.out _ ?_; clear hK K)
  iterate 2
    (refine q_take (by kernel_rfl) (fun K hK => ?_)
     go_simp
     refine hK.out _ ?_; clear hK K)
  refine wpQuiet_nil ?_
  intro _ hw'
  obtain ⟨nq, hw''⟩ := hw'
  subst hw''
  go_wp2
  go_ret
  exact ⟨rfl, below_drewN hb nq⟩

set_option maxHeartbeats 4000000 in
set_option maxRecDepth 100000 in
theorem inRange_no4 (Y M D h mi s ml x1 x2 x3 : Int) (w : World) (Y0 : 0 ≤ Y) (Y1 : Y ≤ 9999) (g1 : 1 ≤ M ∧ M ≤ 12) (g2 : 1 ≤ D ∧ D ≤ md Y M) (g3 : 0 ≤ h ∧ h ≤ 23) (g4 : ¬ (0 ≤ mi ∧ mi ≤ 59)) :
    Calls Tryd.prog 27 #[ag Y M D h mi s ml x1 x2 x3] w fun e w' => e = .returned (.bool false) ∧ Below w.heap.size w w' := by
  have c1 := within_t M 1 12 g1
  have c2 := within_t D 1 (md Y M) g2
  have c3 := within_t h 0 23 g3
  have c4 := within_f mi 0 59 g4
  have cm := fun w => monthDays_any Y M w Y0 (by omega) g1.1 g1.2
  have hm := md_bd Y M
  have q1 : (w.alloc (tenO Y M D h mi s ml x1 x2 x3)).cell? ⟨w.heap.size, 1, none⟩ = some (.int .i64 M) := tenO_cell Y M D h mi s ml x1 x2 x3 w 1 _ rfl
  have q2 : (w.alloc (tenO Y M D h mi s ml x1 x2 x3)).cell? ⟨w.heap.size, 2, none⟩ = some (.int .i64 D) := tenO_cell Y M D h mi s ml x1 x2 x3 w 2 _ rfl
  have q0 : (w.alloc (tenO Y M D h mi s ml x1 x2 x3)).cell? ⟨w.heap.size, 0, none⟩ = some (.int .i64 Y) := tenO_cell Y M D h mi s ml x1 x2 x3 w 0 _ rfl
  have q3 : (w.alloc (tenO Y M D h mi s ml x1 x2 x3)).cell? ⟨w.heap.size, 3, none⟩ = some (.int .i64 h) := tenO_cell Y M D h mi s ml x1 x2 x3 w 3 _ rfl
  have q4 : (w.alloc (tenO Y M D h mi s ml x1 x2 x3)).cell? ⟨w.heap.size, 4, none⟩ = some (.int .i64 mi) := tenO_cell Y M D h mi s ml x1 x2 x3 w 4 _ rfl
  clear g1 g2 g3 g4
  generalize md Y M = Z at *
  have hb : Below w.heap.size w (w.alloc (tenO Y M D h mi s ml x1 x2 x3)) := (Below.refl w.heap.size w).alloc (Nat.le_refl _) _
  go_enter Tryd.func27, Tryd.ntmps27
  go_wp2_with fail
  generalize w.alloc (tenO Y M D h mi s ml x1 x2 x3) = W at *
  refine wp_region_quiet_lit (by kernel_rfl) (by kernel_rfl) ?_
  iterate 2
    (refine q_take (by kernel_rfl) (fun K hK => ?_)
     go_simp
     refine hK.out _ ?_; clear hK K)
  refine q_take (by kernel_rfl) (fun K hK => ?_)
  go_simp
  apply Exists.intro
  refine ⟨fun _ => ?_, hK.out _ ?_⟩
  exact Calls.quiet_of_same (c1 _)
  clear hK K
  iterate 7
    (refine q_take (by kernel_rfl) (fun K hK => ?_)
     go_simp
     refine hK.out _ ?_; clear hK K)
  refine q_take (by kernel_rfl) (fun K hK => ?_)
  go_simp
  apply Exists.intro
  refine ⟨fun _ => ?_, hK.out _ ?_⟩
  exact Calls.quiet_of_same (cm _)
  clear hK K
  refine q_take (by kernel_rfl) (fun K hK => ?_)
  go_simp
  apply Exists.intro
  refine ⟨fun _ => ?_, hK.out _ ?_⟩
  exact Calls.quiet_of_same (c2 _)
  clear hK K
  iterate 4
    (refine q_take (by kernel_rfl) (fun K hK => ?_)
     go_simp
     refine hK.out _ ?_; clear hK K)
  refine q_take (by kernel_rfl) (fun K hK => ?_)
  go_simp
  apply Exists.intro
  refine ⟨fun _ => ?_, hK.out _ ?_⟩
  exact Calls.quiet_of_same (c3 _)
  clear hK K
  iterate 4
    (refine q_take (by kernel_rfl) (fun K hK => ?_)
     go_simp
     refine hK.out _ ?_; clear hK K)
  refine q_take (by kernel_rfl) (fun K hK => ?_)
  go_simp
  apply Exists.intro
  refine ⟨fun _ => ?_, hK.out _ ?_⟩
  exact Calls.quiet_of_same (c4 _)
  clear hK K
  iterate 2
    (refine q_take (by kernel_rfl) (fun K hK => ?_)
     go_simp
     refine hK.out _ ?_; clear hK K)
  iterate 3
    (refine q_skip (by kernel_rfl) (fun K hK => ?_)
     go_simp
     refine hK.out _ ?_; clear hK K)
  iterate 2
    (refine q_take (by kernel_rfl) (fun K hK => ?_)
     go_simp
     refine hK.out _ ?_; clear hK K)
  iterate 3
    (refine q_skip (by kernel_rfl) (fun K hK => ?_)
     go_simp
     refine hK.out _ ?_; clear hK K)
  iterate 2
    (refine q_take (by kernel_rfl) (fun K hK => ?_)
     go_simp
     refine hK.out _ ?_; clear hK K)
  refine wpQuiet_nil ?_
  intro _ hw'
  obtain ⟨nq, hw''⟩ := hw'
  subst hw''
  go_wp2
  go_ret
  exact ⟨rfl, below_drewN hb nq⟩

set_option maxHeartbeats 4000000 in
set_option maxRecDepth 100000 in
theorem inRange_no5 (Y M D h mi s ml x1 x2 x3 : Int) (w : World) (Y0 : 0 ≤ Y) (Y1 : Y ≤ 9999) (g1 : 1 ≤ M ∧ M ≤ 12) (g2 : 1 ≤ D ∧ D ≤ md Y M) (g3 : 0 ≤ h ∧ h ≤ 23) (g4 : 0 ≤ mi ∧ mi ≤ 59) (g5 : ¬ (0 ≤ s ∧ s ≤ 59)) :
    Calls Tryd.prog 27 #[ag Y M D h mi s ml x1 x2 x3] w fun e w' => e = .returned (.bool false) ∧ Below w.heap.size w w' := by
  have c1 := within_t M 1 12 g1
  have c2 := within_t D 1 (md Y M) g2
  have c3 := within_t h 0 23 g3
  have c4 := within_t mi 0 59 g4
  have c5 := within_f s 0 59 g5
  have cm := fun w => monthDays_any Y M w Y0 (by omega) g1.1 g1.2
  have hm := md_bd Y M
  have q1 : (w.alloc (tenO Y M D h mi s ml x1 x2 x3)).cell? ⟨w.heap.size, 1, none⟩ = some (.int .i64 M) := tenO_cell Y M D h mi s ml x1 x2 x3 w 1 _ rfl
  have q2 : (w.alloc (tenO Y M D h mi s ml x1 x2 x3)).cell? ⟨w.heap.size, 2, none⟩ = some (.int .i64 D) := tenO_cell Y M D h mi s ml x1 x2 x3 w 2 _ rfl
  have q0 : (w.alloc (tenO Y M D h mi s ml x1 x2 x3)).cell? ⟨w.heap.size, 0, none⟩ = some (.int .i64 Y) := tenO_cell Y M D h mi s ml x1 x2 x3 w 0 _ rfl
  have q3 : (w.alloc (tenO Y M D h mi s ml x1 x2 x3)).cell? ⟨w.heap.size, 3, none⟩ = some (.int .i64 h) := tenO_cell Y M D h mi s ml x1 x2 x3 w 3 _ rfl
  have q4 : (w.alloc (tenO Y M D h mi s ml x1 x2 x3)).cell? ⟨w.heap.size, 4, none⟩ = some (.int .i64 mi) := tenO_cell Y M D h mi s ml x1 x2 x3 w 4 _ rfl
  have q5 : (w.alloc (tenO Y M D h mi s ml x1 x2 x3)).cell? ⟨w.heap.size, 5, none⟩ = some (.int .i64 s) := tenO_cell Y M D h mi s ml x1 x2 x3 w 5 _ rfl
  clear g1 g2 g3 g4 g5
  generalize md Y M = Z at *
  have hb : Below w.heap.size w (w.alloc (tenO Y M D h mi s ml x1 x2 x3)) := (Below.refl w.heap.size w).alloc (Nat.le_refl _) _
  go_enter Tryd.func27, Tryd.ntmps27
  go_wp2_with fail
  generalize w.alloc (tenO Y M D h mi s ml x1 x2 x3) = W at *
  refine wp_region_quiet_lit (by kernel_rfl) (by kernel_rfl) ?_
  iterate 2
    (refine q_take (by kernel_rfl) (fun K hK => ?_)
     go_simp
     refine hK.out _ ?_; clear hK K)
  refine q_take (by kernel_rfl) (fun K hK => ?_)
  go_simp
  apply Exists.intro
  refine ⟨fun _ => ?_, hK.out _ ?_⟩
  exact Calls.quiet_of_same (c1 _)
  clear hK K
  iterate 7
    (refine q_take (by kernel_rfl) (fun K hK => ?_)
     go_simp
     refine hK.out _ ?_; clear hK K)
  refine q_take (by kernel_rfl) (fun K hK => ?_)
  go_simp
  apply Exists.intro
  refine ⟨fun _ => ?_, hK.out _ ?_⟩
  exact Calls.quiet_of_same (cm _)
  clear hK K
  refine q_take (by kernel_rfl) (fun K hK => ?_)
  go_simp
  apply Exists.intro
  refine ⟨fun _ => ?_, hK.out _ ?_⟩
  exact Calls.quiet_of_same (c2 _)
  clear hK K
  iterate 4
    (refine q_take (by kernel_rfl) (fun K hK => ?_)
     go_simp
     refine hK.out _ ?_; clear hK K)
  refine q_take (by kernel_rfl) (fun K hK => ?_)
  go_simp
  apply Exists.intro
  refine ⟨fun _ => ?_, hK.out _ ?_⟩
  exact Calls.quiet_of_same (c3 _)
  clear hK K
  iterate 4
    (refine q_take (by kernel_rfl) (fun K hK => ?_)
     go_simp
     refine hK.out _ ?_; clear hK K)
  refine q_take (by kernel_rfl) (fun K hK => ?_)
  go_simp
  apply Exists.intro
  refine ⟨fun _ => ?_, hK.out _ ?_⟩
  exact Calls.quiet_of_same (c4 _)
  clear hK K
  iterate 4
    (refine q_take (by kernel_rfl) (fun K hK => ?_)
     go_simp
     refine hK.out _ ?_; clear hK K)
  refine q_take (by kernel_rfl) (fun K hK => ?_)
  go_simp
  apply Exists.intro
  refine ⟨fun _ => ?_, hK.out _ ?_⟩
  exact Calls.quiet_of_same (c5 _)
  clear hK K
  iterate 2
    (refine q_take (by kernel_rfl) (fun K hK => ?_)
     go_simp
     refine hK.out _ ?_; clear hK K)
  iterate 3
    (refine q_skip (by kernel_rfl) (fun K hK => ?_)
     go_simp
     refine hK.out _ ?_; clear hK K)
  iterate 2
    (refine q_take (by kernel_rfl) (fun K hK => ?_)
     go_simp
     refine hK.out _ ?_; clear hK K)
  refine wpQuiet_nil ?_
  intro _ hw'
  obtain ⟨nq, hw''⟩ := hw'
  subst hw''
  go_wp2
  go_ret
  exact ⟨rfl, below_drewN hb nq⟩

set_option maxHeartbeats 4000000 in
set_option maxRecDepth 100000 in
theorem inRange_no6 (Y M D h mi s ml x1 x2 x3 : Int) (w : World) (Y0 : 0 ≤ Y) (Y1 : Y ≤ 9999) (g1 : 1 ≤ M ∧ M ≤ 12) (g2 : 1 ≤ D ∧ D ≤ md Y M) (g3 : 0 ≤ h ∧ h ≤ 23) (g4 : 0 ≤ mi ∧ mi ≤ 59) (g5 : 0 ≤ s ∧ s ≤ 59) (g6 : ¬ (0 ≤ ml ∧ ml ≤ 999)) :
    Calls Tryd.prog 27 #[ag Y M D h mi s ml x1 x2 x3] w fun e w' => e = .returned (.bool false) ∧ Below w.heap.size w w' := by
  have c1 := within_t M 1 12 g1
  have c2 := within_t D 1 (md Y M) g2
  have c3 := within_t h 0 23 g3
  have c4 := within_t mi 0 59 g4
  have c5 := within_t s 0 59 g5
  have c6 := within_f ml 0 999 g6
  have cm := fun w => monthDays_any Y M w Y0 (by omega) g1.1 g1.2
  have hm := md_bd Y M
  have q1 : (w.alloc (tenO Y M D h mi s ml x1 x2 x3)).cell? ⟨w.heap.size, 1, none⟩ = some (.int .i64 M) := tenO_cell Y M D h mi s ml x1 x2 x3 w 1 _ rfl
  have q2 : (w.alloc (tenO Y M D h mi s ml x1 x2 x3)).cell? ⟨w.heap.size, 2, none⟩ = some (.int .i64 D) := tenO_cell Y M D h mi s ml x1 x2 x3 w 2 _ rfl
  have q0 : (w.alloc (tenO Y M D h mi s ml x1 x2 x3)).cell? ⟨w.heap.size, 0, none⟩ = some (.int .i64 Y) := tenO_cell Y M D h mi s ml x1 x2 x3 w 0 _ rfl
  have q3 : (w.alloc (tenO Y M D h mi s ml x1 x2 x3)).cell? ⟨w.heap.size, 3, none⟩ = some (.int .i64 h) := tenO_cell Y M D h mi s ml x1 x2 x3 w 3 _ rfl
  have q4 : (w.alloc (tenO Y M D h mi s ml x1 x2 x3)).cell? ⟨w.heap.size, 4, none⟩ = some (.int .i64 mi) := tenO_cell Y M D h mi s ml x1 x2 x3 w 4 _ rfl
  have q5 : (w.alloc (tenO Y M D h mi s ml x1 x2 x3)).cell? ⟨w.heap.size, 5, none⟩ = some (.int .i64 s) := tenO_cell Y M D h mi s ml x1 x2 x3 w 5 _ rfl
  have q6 : (w.alloc (tenO Y M D h mi s ml x1 x2 x3)).cell? ⟨w.heap.size, 6, none⟩ = some (.int .i64 ml) := tenO_cell Y M D h mi s ml x1 x2 x3 w 6 _ rfl
  clear g1 g2 g3 g4 g5 g6
  generalize md Y M = Z at *
  have hb : Below w.heap.size w (w.alloc (tenO Y M D h mi s ml x1 x2 x3)) := (Below.refl w.heap.size w).alloc (Nat.le_refl _) _
  go_enter Tryd.func27, Tryd.ntmps27
  go_wp2_with fail
  generalize w.alloc (tenO Y M D h mi s ml x1 x2 x3) = W at *
  refine wp_region_quiet_lit (by kernel_rfl) (by kernel_rfl) ?_
  iterate 2
    (refine q_take (by kernel_rfl) (fun K hK => ?_)
     go_simp
     refine hK.out _ ?_; clear hK K)
  refine q_take (by kernel_rfl) (fun K hK => ?_)
  go_simp
  apply Exists.intro
  refine ⟨fun _ => ?_, hK.out _ ?_⟩
  exact Calls.quiet_of_same (c1 _)
  clear hK K
  iterate 7
    (refine q_take (by kernel_rfl) (fun K hK => ?_)
     go_simp
     refine hK.out _ ?_; clear hK K)
  refine q_take (by kernel_rfl) (fun K hK => ?_)
  go_simp
  apply Exists.intro
  refine ⟨fun _ => ?_, hK.out _ ?_⟩
  exact Calls.quiet_of_same (cm _)
  clear hK K
  refine q_take (by kernel_rfl) (fun K hK => ?_)
  go_simp
  apply Exists.intro
  refine ⟨fun _ => ?_, hK.out _ ?_⟩
  exact Calls.quiet_of_same (c2 _)
  clear hK K
  iterate 4
    (refine q_take (by kernel_rfl) (fun K hK => ?_)
     go_simp
     refine hK.out _ ?_; clear hK K)
  refine q_take (by kernel_rfl) (fun K hK => ?_)
  go_simp
  apply Exists.intro
  refine ⟨fun _ => ?_, hK.out _ ?_⟩
  exact Calls.quiet_of_same (c3 _)
  clear hK K
  iterate 4
    (refine q_take (by kernel_rfl) (fun K hK => ?_)
     go_simp
     refine hK.out _ ?_; clear hK K)
  refine q_take (by kernel_rfl) (fun K hK => ?_)
  go_simp
  apply Exists.intro
  refine ⟨fun _ => ?_, hK.out _ ?_⟩
  exact Calls.quiet_of_same (c4 _)
  clear hK K
  iterate 4
    (refine q_take (by kernel_rfl) (fun K hK => ?_)
     go_simp
     refine hK.out _ ?_; clear hK K)
  refine q_take (by kernel_rfl) (fun K hK => ?_)
  go_simp
  apply Exists.intro
  refine ⟨fun _ => ?_, hK.out _ ?_⟩
  exact Calls.quiet_of_same (c5 _)
  clear hK K
  iterate 4
    (refine q_take (by kernel_rfl) (fun K hK => ?_)
     go_simp
     refine hK.out _ ?_; clear hK K)
  refine q_take (by kernel_rfl) (fun K hK => ?_)
  go_simp
  apply Exists.intro
  refine ⟨fun _ => ?_, hK.out _ ?_⟩
  exact Calls.quiet_of_same (c6 _)
  clear hK K
  iterate 2
    (refine q_take (by kernel_rfl) (fun K hK => ?_)
     go_simp
     refine hK.out _ ?_; clear hK K)
  refine wpQuiet_nil ?_
  intro _ hw'
  obtain ⟨nq, hw''⟩ := hw'
  subst hw''
  go_wp2
  go_ret
  exact ⟨rfl, below_drewN hb nq⟩
end Go.Proofs.YtmfeckpcnofkhaaDoor
