/- The ways of a range that doesn't hold. -/
import Derived.Test.YtmfeckpcnofkhaaDoorMomA
import Derived.Test.YtmfeckpcnofkhaaDoorQs
namespace Go.Proofs.YtmfeckpcnofkhaaDoor
open Go.RowKit

set_option maxHeartbeats 4000000 in
set_option maxRecDepth 100000 in
theorem inRange_no1 (Y M D h mi s ml x1 x2 x3 : Int) (w : World)  (g1 : ¬ (1 ≤ M ∧ M ≤ 12)) :
    Calls Tryd.prog 27 #[ag Y M D h mi s ml x1 x2 x3] w fun e w' => e = .returned (.bool false) ∧ Below w.heap.size w w' := by
  have c1 := within_f M 1 12 g1
  have q1 : (w.alloc (tenO Y M D h mi s ml x1 x2 x3)).cell? ⟨w.heap.size, 1, none⟩ = some (.int .i64 M) := tenO_cell Y M D h mi s ml x1 x2 x3 w 1 _ rfl
  clear g1
  have hb : Below w.heap.size w (w.alloc (tenO Y M D h mi s ml x1 x2 x3)) := (Below.refl w.heap.size w).alloc (Nat.le_refl _) _
  go_enter Tryd.func27, Tryd.ntmps27
  go_wp2_with fail
  generalize w.alloc (tenO Y M D h mi s ml x1 x2 x3) = W at *
  refine wp_region_quiet_lit (by kernel_rfl) (by kernel_rfl) ?_
  iterate 2
    (refine q_take (by kernel_rfl) (fun K hK => ?_)
     go_simp
     refine hK.out _ ?_; clear hK K)
  refine q_take (by kernel_rfl) (fun K hK => ?_)
  go_simp
  apply Exists.intro
  refine ⟨fun _ => ?_, hK.out _ ?_⟩
  exact Calls.quiet_of_same (c1 _)
  clear hK K
  iterate 1
    (refine q_take (by kernel_rfl) (fun K hK => ?_)
     go_simp
     refine hK.out _ ?_; clear hK K)
  iterate 8
    (refine q_skip (by kernel_rfl) (fun K hK => ?_)
     go_simp
     refine hK.out _ ?_; clear hK K)
  iterate 2
    (refine q_take (by kernel_rfl) (fun K hK => ?_)
     go_simp
     refine hK.out _ ?_; clear hK K)
  iterate 3
    (refine q_skip (by kernel_rfl) (fun K hK => ?_)
     go_simp
     refine hK.out _ ?_; clear hK K)
  iterate 2
    (refine q_take (by kernel_rfl) (fun K hK => ?_)
     go_simp
     refine hK.out _ ?_; clear hK K)
  iterate 3
    (refine q_skip (by kernel_rfl) (fun K hK => ?_)
     go_simp
     refine hK.out _ ?_; clear hK K)
  iterate 2
    (refine q_take (by kernel_rfl) (fun K hK => ?_)
     go_simp
     refine hK.out _ ?_; clear hK K)
  iterate 3
    (refine q_skip (by kernel_rfl) (fun K hK => ?_)
     go_simp
     refine hK.out _ ?_; clear hK K)
  iterate 2
    (refine q_take (by kernel_rfl) (fun K hK => ?_)
     go_simp
     refine hK.out _ ?_; clear hK K)
  iterate 3
    (refine q_skip (by kernel_rfl) (fun K hK => ?_)
     go_simp
     refine hK.out _ ?_; clear hK K)
  iterate 2
    (refine q_take (by kernel_rfl) (fun K hK => ?_)
     go_simp
     refine hK.out _ ?_; clear hK K)
  refine wpQuiet_nil ?_
  intro _ hw'
  obtain ⟨nq, hw''⟩ := hw'
  subst hw''
  go_wp2
  go_ret
  exact ⟨rfl, below_drewN hb nq⟩
end Go.Proofs.YtmfeckpcnofkhaaDoor
