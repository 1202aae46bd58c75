/- The walks of inRange. -/
import Derived.Test.YtmfeckpcnofkhabDoorMomA
import Derived.Deep.RegionHeld3
namespace Go.Proofs.YtmfeckpcnofkhabDoor
open Go.RowKit

set_option maxHeartbeats 2000000 in
set_option maxRecDepth 100000 in
theorem inRange_ok (Y M D h mi s ml x1 x2 x3 : Int) (w : World) (Y0 : 0 ≤ Y) (Y1 : Y ≤ 9999) (g1 : 1 ≤ M ∧ M ≤ 12) (g2 : 1 ≤ D ∧ D ≤ md Y M) (g3 : 0 ≤ h ∧ h ≤ 23) (g4 : 0 ≤ mi ∧ mi ≤ 59) (g5 : 0 ≤ s ∧ s ≤ 59) (g6 : 0 ≤ ml ∧ ml ≤ 999) :
    Calls Tryd.prog 33 #[ag Y M D h mi s ml x1 x2 x3] w fun e w' => e = .returned (.bool true) ∧ Below w.heap.size w w' := by
  have c1 := within_t M 1 12 g1
  have c2 := within_t D 1 (md Y M) g2
  have c3 := within_t h 0 23 g3
  have c4 := within_t mi 0 59 g4
  have c5 := within_t s 0 59 g5
  have c6 := within_t ml 0 999 g6
  have cm := fun w => monthDays_any Y M w Y0 (by omega) g1.1 g1.2
  have hm := md_bd Y M
  have q1 : (w.alloc (tenO Y M D h mi s ml x1 x2 x3)).cell? ⟨w.heap.size, 1, none⟩ = some (.int .i64 M) := tenO_cell Y M D h mi s ml x1 x2 x3 w 1 _ rfl
  have q2 : (w.alloc (tenO Y M D h mi s ml x1 x2 x3)).cell? ⟨w.heap.size, 2, none⟩ = some (.int .i64 D) := tenO_cell Y M D h mi s ml x1 x2 x3 w 2 _ rfl
  have q0 : (w.alloc (tenO Y M D h mi s ml x1 x2 x3)).cell? ⟨w.heap.size, 0, none⟩ = some (.int .i64 Y) := tenO_cell Y M D h mi s ml x1 x2 x3 w 0 _ rfl
  have q3 : (w.alloc (tenO Y M D h mi s ml x1 x2 x3)).cell? ⟨w.heap.size, 3, none⟩ = some (.int .i64 h) := tenO_cell Y M D h mi s ml x1 x2 x3 w 3 _ rfl
  have q4 : (w.alloc (tenO Y M D h mi s ml x1 x2 x3)).cell? ⟨w.heap.size, 4, none⟩ = some (.int .i64 mi) := tenO_cell Y M D h mi s ml x1 x2 x3 w 4 _ rfl
  have q5 : (w.alloc (tenO Y M D h mi s ml x1 x2 x3)).cell? ⟨w.heap.size, 5, none⟩ = some (.int .i64 s) := tenO_cell Y M D h mi s ml x1 x2 x3 w 5 _ rfl
  have q6 : (w.alloc (tenO Y M D h mi s ml x1 x2 x3)).cell? ⟨w.heap.size, 6, none⟩ = some (.int .i64 ml) := tenO_cell Y M D h mi s ml x1 x2 x3 w 6 _ rfl
  clear g1 g2 g3 g4 g5 g6
  generalize md Y M = Z at *
  have hb : Below w.heap.size w (w.alloc (tenO Y M D h mi s ml x1 x2 x3)) := (Below.refl w.heap.size w).alloc (Nat.le_refl _) _
  go_enter Tryd.func33, Tryd.ntmps33
  go_wp2_with fail
  generalize w.alloc (tenO Y M D h mi s ml x1 x2 x3) = W at *
  go_region_held3 (fun w' => w'.cell? ⟨w.heap.size, 1, none⟩ = some (.int .i64 M) ∧ w'.cell? ⟨w.heap.size, 2, none⟩ = some (.int .i64 D) ∧ w'.cell? ⟨w.heap.size, 0, none⟩ = some (.int .i64 Y) ∧ w'.cell? ⟨w.heap.size, 3, none⟩ = some (.int .i64 h) ∧ w'.cell? ⟨w.heap.size, 4, none⟩ = some (.int .i64 mi) ∧ w'.cell? ⟨w.heap.size, 5, none⟩ = some (.int .i64 s) ∧ w'.cell? ⟨w.heap.size, 6, none⟩ = some (.int .i64 ml)) (go_keep) (first | (go_at_call 32; go_fit (c1 _); rintro e w3 ⟨rfl, rfl⟩) | (go_at_call 32; go_fit (c2 _); rintro e w3 ⟨rfl, rfl⟩) | (go_at_call 32; go_fit (c3 _); rintro e w3 ⟨rfl, rfl⟩) | (go_at_call 32; go_fit (c4 _); rintro e w3 ⟨rfl, rfl⟩) | (go_at_call 32; go_fit (c5 _); rintro e w3 ⟨rfl, rfl⟩) | (go_at_call 32; go_fit (c6 _); rintro e w3 ⟨rfl, rfl⟩) | (go_at_call 27; go_fit (cm _); rintro e w3 ⟨rfl, rfl⟩))
  go_wp2
  go_ret

  exact ⟨rfl, hb.drew⟩
end Go.Proofs.YtmfeckpcnofkhabDoor
