/- The walks of the reference's Moment. -/
import Derived.Test.YtmfeckpcnofkhaaDoorRefMom
import Derived.Test.YtmfeckpcnofkhaaDoorMom
namespace Go.Proofs.YtmfeckpcnofkhaaDoor
open Go.RowKit

set_option maxHeartbeats 4000000 in
set_option maxRecDepth 100000 in
theorem rmoment_ok (Y M D h mi s ml x1 x2 x3 : Int) (w : World) (Y0 : 0 ≤ Y) (Y1 : Y ≤ 9999) (g1 : ¬ M < 1) (g2 : ¬ 12 < M) (g3 : ¬ D < 1) (g4 : ¬ md Y M < D) (g5 : ¬ h < 0) (g6 : ¬ 23 < h) (g7 : ¬ mi < 0) (g8 : ¬ 59 < mi) (g9 : ¬ s < 0) (g10 : ¬ 59 < s) (g11 : ¬ ml < 0) (g12 : ¬ 999 < ml) :
    Calls Tryd.prog 10 #[ag Y M D h mi s ml x1 x2 x3] w fun e w' => e = .returned (.tuple #[.int .i64 (momV Y M D h mi s ml), .int .i64 0]) ∧ Below w.heap.size w w' := by
  have cm := fun w => rmonthDays_any Y M w Y0 (by omega) (by omega) (by omega)
  have hm := md_bd Y M
  have q0 : (w.alloc (tenO Y M D h mi s ml x1 x2 x3)).cell? ⟨w.heap.size, 0, none⟩ = some (.int .i64 Y) := tenO_cell Y M D h mi s ml x1 x2 x3 w 0 _ rfl
  have q1 : (w.alloc (tenO Y M D h mi s ml x1 x2 x3)).cell? ⟨w.heap.size, 1, none⟩ = some (.int .i64 M) := tenO_cell Y M D h mi s ml x1 x2 x3 w 1 _ rfl
  have q2 : (w.alloc (tenO Y M D h mi s ml x1 x2 x3)).cell? ⟨w.heap.size, 2, none⟩ = some (.int .i64 D) := tenO_cell Y M D h mi s ml x1 x2 x3 w 2 _ rfl
  have q3 : (w.alloc (tenO Y M D h mi s ml x1 x2 x3)).cell? ⟨w.heap.size, 3, none⟩ = some (.int .i64 h) := tenO_cell Y M D h mi s ml x1 x2 x3 w 3 _ rfl
  have q4 : (w.alloc (tenO Y M D h mi s ml x1 x2 x3)).cell? ⟨w.heap.size, 4, none⟩ = some (.int .i64 mi) := tenO_cell Y M D h mi s ml x1 x2 x3 w 4 _ rfl
  have q5 : (w.alloc (tenO Y M D h mi s ml x1 x2 x3)).cell? ⟨w.heap.size, 5, none⟩ = some (.int .i64 s) := tenO_cell Y M D h mi s ml x1 x2 x3 w 5 _ rfl
  have q6 : (w.alloc (tenO Y M D h mi s ml x1 x2 x3)).cell? ⟨w.heap.size, 6, none⟩ = some (.int .i64 ml) := tenO_cell Y M D h mi s ml x1 x2 x3 w 6 _ rfl
  have d1 : decide (M < 1) = false := decide_eq_false g1
  have d2 : decide (12 < M) = false := decide_eq_false g2
  have d3 : decide (D < 1) = false := decide_eq_false g3
  have d4 : decide (md Y M < D) = false := decide_eq_false g4
  have d5 : decide (h < 0) = false := decide_eq_false g5
  have d6 : decide (23 < h) = false := decide_eq_false g6
  have d7 : decide (mi < 0) = false := decide_eq_false g7
  have d8 : decide (59 < mi) = false := decide_eq_false g8
  have d9 : decide (s < 0) = false := decide_eq_false g9
  have d10 : decide (59 < s) = false := decide_eq_false g10
  have d11 : decide (ml < 0) = false := decide_eq_false g11
  have d12 : decide (999 < ml) = false := decide_eq_false g12
  generalize hZ : md Y M = Z at *
  have hb : Below w.heap.size w (w.alloc (tenO Y M D h mi s ml x1 x2 x3)) := (Below.refl w.heap.size w).alloc (Nat.le_refl _) _
  have hz : w.heap.size < (w.alloc (tenO Y M D h mi s ml x1 x2 x3)).heap.size := by simp
  go_enter Tryd.func10, Tryd.ntmps10
  go_wp2_with fail
  generalize w.alloc (tenO Y M D h mi s ml x1 x2 x3) = W at *
  go_region_held3 (fun w' => w'.cell? ⟨w.heap.size, 0, none⟩ = some (.int .i64 Y) ∧ w'.cell? ⟨w.heap.size, 1, none⟩ = some (.int .i64 M) ∧ w'.cell? ⟨w.heap.size, 2, none⟩ = some (.int .i64 D) ∧ w'.cell? ⟨w.heap.size, 3, none⟩ = some (.int .i64 h) ∧ w'.cell? ⟨w.heap.size, 4, none⟩ = some (.int .i64 mi) ∧ w'.cell? ⟨w.heap.size, 5, none⟩ = some (.int .i64 s) ∧ w'.cell? ⟨w.heap.size, 6, none⟩ = some (.int .i64 ml)) (go_keep) (first | (go_at_call 28; go_fit (cm _); rintro e w3 ⟨rfl, rfl⟩))
  clear cm
  have k3 := fun w => rbefore_any Y w Y0 Y1
  have hB0 := dB_ge Y Y0
  have hB1 := dB_le Y Y0
  clear d1 d2 d3 d4 d5 d6 d7 d8 d9 d10 d11 d12
  have D2 : D ≤ 31 := by omega
  have D0 : 1 ≤ D := by omega
  have M0 : 1 ≤ M := by omega
  have M1 : M ≤ 12 := by omega
  clear g1 g2 g3 g4 hm
  go_wp2_with fail
  go_region_held3 (fun w' => w'.cell? ⟨w.heap.size, 0, none⟩ = some (.int .i64 Y) ∧ w'.cell? ⟨w.heap.size, 2, none⟩ = some (.int .i64 D)) (go_keep) (first | (go_at_call 29; go_fit (k3 _); rintro e w3 ⟨rfl, rfl⟩))
  clear k3
  go_wp2_with fail
  rw [wrI (-719528 + dB Y + D) (by omega) (by omega), wrI (-719528 + dB Y + D - 1) (by omega) (by omega)]
  have HW : Hid (∀ i v, W.cell? ⟨w.heap.size, i, none⟩ = some v → ∀ w', Below W.heap.size W w' → w'.cell? ⟨w.heap.size, i, none⟩ = some v) := fun i v hv w' hw => by rw [hw.cell hz]; exact hv
  have HB : Hid (Below w.heap.size w W) := hb
  have H0 : Hid (W.cell? ⟨w.heap.size, 0, none⟩ = some (.int .i64 Y)) := q0
  have H1 : Hid (W.cell? ⟨w.heap.size, 1, none⟩ = some (.int .i64 M)) := q1
  have HY : Hid (0 ≤ dB Y ∧ dB Y ≤ 3700000) := ⟨by omega, by omega⟩
  clear q0 q1 q2 hb
  generalize hE : dB Y = E at *
  go_loopw [5, 4] (fun t u w' => ∃ z x : Int, t = .int .i64 z ∧ u = .int .i64 x ∧ x = E - 719528 + (D - 1) + cum Y z ∧ -800000 ≤ x ∧ x ≤ 3800000 ∧ 1 ≤ z ∧ z ≤ M ∧ Below W.heap.size W w') (fun t _ _ => (M - RowKit.intOf t).toNat)
  case atStart => exact ⟨1, _, rfl, rfl, by rw [cum_one]; omega, by have := HY.out; omega, by have := HY.out; omega, by omega, by omega, (Below.refl _ _).drew.drew⟩
  case round =>
    obtain ⟨z, x, rfl, rfl, hx, x0, x1', z0, z1, hbw⟩ := hrel
    have HX : Hid (x = E - 719528 + (D - 1) + cum Y z) := hx
    have c1 := HW.out 1 _ H1.out wr hbw
    have c0 := HW.out 0 _ H0.out wr hbw
    by_cases c : z = M
    · subst c
      have hbA : Below w.heap.size w wr := HB.out.trans (hbw.mono HB.out.size)
      have HBA : Hid (Below w.heap.size w wr) := hbA
      have e3 := HW.out 3 _ q3 wr hbw
      have e4 := HW.out 4 _ q4 wr hbw
      have e5 := HW.out 5 _ q5 wr hbw
      have e6 := HW.out 6 _ q6 wr hbw
      clear q3 q4 q5 q6 hbA hx hbw
      have h30 : 0 ≤ h := by omega
      have h31 : h ≤ 23 := by omega
      have h40 : 0 ≤ mi := by omega
      have h41 : mi ≤ 59 := by omega
      have h50 : 0 ≤ s := by omega
      have h51 : s ≤ 59 := by omega
      have h60 : 0 ≤ ml := by omega
      have h61 : ml ≤ 999 := by omega
      clear g5 g6 g7 g8 g9 g10 g11 g12
      go_wp2
      go_ret2
      have em : momV Y z D h mi s ml = x * 86400000 + h * 3600000 + mi * 60000 + s * 1000 + ml := by
        unfold momV
        rw [hE]
        have := HX.out
        omega
      exact ⟨by rw [em]; rfl, HBA.out⟩
    · have c2 : z < M := by omega
      have k := fun w => rmonthDays_any Y z w Y0 (by omega) z0 (by omega)
      have hs := cum_succ Y z z0 (by omega)
      have hm := md_bd Y z
      have hcb := cum_bd Y (z + 1) (by omega) (by omega)
      have HS : Hid (cum Y (z + 1) = cum Y z + md Y z ∧ 0 ≤ cum Y (z + 1) ∧ cum Y (z + 1) ≤ 366) := ⟨hs, hcb⟩
      clear hs hcb hx
      go_wp2_with fail
      first
        | (go_fit (k _); rintro e w3 ⟨rfl, rfl⟩; clear k; go_wp2)
        | (go_region_held3 (fun w' => w'.cell? ⟨w.heap.size, 0, none⟩ = some (.int .i64 Y)) (go_keep) (first | (go_at_call 28; go_fit (k _); rintro e w3 ⟨rfl, rfl⟩))
           clear k
           go_wp2)
      have h8 := HS.out
      have h9 := HX.out
      have h10 := HY.out
      exact ⟨⟨z + 1, x + md Y z, by go_num, by go_num, by omega, by omega, by omega, by omega, by omega, by assumption⟩, by simp [RowKit.intOf]; omega⟩
end Go.Proofs.YtmfeckpcnofkhaaDoor
