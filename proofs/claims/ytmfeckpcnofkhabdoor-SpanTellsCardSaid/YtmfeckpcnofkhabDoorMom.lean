/- The walk of Moment. -/
import Derived.Test.YtmfeckpcnofkhabDoorMomA
import Derived.Test.YtmfeckpcnofkhabDoorCiv
namespace Go.Proofs.YtmfeckpcnofkhabDoor
open Go.RowKit

set_option maxHeartbeats 1000000 in
set_option maxRecDepth 100000 in
theorem moment_year (Y M D h mi s ml x1 x2 x3 : Int) (w : World) (g : ¬ (0 ≤ Y ∧ Y ≤ 9999)) :
    Calls Tryd.prog 14 #[ag Y M D h mi s ml x1 x2 x3] w fun e w' => e = .returned (.tuple #[.int .i64 0, .int .i64 33]) ∧ Below w.heap.size w w' := by
  have k1 := within_f Y 0 9999 g
  go_enter Tryd.func14, Tryd.ntmps14
  go_wp2_with fail
  go_fit (k1 _)
  rintro e w1 ⟨rfl, rfl⟩
  go_wp2
  go_ret2
  exact ⟨rfl, ((Below.refl w.heap.size w).alloc (Nat.le_refl _) _)⟩
set_option maxHeartbeats 1000000 in
set_option maxRecDepth 100000 in
theorem moment_no (Y M D h mi s ml x1 x2 x3 : Int) (w : World) (g : 0 ≤ Y ∧ Y ≤ 9999)
    (k2 : ∀ w, Calls Tryd.prog 33 #[ag Y M D h mi s ml x1 x2 x3] w fun e w' => e = .returned (.bool false) ∧ Below w.heap.size w w') :
    Calls Tryd.prog 14 #[ag Y M D h mi s ml x1 x2 x3] w fun e w' => e = .returned (.tuple #[.int .i64 0, .int .i64 2]) ∧ Below w.heap.size w w' := by
  have k1 := within_t Y 0 9999 g
  go_enter Tryd.func14, Tryd.ntmps14
  go_wp2_with fail
  go_fit (k1 _)
  rintro e w1 ⟨rfl, rfl⟩
  go_wp2_with fail
  go_fit (k2 _)
  rintro e w2 ⟨rfl, hb⟩
  go_wp2
  go_ret2
  exact ⟨rfl, ((Below.refl w.heap.size w).alloc (Nat.le_refl _) _).trans (hb.mono (by simp))⟩

/-- The ms of a moment. -/
def momV (Y M D h mi s ml : Int) : Int := (dB Y - 719528 + (D - 1) + cum Y M) * 86400000 + h * 3600000 + mi * 60000 + s * 1000 + ml
set_option maxHeartbeats 1000000 in
set_option maxRecDepth 100000 in
theorem moment_ok (Y M D h mi s ml x1 x2 x3 : Int) (w : World) (hU : Units w) (g : 0 ≤ Y ∧ Y ≤ 9999) (g1 : 1 ≤ M ∧ M ≤ 12) (g2 : 1 ≤ D ∧ D ≤ md Y M) (g3 : 0 ≤ h ∧ h ≤ 23) (g4 : 0 ≤ mi ∧ mi ≤ 59) (g5 : 0 ≤ s ∧ s ≤ 59) (g6 : 0 ≤ ml ∧ ml ≤ 999)
    (k2 : ∀ w, Calls Tryd.prog 33 #[ag Y M D h mi s ml x1 x2 x3] w fun e w' => e = .returned (.bool true) ∧ Below w.heap.size w w') :
    Calls Tryd.prog 14 #[ag Y M D h mi s ml x1 x2 x3] w fun e w' => e = .returned (.tuple #[.int .i64 (momV Y M D h mi s ml), .int .i64 0]) ∧ Below w.heap.size w w' := by
  have k1 := within_t Y 0 9999 g
  obtain ⟨Y0, Y1⟩ := g
  obtain ⟨M0, M1⟩ := g1
  obtain ⟨D0, D1⟩ := g2
  have hmd := md_bd Y M
  have hB0 := dB_ge Y Y0
  have hB1 := dB_le Y Y0
  have k3 := fun w => daysBefore_any Y w Y0 (by omega)
  have D2 : D ≤ 31 := by omega
  clear D1 hmd
  have HU : Hid (Units w) := hU
  clear hU
  go_enter Tryd.func14, Tryd.ntmps14
  go_wp2_with fail
  go_fit (k1 _)
  rintro e w1 ⟨rfl, rfl⟩
  go_wp2_with fail
  go_fit (k2 _)
  rintro e w2 ⟨rfl, hb⟩
  have hc : ∀ i v, #[Value.int .i64 Y, .int .i64 M, .int .i64 D, .int .i64 h, .int .i64 mi, .int .i64 s, .int .i64 ml, .int .i64 x1, .int .i64 x2, .int .i64 x3][i]? = some v → w2.cell? ⟨w.heap.size, i, none⟩ = some v :=
    fun i v hv => by rw [hb.cell (by simp)]; exact tenO_cell Y M D h mi s ml x1 x2 x3 w i v hv
  have f0 : w2.cell? ⟨w.heap.size, 0, none⟩ = some (.int .i64 Y) := hc 0 _ rfl
  have f1 : w2.cell? ⟨w.heap.size, 1, none⟩ = some (.int .i64 M) := hc 1 _ rfl
  have f2 : w2.cell? ⟨w.heap.size, 2, none⟩ = some (.int .i64 D) := hc 2 _ rfl
  have f3 : w2.cell? ⟨w.heap.size, 3, none⟩ = some (.int .i64 h) := hc 3 _ rfl
  have f4 : w2.cell? ⟨w.heap.size, 4, none⟩ = some (.int .i64 mi) := hc 4 _ rfl
  have f5 : w2.cell? ⟨w.heap.size, 5, none⟩ = some (.int .i64 s) := hc 5 _ rfl
  have f6 : w2.cell? ⟨w.heap.size, 6, none⟩ = some (.int .i64 ml) := hc 6 _ rfl
  clear hc k1 k2
  go_wp2_with fail
  go_region_held3 (fun w' => w'.cell? ⟨w.heap.size, 2, none⟩ = some (.int .i64 D)) (go_keep) (first | (go_at_call 25; go_fit (k3 _); rintro e w3 ⟨rfl, rfl⟩))
  have hz2 : w.heap.size < w2.heap.size := by have := hb.size; simp at this; omega
  have HB : Hid (Below w.heap.size w w2) := ((Below.refl w.heap.size w).alloc (Nat.le_refl _) _).trans (hb.mono (by simp))
  clear k3 hb
  go_wp2_with fail
  rw [wrI (dB Y - 719528) (by omega) (by omega), wrI (D - 1) (by omega) (by omega), wrI (dB Y - 719528 + (D - 1)) (by omega) (by omega)]
  have HW : Hid (∀ i v, w2.cell? ⟨w.heap.size, i, none⟩ = some v → ∀ w', Below w2.heap.size w2 w' → w'.cell? ⟨w.heap.size, i, none⟩ = some v) := fun i v hv w' hw => by rw [hw.cell hz2]; exact hv
  have HF : Hid (w2.cell? ⟨w.heap.size, 1, none⟩ = some (.int .i64 M)) := f1
  clear f1
  have HY : Hid (0 ≤ dB Y ∧ dB Y ≤ 3700000) := ⟨by omega, by omega⟩
  generalize hE : dB Y = E at *
  go_loopw [6, 5] (fun t u w' => ∃ z x : Int, t = .int .i64 z ∧ u = .int .i64 x ∧ x = E - 719528 + (D - 1) + cum Y z ∧ -800000 ≤ x ∧ x ≤ 3800000 ∧ 1 ≤ z ∧ z ≤ M ∧ Below w2.heap.size w2 w') (fun t _ _ => (M - RowKit.intOf t).toNat)
  case atStart => exact ⟨1, _, rfl, rfl, by rw [cum_one]; omega, by omega, by have := HY.out; omega, by omega, by omega, (Below.refl _ _).drew⟩
  case round =>
    obtain ⟨z, x, rfl, rfl, hx, x0, x1, z0, z1, hbw⟩ := hrel
    have HX : Hid (x = E - 719528 + (D - 1) + cum Y z) := hx
    have c1 := HW.out 1 _ HF.out wr hbw
    by_cases c : z = M
    · subst c
      have hbA : Below w.heap.size w wr := HB.out.trans (hbw.mono HB.out.size)
      have HBA : Hid (Below w.heap.size w wr) := hbA
      have hUr : Units wr := HU.out.belowS hbA
      have u2 := hUr.day
      have u3 := hUr.hour
      have u4 := hUr.minute
      have u5 := hUr.second
      have e3 := HW.out 3 _ f3 wr hbw
      have e4 := HW.out 4 _ f4 wr hbw
      have e5 := HW.out 5 _ f5 wr hbw
      have e6 := HW.out 6 _ f6 wr hbw
      clear f0 f2 f3 f4 f5 f6 hbA hUr hx hbw
      obtain ⟨h30, h31⟩ := g3
      obtain ⟨h40, h41⟩ := g4
      obtain ⟨h50, h51⟩ := g5
      obtain ⟨h60, h61⟩ := g6
      go_wp2
      go_ret2
      have em : momV Y z D h mi s ml = x * 86400000 + h * 3600000 + mi * 60000 + s * 1000 + ml := by
        unfold momV
        rw [hE]
        have := HX.out
        omega
      exact ⟨by rw [em]; rfl, HBA.out⟩
    · have c2 : z < M := by omega
      have k := fun w => monthDays_any Y z w Y0 (by omega) z0 (by omega)
      have hs := cum_succ Y z z0 (by omega)
      have hm := md_bd Y z
      have hcb := cum_bd Y (z + 1) (by omega) (by omega)
      have HS : Hid (cum Y (z + 1) = cum Y z + md Y z ∧ 0 ≤ cum Y (z + 1) ∧ cum Y (z + 1) ≤ 366) := ⟨hs, hcb⟩
      clear hs hcb hx
      go_wp2_with fail
      go_fit (k _)
      rintro e w3 ⟨rfl, rfl⟩
      clear k
      go_wp2
      have h8 := HS.out
      have h9 := HX.out
      have h10 := HY.out
      exact ⟨⟨z + 1, x + md Y z, rfl, rfl, by omega, by omega, by omega, by omega, by omega, by assumption⟩, by simp [RowKit.intOf]; omega⟩
end Go.Proofs.YtmfeckpcnofkhabDoor
