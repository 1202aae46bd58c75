/- The walk of Civil. -/
import Derived.Test.YtmfeckpcnofkhabDoorCivA
import Derived.Test.YtmfeckpcnofkhabDoorUnits
import Derived.Deep.RegionHeld3
namespace Go.Proofs.YtmfeckpcnofkhabDoor
open Go.RowKit

theorem Units.at1 {w : World} (h : Units w) (i : Nat) (hi : i < 7) : w.cell? ⟨0, 2 * i + 1, none⟩ = some (.int .i64 (ulen i)) := (h.2 i hi).2
theorem Units.day {w : World} (h : Units w) : w.cell? ⟨0, 5, none⟩ = some (.int .i64 86400000) := h.at1 2 (by omega)
theorem Units.hour {w : World} (h : Units w) : w.cell? ⟨0, 7, none⟩ = some (.int .i64 3600000) := h.at1 3 (by omega)
theorem Units.minute {w : World} (h : Units w) : w.cell? ⟨0, 9, none⟩ = some (.int .i64 60000) := h.at1 4 (by omega)
theorem Units.second {w : World} (h : Units w) : w.cell? ⟨0, 11, none⟩ = some (.int .i64 1000) := h.at1 5 (by omega)

/-- The ten numbers of a moment. -/
def civV (days rest cyc inC y m : Int) : Array Value :=
  #[.int .i64 (cyc * 400 + y), .int .i64 m, .int .i64 (inC - dB y - cum y m + 1), .int .i64 (rest / 3600000), .int .i64 (rest % 3600000 / 60000), .int .i64 (rest % 60000 / 1000), .int .i64 (rest % 1000),
    .int .i64 ((days + 4) % 7), .int .i64 (inC - dB y + 1), .int .i64 (md y m)]

/-- A new block for ten numbers. -/
abbrev ten : Obj := Obj.cells #[.int .i64 0, .int .i64 0, .int .i64 0, .int .i64 0, .int .i64 0, .int .i64 0, .int .i64 0, .int .i64 0, .int .i64 0, .int .i64 0] 30
theorem Units.alloc {w : World} (h : Units w) (o : Obj) : Units (w.alloc o) := h.belowS ((Below.refl _ _).alloc (Nat.le_refl _) o)

set_option maxHeartbeats 1000000 in
theorem civil_any (ms days rest cyc inC y m : Int) (h : CivR ms days rest cyc inC y m) (w : World) (hU : Units w) (h0 : -9223372036854775808 ≤ ms) (h1 : ms ≤ 9223372036854775807) :
    Calls Tryd.prog 10 #[.int .i64 ms] w fun e w' => e = .returned (.agg (civV days rest cyc inC y m)) ∧ Below w.heap.size w w' := by
  obtain ⟨e1, r0, r1, e2, c0, c1, y0, y1, b0, b1, m0, m1, q0, q1⟩ := h
  have hd0 : -106751991168 ≤ days := by omega
  have hd1 : days ≤ 106751991167 := by omega
  have hc0 : -1000000 ≤ cyc := by omega
  have hc1 : cyc ≤ 1000000 := by omega
  have u2 := (hU.alloc ten).day
  have k1 := fun w => divided_any ms 86400000 days rest w h0 h1 (by omega) (by omega) e1 r0 r1 (by omega) (by omega)
  have k2 := fun w => divided_any (days + 719528) 146097 cyc inC w (by omega) (by omega) (by omega) (by omega) e2 c0 c1 (by omega) (by omega)
  have k3 := fun w => yearOf_any inC y w c0 (by omega) y0 y1 b0 b1
  have k4 := fun w => daysBefore_any y w y0 (by omega)
  have k5 := fun w => monthOf_any y (inC - dB y) m w y0 (by omega) m0 m1 q0 q1
  have k6 := fun w => divided_any (days + 4) 7 ((days + 4) / 7) ((days + 4) % 7) w (by omega) (by omega) (by omega) (by omega) (by omega) (by omega) (by omega) (by omega) (by omega)
  have k7 := fun w => monthDays_any y m w y0 (by omega) m0 m1
  have hk := dB_succ y
  have hl := lpN_or y
  have hcu := cum_bd y m m0 (by omega)
  have hy0 : 0 ≤ inC - dB y := by omega
  have hy1 : inC - dB y ≤ 366 := by omega
  have hB0 := dB_ge y y0
  have hB1 := dB_le y y0
  have HU : Hid (Units w) := hU
  have n7 := World.new_ne w ⟨0, 7, none⟩ hU.hour
  have n9 := World.new_ne w ⟨0, 9, none⟩ hU.minute
  have n11 := World.new_ne w ⟨0, 11, none⟩ hU.second
  clear e1 e2 b0 b1 q0 q1 hU hk hl
  unfold civV
  go_enter Tryd.func10, Tryd.ntmps10
  go_wp2_with fail
  go_fit (k1 _)
  rintro e w1 ⟨rfl, hb1⟩
  clear k1 u2
  go_wp2_with fail
  go_fit (k2 _)
  rintro e w2 ⟨rfl, hb2'⟩
  have hb2 := hb1.trans (hb2'.mono hb1.size)
  clear k2 hb2' hb1
  go_wp2_with fail
  go_fit (k3 _)
  rintro e w3 ⟨rfl, rfl⟩
  clear k3
  go_wp2_with fail
  go_fit (k4 _)
  rintro e w4 ⟨rfl, rfl⟩
  clear k4
  go_wp2_with fail
  go_fit (k5 _)
  rintro e w5 ⟨rfl, hb5'⟩
  have hb5 := hb2.trans (hb5'.mono hb2.size)
  clear k5 hb5' hb2
  go_wp2_with fail
  go_fit (k6 _)
  rintro e w6 ⟨rfl, hb6'⟩
  have hb6 := hb5.trans (hb6'.mono hb5.size)
  clear k6 hb6' hb5
  have hU6 : Units w6 := (HU.out.alloc ten).belowS hb6
  have u3 := hU6.hour
  have u4 := hU6.minute
  have u5 := hU6.second
  have hcell : ∀ i, i < 10 → w6.cell? ⟨w.heap.size, i, none⟩ = some (.int .i64 0) := fun i hi => by
    rw [hb6.cell (by simp)]
    have : i = 0 ∨ i = 1 ∨ i = 2 ∨ i = 3 ∨ i = 4 ∨ i = 5 ∨ i = 6 ∨ i = 7 ∨ i = 8 ∨ i = 9 := by omega
    rcases this with rfl | rfl | rfl | rfl | rfl | rfl | rfl | rfl | rfl | rfl <;> simp [go_sem]
  have hfz : ∀ i, w6.frozen? ⟨w.heap.size, i, none⟩ = false := fun i => by
    rw [hb6.frozen (by simp)]
    simp [go_sem]
  have f0 := hcell 0 (by omega)
  have f1 := hcell 1 (by omega)
  have f2 := hcell 2 (by omega)
  have f3 := hcell 3 (by omega)
  have f4 := hcell 4 (by omega)
  have f5 := hcell 5 (by omega)
  have f6 := hcell 6 (by omega)
  have f7 := hcell 7 (by omega)
  have f8 := hcell 8 (by omega)
  have f9 := hcell 9 (by omega)
  clear hcell
  go_wp2_with fail
  go_region_held3 (fun w' => w'.cell? ⟨0, 7, none⟩ = some (.int .i64 3600000) ∧ w'.cell? ⟨0, 9, none⟩ = some (.int .i64 60000) ∧ w'.cell? ⟨0, 11, none⟩ = some (.int .i64 1000)) (go_keep)
    (first | (go_at_call 27; go_fit (k7 _); rintro e w7 ⟨rfl, rfl⟩))
  clear k7 u3 u4 u5 n7 n9 n11
  go_wp2
  rw [Int.tdiv_eq_ediv_of_nonneg r0, Int.tmod_eq_emod_of_nonneg r0, Int.tmod_eq_emod_of_nonneg r0, Int.tmod_eq_emod_of_nonneg r0, Int.tdiv_eq_ediv_of_nonneg (a := rest % 3600000) (by omega), Int.tdiv_eq_ediv_of_nonneg (a := rest % 60000) (by omega),
    wrI (cyc * 400) (by omega) (by omega), wrI (cyc * 400 + y) (by omega) (by omega), wrI (inC - dB y - cum y m + 1) (by omega) (by omega), wrI (rest / 3600000) (by omega) (by omega), wrI (rest % 3600000 / 60000) (by omega) (by omega), wrI (rest % 60000 / 1000) (by omega) (by omega), wrI (inC - dB y + 1) (by omega) (by omega)]
  have hbB : Below w.heap.size w w6 := ((Below.refl w.heap.size w).alloc (Nat.le_refl _) ten).trans (hb6.mono (by simp))
  refine bodyPost_ret (v := .agg (civV days rest cyc inC y m)) ?_ rfl ⟨rfl, ?_⟩
  · unfold civV
    simp [results, Tryd.results10, go_sem, f0, f1, f2, f3, f4, f5, f6, f7, f8, f9]
  · exact ((((((((((hbB.setCell (Nat.le_refl _) _).setCell (Nat.le_refl _) _).setCell (Nat.le_refl _) _).setCell (Nat.le_refl _) _).setCell (Nat.le_refl _) _).setCell (Nat.le_refl _) _).setCell (Nat.le_refl _) _).setCell (Nat.le_refl _) _).setCell (Nat.le_refl _) _).setCell (Nat.le_refl _) _).drew
end Go.Proofs.YtmfeckpcnofkhabDoor
