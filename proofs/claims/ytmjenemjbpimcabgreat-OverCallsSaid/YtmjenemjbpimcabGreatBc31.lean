/- A bundle of texts. -/
import Derived.Test.YtmjenemjbpimcabGreatBc22
import Derived.Test.YtmjenemjbpimcabGreatBc24
/- What the reference asks for. -/
namespace Go.Proofs.YtmjenemjbpimcabGreat
open Go.RowKit

theorem ne_bytes (nm b : ByteArray) (l : List UInt8) (hl : b.toList = l) (h : nm ≠ b) : (nm.toList == l) = false := by
  obtain ⟨c, e, t⟩ := eqB nm b l hl
  cases c
  · exact e
  · exact absurd (t.1 rfl) h
set_option maxHeartbeats 4000000 in
set_option maxRecDepth 100000 in
theorem least_0 (w : World) : Calls Tryz.prog 21 #[.string ⟨#[99, 111, 117, 110, 116, 95, 111, 118, 101, 114, 95, 116, 105, 109, 101]⟩] w fun r w' => r = .returned (.tuple #[.int .i64 1, .int .i64 0]) ∧ w' = w := by
  go_enter Tryz.func21, Tryz.ntmps21
  go_wp2
  go_ret2
  exact ⟨rfl, rfl⟩
set_option maxHeartbeats 4000000 in
set_option maxRecDepth 100000 in
theorem least_1 (w : World) : Calls Tryz.prog 21 #[.string ⟨#[112, 114, 101, 115, 101, 110, 116, 95, 111, 118, 101, 114, 95, 116, 105, 109, 101]⟩] w fun r w' => r = .returned (.tuple #[.int .i64 1, .int .i64 0]) ∧ w' = w := by
  go_enter Tryz.func21, Tryz.ntmps21
  go_wp2
  go_ret2
  exact ⟨rfl, rfl⟩
set_option maxHeartbeats 4000000 in
set_option maxRecDepth 100000 in
theorem least_2 (w : World) : Calls Tryz.prog 21 #[.string ⟨#[102, 105, 114, 115, 116, 95, 111, 118, 101, 114, 95, 116, 105, 109, 101]⟩] w fun r w' => r = .returned (.tuple #[.int .i64 1, .int .i64 0]) ∧ w' = w := by
  go_enter Tryz.func21, Tryz.ntmps21
  go_wp2
  go_ret2
  exact ⟨rfl, rfl⟩
set_option maxHeartbeats 4000000 in
set_option maxRecDepth 100000 in
theorem least_3 (w : World) : Calls Tryz.prog 21 #[.string ⟨#[108, 97, 115, 116, 95, 111, 118, 101, 114, 95, 116, 105, 109, 101]⟩] w fun r w' => r = .returned (.tuple #[.int .i64 1, .int .i64 0]) ∧ w' = w := by
  go_enter Tryz.func21, Tryz.ntmps21
  go_wp2
  go_ret2
  exact ⟨rfl, rfl⟩
set_option maxHeartbeats 4000000 in
set_option maxRecDepth 100000 in
theorem least_4 (w : World) : Calls Tryz.prog 21 #[.string ⟨#[115, 117, 109, 95, 111, 118, 101, 114, 95, 116, 105, 109, 101]⟩] w fun r w' => r = .returned (.tuple #[.int .i64 1, .int .i64 0]) ∧ w' = w := by
  go_enter Tryz.func21, Tryz.ntmps21
  go_wp2
  go_ret2
  exact ⟨rfl, rfl⟩
set_option maxHeartbeats 4000000 in
set_option maxRecDepth 100000 in
theorem least_5 (w : World) : Calls Tryz.prog 21 #[.string ⟨#[97, 118, 103, 95, 111, 118, 101, 114, 95, 116, 105, 109, 101]⟩] w fun r w' => r = .returned (.tuple #[.int .i64 1, .int .i64 0]) ∧ w' = w := by
  go_enter Tryz.func21, Tryz.ntmps21
  go_wp2
  go_ret2
  exact ⟨rfl, rfl⟩
set_option maxHeartbeats 4000000 in
set_option maxRecDepth 100000 in
theorem least_6 (w : World) : Calls Tryz.prog 21 #[.string ⟨#[115, 116, 100, 100, 101, 118, 95, 111, 118, 101, 114, 95, 116, 105, 109, 101]⟩] w fun r w' => r = .returned (.tuple #[.int .i64 1, .int .i64 0]) ∧ w' = w := by
  go_enter Tryz.func21, Tryz.ntmps21
  go_wp2
  go_ret2
  exact ⟨rfl, rfl⟩
set_option maxHeartbeats 4000000 in
set_option maxRecDepth 100000 in
theorem least_7 (w : World) : Calls Tryz.prog 21 #[.string ⟨#[115, 116, 100, 118, 97, 114, 95, 111, 118, 101, 114, 95, 116, 105, 109, 101]⟩] w fun r w' => r = .returned (.tuple #[.int .i64 1, .int .i64 0]) ∧ w' = w := by
  go_enter Tryz.func21, Tryz.ntmps21
  go_wp2
  go_ret2
  exact ⟨rfl, rfl⟩
set_option maxHeartbeats 4000000 in
set_option maxRecDepth 100000 in
theorem least_8 (w : World) : Calls Tryz.prog 21 #[.string ⟨#[109, 97, 120, 95, 111, 118, 101, 114, 95, 116, 105, 109, 101]⟩] w fun r w' => r = .returned (.tuple #[.int .i64 1, .int .i64 0]) ∧ w' = w := by
  go_enter Tryz.func21, Tryz.ntmps21
  go_wp2
  go_ret2
  exact ⟨rfl, rfl⟩
set_option maxHeartbeats 4000000 in
set_option maxRecDepth 100000 in
theorem least_9 (w : World) : Calls Tryz.prog 21 #[.string ⟨#[109, 105, 110, 95, 111, 118, 101, 114, 95, 116, 105, 109, 101]⟩] w fun r w' => r = .returned (.tuple #[.int .i64 1, .int .i64 0]) ∧ w' = w := by
  go_enter Tryz.func21, Tryz.ntmps21
  go_wp2
  go_ret2
  exact ⟨rfl, rfl⟩
set_option maxHeartbeats 4000000 in
set_option maxRecDepth 100000 in
theorem least_10 (w : World) : Calls Tryz.prog 21 #[.string ⟨#[113, 117, 97, 110, 116, 105, 108, 101, 95, 111, 118, 101, 114, 95, 116, 105, 109, 101]⟩] w fun r w' => r = .returned (.tuple #[.int .i64 1, .int .i64 1]) ∧ w' = w := by
  go_enter Tryz.func21, Tryz.ntmps21
  go_wp2
  go_ret2
  exact ⟨rfl, rfl⟩
set_option maxHeartbeats 4000000 in
set_option maxRecDepth 100000 in
theorem least_11 (w : World) : Calls Tryz.prog 21 #[.string ⟨#[109, 97, 100, 95, 111, 118, 101, 114, 95, 116, 105, 109, 101]⟩] w fun r w' => r = .returned (.tuple #[.int .i64 1, .int .i64 0]) ∧ w' = w := by
  go_enter Tryz.func21, Tryz.ntmps21
  go_wp2
  go_ret2
  exact ⟨rfl, rfl⟩
set_option maxHeartbeats 4000000 in
set_option maxRecDepth 100000 in
theorem least_12 (w : World) : Calls Tryz.prog 21 #[.string ⟨#[99, 104, 97, 110, 103, 101, 115]⟩] w fun r w' => r = .returned (.tuple #[.int .i64 1, .int .i64 0]) ∧ w' = w := by
  go_enter Tryz.func21, Tryz.ntmps21
  go_wp2
  go_ret2
  exact ⟨rfl, rfl⟩
set_option maxHeartbeats 4000000 in
set_option maxRecDepth 100000 in
theorem least_13 (w : World) : Calls Tryz.prog 21 #[.string ⟨#[114, 101, 115, 101, 116, 115]⟩] w fun r w' => r = .returned (.tuple #[.int .i64 1, .int .i64 0]) ∧ w' = w := by
  go_enter Tryz.func21, Tryz.ntmps21
  go_wp2
  go_ret2
  exact ⟨rfl, rfl⟩
set_option maxHeartbeats 4000000 in
set_option maxRecDepth 100000 in
theorem least_14 (w : World) : Calls Tryz.prog 21 #[.string ⟨#[114, 97, 116, 101]⟩] w fun r w' => r = .returned (.tuple #[.int .i64 2, .int .i64 0]) ∧ w' = w := by
  go_enter Tryz.func21, Tryz.ntmps21
  go_wp2
  go_ret2
  exact ⟨rfl, rfl⟩
set_option maxHeartbeats 4000000 in
set_option maxRecDepth 100000 in
theorem least_15 (w : World) : Calls Tryz.prog 21 #[.string ⟨#[105, 110, 99, 114, 101, 97, 115, 101]⟩] w fun r w' => r = .returned (.tuple #[.int .i64 2, .int .i64 0]) ∧ w' = w := by
  go_enter Tryz.func21, Tryz.ntmps21
  go_wp2
  go_ret2
  exact ⟨rfl, rfl⟩
set_option maxHeartbeats 4000000 in
set_option maxRecDepth 100000 in
theorem least_16 (w : World) : Calls Tryz.prog 21 #[.string ⟨#[100, 101, 108, 116, 97]⟩] w fun r w' => r = .returned (.tuple #[.int .i64 2, .int .i64 0]) ∧ w' = w := by
  go_enter Tryz.func21, Tryz.ntmps21
  go_wp2
  go_ret2
  exact ⟨rfl, rfl⟩
set_option maxHeartbeats 4000000 in
set_option maxRecDepth 100000 in
theorem least_17 (w : World) : Calls Tryz.prog 21 #[.string ⟨#[105, 114, 97, 116, 101]⟩] w fun r w' => r = .returned (.tuple #[.int .i64 2, .int .i64 0]) ∧ w' = w := by
  go_enter Tryz.func21, Tryz.ntmps21
  go_wp2
  go_ret2
  exact ⟨rfl, rfl⟩
set_option maxHeartbeats 4000000 in
set_option maxRecDepth 100000 in
theorem least_18 (w : World) : Calls Tryz.prog 21 #[.string ⟨#[105, 100, 101, 108, 116, 97]⟩] w fun r w' => r = .returned (.tuple #[.int .i64 2, .int .i64 0]) ∧ w' = w := by
  go_enter Tryz.func21, Tryz.ntmps21
  go_wp2
  go_ret2
  exact ⟨rfl, rfl⟩
set_option maxHeartbeats 4000000 in
set_option maxRecDepth 100000 in
theorem least_19 (w : World) : Calls Tryz.prog 21 #[.string ⟨#[100, 101, 114, 105, 118]⟩] w fun r w' => r = .returned (.tuple #[.int .i64 2, .int .i64 0]) ∧ w' = w := by
  go_enter Tryz.func21, Tryz.ntmps21
  go_wp2
  go_ret2
  exact ⟨rfl, rfl⟩
set_option maxHeartbeats 4000000 in
set_option maxRecDepth 100000 in
theorem least_20 (w : World) : Calls Tryz.prog 21 #[.string ⟨#[112, 114, 101, 100, 105, 99, 116, 95, 108, 105, 110, 101, 97, 114]⟩] w fun r w' => r = .returned (.tuple #[.int .i64 2, .int .i64 1]) ∧ w' = w := by
  go_enter Tryz.func21, Tryz.ntmps21
  go_wp2
  go_ret2
  exact ⟨rfl, rfl⟩
set_option maxHeartbeats 4000000 in
set_option maxRecDepth 100000 in
theorem least_21 (w : World) : Calls Tryz.prog 21 #[.string ⟨#[100, 111, 117, 98, 108, 101, 95, 101, 120, 112, 111, 110, 101, 110, 116, 105, 97, 108, 95, 115, 109, 111, 111, 116, 104, 105, 110, 103]⟩] w fun r w' => r = .returned (.tuple #[.int .i64 2, .int .i64 2]) ∧ w' = w := by
  go_enter Tryz.func21, Tryz.ntmps21
  go_wp2
  go_ret2
  exact ⟨rfl, rfl⟩
set_option maxHeartbeats 4000000 in
set_option maxRecDepth 100000 in
theorem least_22 (w : World) : Calls Tryz.prog 21 #[.string ⟨#[98, 101, 97, 116, 95, 111, 118, 101, 114, 95, 116, 105, 109, 101]⟩] w fun r w' => r = .returned (.tuple #[.int .i64 1, .int .i64 1]) ∧ w' = w := by
  go_enter Tryz.func21, Tryz.ntmps21
  go_wp2
  go_ret2
  exact ⟨rfl, rfl⟩
theorem least_k (k : Nat) (hk : k < 23) (nm : ByteArray) (hnm : nm = (fnAt k).1) (w : World) : Calls Tryz.prog 21 #[.string nm] w fun r w' => r = .returned (.tuple #[.int .i64 ((fnAt k).2.2.1 : Nat), .int .i64 ((fnAt k).2.1 : Nat)]) ∧ w' = w := by
  subst hnm
  rcases (show k = 0 ∨ k = 1 ∨ k = 2 ∨ k = 3 ∨ k = 4 ∨ k = 5 ∨ k = 6 ∨ k = 7 ∨ k = 8 ∨ k = 9 ∨ k = 10 ∨ k = 11 ∨ k = 12 ∨ k = 13 ∨ k = 14 ∨ k = 15 ∨ k = 16 ∨ k = 17 ∨ k = 18 ∨ k = 19 ∨ k = 20 ∨ k = 21 ∨ k = 22 by omega) with rfl | rfl | rfl | rfl | rfl | rfl | rfl | rfl | rfl | rfl | rfl | rfl | rfl | rfl | rfl | rfl | rfl | rfl | rfl | rfl | rfl | rfl | rfl
  · exact least_0 w
  · exact least_1 w
  · exact least_2 w
  · exact least_3 w
  · exact least_4 w
  · exact least_5 w
  · exact least_6 w
  · exact least_7 w
  · exact least_8 w
  · exact least_9 w
  · exact least_10 w
  · exact least_11 w
  · exact least_12 w
  · exact least_13 w
  · exact least_14 w
  · exact least_15 w
  · exact least_16 w
  · exact least_17 w
  · exact least_18 w
  · exact least_19 w
  · exact least_20 w
  · exact least_21 w
  · exact least_22 w
set_option maxHeartbeats 4000000 in
set_option maxRecDepth 100000 in
theorem least_un (nm : ByteArray) (hnm : ¬ Knw nm) (w : World) : Calls Tryz.prog 21 #[.string nm] w fun r w' => r = .returned (.tuple #[.int .i64 0, .int .i64 0]) ∧ w' = w := by
  have e0 := ne_bytes nm (fnAt 0).1 [99, 111, 117, 110, 116, 95, 111, 118, 101, 114, 95, 116, 105, 109, 101] (by show ByteArray.toList ⟨#[99, 111, 117, 110, 116, 95, 111, 118, 101, 114, 95, 116, 105, 109, 101]⟩ = _; rw [Lib.toList_data]) (fun h => hnm ⟨0, by decide, h⟩)
  have e1 := ne_bytes nm (fnAt 1).1 [112, 114, 101, 115, 101, 110, 116, 95, 111, 118, 101, 114, 95, 116, 105, 109, 101] (by show ByteArray.toList ⟨#[112, 114, 101, 115, 101, 110, 116, 95, 111, 118, 101, 114, 95, 116, 105, 109, 101]⟩ = _; rw [Lib.toList_data]) (fun h => hnm ⟨1, by decide, h⟩)
  have e2 := ne_bytes nm (fnAt 2).1 [102, 105, 114, 115, 116, 95, 111, 118, 101, 114, 95, 116, 105, 109, 101] (by show ByteArray.toList ⟨#[102, 105, 114, 115, 116, 95, 111, 118, 101, 114, 95, 116, 105, 109, 101]⟩ = _; rw [Lib.toList_data]) (fun h => hnm ⟨2, by decide, h⟩)
  have e3 := ne_bytes nm (fnAt 3).1 [108, 97, 115, 116, 95, 111, 118, 101, 114, 95, 116, 105, 109, 101] (by show ByteArray.toList ⟨#[108, 97, 115, 116, 95, 111, 118, 101, 114, 95, 116, 105, 109, 101]⟩ = _; rw [Lib.toList_data]) (fun h => hnm ⟨3, by decide, h⟩)
  have e4 := ne_bytes nm (fnAt 4).1 [115, 117, 109, 95, 111, 118, 101, 114, 95, 116, 105, 109, 101] (by show ByteArray.toList ⟨#[115, 117, 109, 95, 111, 118, 101, 114, 95, 116, 105, 109, 101]⟩ = _; rw [Lib.toList_data]) (fun h => hnm ⟨4, by decide, h⟩)
  have e5 := ne_bytes nm (fnAt 5).1 [97, 118, 103, 95, 111, 118, 101, 114, 95, 116, 105, 109, 101] (by show ByteArray.toList ⟨#[97, 118, 103, 95, 111, 118, 101, 114, 95, 116, 105, 109, 101]⟩ = _; rw [Lib.toList_data]) (fun h => hnm ⟨5, by decide, h⟩)
  have e6 := ne_bytes nm (fnAt 6).1 [115, 116, 100, 100, 101, 118, 95, 111, 118, 101, 114, 95, 116, 105, 109, 101] (by show ByteArray.toList ⟨#[115, 116, 100, 100, 101, 118, 95, 111, 118, 101, 114, 95, 116, 105, 109, 101]⟩ = _; rw [Lib.toList_data]) (fun h => hnm ⟨6, by decide, h⟩)
  have e7 := ne_bytes nm (fnAt 7).1 [115, 116, 100, 118, 97, 114, 95, 111, 118, 101, 114, 95, 116, 105, 109, 101] (by show ByteArray.toList ⟨#[115, 116, 100, 118, 97, 114, 95, 111, 118, 101, 114, 95, 116, 105, 109, 101]⟩ = _; rw [Lib.toList_data]) (fun h => hnm ⟨7, by decide, h⟩)
  have e8 := ne_bytes nm (fnAt 8).1 [109, 97, 120, 95, 111, 118, 101, 114, 95, 116, 105, 109, 101] (by show ByteArray.toList ⟨#[109, 97, 120, 95, 111, 118, 101, 114, 95, 116, 105, 109, 101]⟩ = _; rw [Lib.toList_data]) (fun h => hnm ⟨8, by decide, h⟩)
  have e9 := ne_bytes nm (fnAt 9).1 [109, 105, 110, 95, 111, 118, 101, 114, 95, 116, 105, 109, 101] (by show ByteArray.toList ⟨#[109, 105, 110, 95, 111, 118, 101, 114, 95, 116, 105, 109, 101]⟩ = _; rw [Lib.toList_data]) (fun h => hnm ⟨9, by decide, h⟩)
  have e10 := ne_bytes nm (fnAt 10).1 [113, 117, 97, 110, 116, 105, 108, 101, 95, 111, 118, 101, 114, 95, 116, 105, 109, 101] (by show ByteArray.toList ⟨#[113, 117, 97, 110, 116, 105, 108, 101, 95, 111, 118, 101, 114, 95, 116, 105, 109, 101]⟩ = _; rw [Lib.toList_data]) (fun h => hnm ⟨10, by decide, h⟩)
  have e11 := ne_bytes nm (fnAt 11).1 [109, 97, 100, 95, 111, 118, 101, 114, 95, 116, 105, 109, 101] (by show ByteArray.toList ⟨#[109, 97, 100, 95, 111, 118, 101, 114, 95, 116, 105, 109, 101]⟩ = _; rw [Lib.toList_data]) (fun h => hnm ⟨11, by decide, h⟩)
  have e12 := ne_bytes nm (fnAt 12).1 [99, 104, 97, 110, 103, 101, 115] (by show ByteArray.toList ⟨#[99, 104, 97, 110, 103, 101, 115]⟩ = _; rw [Lib.toList_data]) (fun h => hnm ⟨12, by decide, h⟩)
  have e13 := ne_bytes nm (fnAt 13).1 [114, 101, 115, 101, 116, 115] (by show ByteArray.toList ⟨#[114, 101, 115, 101, 116, 115]⟩ = _; rw [Lib.toList_data]) (fun h => hnm ⟨13, by decide, h⟩)
  have e14 := ne_bytes nm (fnAt 14).1 [114, 97, 116, 101] (by show ByteArray.toList ⟨#[114, 97, 116, 101]⟩ = _; rw [Lib.toList_data]) (fun h => hnm ⟨14, by decide, h⟩)
  have e15 := ne_bytes nm (fnAt 15).1 [105, 110, 99, 114, 101, 97, 115, 101] (by show ByteArray.toList ⟨#[105, 110, 99, 114, 101, 97, 115, 101]⟩ = _; rw [Lib.toList_data]) (fun h => hnm ⟨15, by decide, h⟩)
  have e16 := ne_bytes nm (fnAt 16).1 [100, 101, 108, 116, 97] (by show ByteArray.toList ⟨#[100, 101, 108, 116, 97]⟩ = _; rw [Lib.toList_data]) (fun h => hnm ⟨16, by decide, h⟩)
  have e17 := ne_bytes nm (fnAt 17).1 [105, 114, 97, 116, 101] (by show ByteArray.toList ⟨#[105, 114, 97, 116, 101]⟩ = _; rw [Lib.toList_data]) (fun h => hnm ⟨17, by decide, h⟩)
  have e18 := ne_bytes nm (fnAt 18).1 [105, 100, 101, 108, 116, 97] (by show ByteArray.toList ⟨#[105, 100, 101, 108, 116, 97]⟩ = _; rw [Lib.toList_data]) (fun h => hnm ⟨18, by decide, h⟩)
  have e19 := ne_bytes nm (fnAt 19).1 [100, 101, 114, 105, 118] (by show ByteArray.toList ⟨#[100, 101, 114, 105, 118]⟩ = _; rw [Lib.toList_data]) (fun h => hnm ⟨19, by decide, h⟩)
  have e20 := ne_bytes nm (fnAt 20).1 [112, 114, 101, 100, 105, 99, 116, 95, 108, 105, 110, 101, 97, 114] (by show ByteArray.toList ⟨#[112, 114, 101, 100, 105, 99, 116, 95, 108, 105, 110, 101, 97, 114]⟩ = _; rw [Lib.toList_data]) (fun h => hnm ⟨20, by decide, h⟩)
  have e21 := ne_bytes nm (fnAt 21).1 [100, 111, 117, 98, 108, 101, 95, 101, 120, 112, 111, 110, 101, 110, 116, 105, 97, 108, 95, 115, 109, 111, 111, 116, 104, 105, 110, 103] (by show ByteArray.toList ⟨#[100, 111, 117, 98, 108, 101, 95, 101, 120, 112, 111, 110, 101, 110, 116, 105, 97, 108, 95, 115, 109, 111, 111, 116, 104, 105, 110, 103]⟩ = _; rw [Lib.toList_data]) (fun h => hnm ⟨21, by decide, h⟩)
  have e22 := ne_bytes nm (fnAt 22).1 [98, 101, 97, 116, 95, 111, 118, 101, 114, 95, 116, 105, 109, 101] (by show ByteArray.toList ⟨#[98, 101, 97, 116, 95, 111, 118, 101, 114, 95, 116, 105, 109, 101]⟩ = _; rw [Lib.toList_data]) (fun h => hnm ⟨22, by decide, h⟩)
  clear hnm
  go_enter Tryz.func21, Tryz.ntmps21
  go_wp2
  go_ret2
  exact ⟨rfl, rfl⟩
theorem rknown_any (nm : ByteArray) (w : World) : Calls Tryz.prog 14 #[.string nm] w fun r w' => ∃ b, r = .returned (.bool b) ∧ (b = true ↔ Knw nm) ∧ w' = w := by
  by_cases h : Knw nm
  · have HK : Hid (Knw nm) := h
    obtain ⟨k, hk, hnm⟩ := h
    have k1 := least_k k hk nm hnm
    have h1 : (1 : Int) ≤ ((fnAt k).2.2.1 : Nat) := by
      have := (show ∀ k, k < 23 → 1 ≤ (fnAt k).2.2.1 by decide +kernel) k hk
      omega
    generalize (fnAt k).2.2.1 = L at *
    generalize (fnAt k).2.1 = q at *
    clear hnm
    have h2 : (L : Int) > 0 := by omega
    go_enter Tryz.func14, Tryz.ntmps14
    go_wp2_with fail
    go_fit (k1 _)
    rintro e w1 ⟨rfl, rfl⟩
    go_wp2
    go_ret
    exact ⟨_, rfl, ⟨fun _ => HK.out, fun _ => by simp; omega⟩, rfl⟩
  · have k1 := least_un nm h
    have HK : Hid (¬ Knw nm) := h
    clear h
    go_enter Tryz.func14, Tryz.ntmps14
    go_wp2_with fail
    go_fit (k1 _)
    rintro e w1 ⟨rfl, rfl⟩
    go_wp2
    go_ret
    exact ⟨false, rfl, ⟨fun h => (by cases h), fun h => absurd h HK.out⟩, rfl⟩
end Go.Proofs.YtmjenemjbpimcabGreat
/- Over: the reference's Instant. -/
namespace Go.Proofs.YtmjenemjbpimcabGreat
open Go.RowKit

set_option maxHeartbeats 4000000 in
set_option maxRecDepth 100000 in
theorem rinstant_any (a : Option Addr) (n c : Nat) (F T N : Int) (ss : Nat → Smp) (ctr : Bool) (w : World) (hf : Sml w a ss n) (hsw : SW ss n) (hl : n ≤ 9223372036854775807) :
    Calls Tryz.prog 25 #[Wn a n c F T N, .bool ctr] w (RX w (2 ≤ n ∧ Snd ss n F T N) (inF ss n ctr)) := by
  have HB0 : Hid (Below w.heap.size w (w.alloc (wnX a n c F T N))) := (Below.refl _ w).alloc (Nat.le_refl _) _
  have HC : Hid (∀ W, Below (w.alloc (wnX a n c F T N)).heap.size (w.alloc (wnX a n c F T N)) W → WnC a n c F T N w.heap.size W) := wnC_new a n c F T N w
  have k22 := rsound_any a n c F T N ss (w.alloc (wnX a n c F T N)) (hf.below HB0.out) hl
  have HF : Hid (Sml w a ss n) := hf
  have HW : Hid (SW ss n) := hsw
  have HL : Hid (n ≤ 9223372036854775807) := hl
  clear hf hsw
  go_enter Tryz.func25, Tryz.ntmps25
  go_wp2_with fail
  go_fit k22
  rintro e w1 ⟨m1, rfl, hm1, b1⟩
  have HM1 : Hid (m1 = true ↔ Snd ss n F T N) := hm1
  have B1 : Hid (Below (w.alloc (wnX a n c F T N)).heap.size (w.alloc (wnX a n c F T N)) w1) := b1
  have B1w : Hid (Below w.heap.size w w1) := HB0.out.trans (b1.mono HB0.out.size)
  obtain ⟨x0, x1, x2, x3⟩ := HC.out w1 b1
  clear k22 hm1 b1
  cases m1
  · have HX : Hid (¬ (2 ≤ n ∧ Snd ss n F T N)) := fun h => by have := HM1.out.2 h.2; cases this
    clear HM1
    go_wp2
    go_ret2
    exact ⟨0, false, rfl, ⟨fun h => (by cases h), fun h => absurd h HX.out⟩, B1w.out, by decide, fun h => (by cases h), fun _ => rfl⟩
  have HS : Hid (Snd ss n F T N) := HM1.out.1 rfl
  clear HM1
  by_cases hn2 : (n : Int) < 2
  · have HX : Hid (¬ (2 ≤ n ∧ Snd ss n F T N)) := fun h => by have := h.1; omega
    go_wp2
    go_ret2
    exact ⟨0, false, rfl, ⟨fun h => (by cases h), fun h => absurd h HX.out⟩, B1w.out, by decide, fun h => (by cases h), fun _ => rfl⟩
  have HP : Hid (2 ≤ n ∧ Snd ss n F T N) := ⟨by omega, HS.out⟩
  rcases HF.out with h0 | ⟨g, o, rfl, hg, hat0⟩
  · exact absurd h0 (by omega)
  have hat : SAt w1 g o ss n := fun j hj => ⟨bcell B1w.out (hat0 j hj).1 hg, bcell B1w.out (hat0 j hj).2.1 hg, bcell B1w.out (hat0 j hj).2.2 hg⟩
  obtain ⟨m, hm⟩ : ∃ m, n - 2 = m := ⟨_, rfl⟩
  obtain ⟨k, hk⟩ : ∃ k, n - 1 = k := ⟨_, rfl⟩
  obtain ⟨y0, y1, y2⟩ := hat m (by omega)
  obtain ⟨z0, z1, z2⟩ := hat k (by omega)
  have l1 : Hid ((ss k).v < 18446744073709551616) := (HW.out k (by omega)).2.2
  have HE : Hid (inF ss n ctr = if ctr = true then fb .quo (if ltB (cl (ss k).v) (cl (ss m).v) = true then cl (ss k).v else fb .sub (cl (ss k).v) (cl (ss m).v)) (secF (df (ss k).t (ss m).t)) else fb .sub (cl (ss k).v) (cl (ss m).v)) := (show _ = _ by rw [← hm, ← hk]; rfl)
  generalize inF ss n ctr = R at *
  obtain ⟨u, hu⟩ : ∃ u, ss m = u := ⟨_, rfl⟩
  obtain ⟨v, hv⟩ : ∃ v, ss k = v := ⟨_, rfl⟩
  rw [hu] at y0 y1 y2 HE
  rw [hv] at z0 z1 z2 HE l1
  have w1x : IntKind.i64.wrap ((n : Int) - 1) = (k : Int) := by rw [IntKind.wrap_i64]; omega
  have w2x : IntKind.i64.wrap ((n : Int) - 2) = (m : Int) := by rw [IntKind.wrap_i64]; omega
  have p0 : (0 : Int) ≤ (m : Int) := by omega
  have p1 : (m : Int) < (n : Int) := by omega
  have p2 : (0 : Int) ≤ (k : Int) := by omega
  have p3 : (k : Int) < (n : Int) := by omega
  have p4 : ¬ (m : Int) < 0 := by omega
  have p5 : ¬ (k : Int) < 0 := by omega
  have hs := @run_fsub Tryz.prog
  have hq := @run_fquo Tryz.prog
  have hsf := @run_store_float Tryz.prog
  clear hat hat0 hu hv hm hk HS
  have HLt := ltB_eq v.v u.v
  have HSb : Hid (∀ (X Y : Obj) k, Below w.heap.size w (((w1.alloc X).alloc Y).drewN k)) := (show ∀ (X Y : Obj) k, _ from fun X Y k => below_drewN ((B1w.out.alloc B1w.out.size _).alloc (by have := B1w.out.size; simp; omega) _) k)
  have kS : ∀ D W, Calls Tryz.prog 32 #[.int .i64 D] W (RF W (secF D)) := rseconds_any
  go_wp2_with fail
  go_region_held3 (fun w' => w'.cell? ⟨w.heap.size, 0, none⟩ = some (.slice (some ⟨g, o, none⟩) n c) ∧ w'.cell? ⟨g, o + m * 3, none⟩ = some (.int .i64 u.t) ∧ w'.cell? ⟨g, o + m * 3 + 1, none⟩ = some (.float .f64 u.v) ∧ w'.cell? ⟨g, o + m * 3 + 2, none⟩ = some (.bool u.s) ∧ w'.cell? ⟨g, o + k * 3, none⟩ = some (.int .i64 v.t) ∧ w'.cell? ⟨g, o + k * 3 + 1, none⟩ = some (.float .f64 v.v) ∧ w'.cell? ⟨g, o + k * 3 + 2, none⟩ = some (.bool v.s)) (first | exact ⟨x0, y0, y1, y2, z0, z1, z2⟩ | assumption | go_keep) (fail)
  all_goals
    rename_i hh
    clear hh
    cases ctr
    · have HF2 : Hid (R = fb .sub (cl v.v) (cl u.v)) := HE.out
      clear HE HLt
      go_wp2
      go_ret2
      exact ⟨_, true, rfl, ⟨fun _ => HP.out, fun _ => rfl⟩, HSb.out _ _ _, fz_lt _ _ _ _, fun _ => by rw [cl_fz, HF2.out], fun h => by cases h⟩
    · cases hB : ltB (cl v.v) (cl u.v)
      · rw [hB] at HLt
        have HG : Hid (R = fb .quo (fb .sub (cl v.v) (cl u.v)) (secF (df v.t u.t))) := (show R = _ by rw [HE.out, hB]; rfl)
        clear HE hB
        go_wp2_with fail
        go_fit (kS _ _)
        rintro e w5 ⟨z5, n5, rfl, rfl, hz5, hc5⟩
        have HZ5 : Hid (cl z5 = secF (df v.t u.t)) := (show _ = _ by rw [hc5, df_w])
        clear hc5
        go_wp2
        go_ret2
        exact ⟨_, true, rfl, ⟨fun _ => HP.out, fun _ => rfl⟩, HSb.out _ _ _, fz_lt _ _ _ _, fun _ => by rw [cl_fz, cl_fz, HZ5.out, HG.out], fun h => by cases h⟩
      · rw [hB] at HLt
        have HG : Hid (R = fb .quo (cl v.v) (secF (df v.t u.t))) := (show R = _ by rw [HE.out, hB]; rfl)
        clear HE hB
        go_wp2_with fail
        go_fit (kS _ _)
        rintro e w5 ⟨z5, n5, rfl, rfl, hz5, hc5⟩
        have HZ5 : Hid (cl z5 = secF (df v.t u.t)) := (show _ = _ by rw [hc5, df_w])
        clear hc5
        go_wp2
        go_ret2
        exact ⟨_, true, rfl, ⟨fun _ => HP.out, fun _ => rfl⟩, HSb.out _ _ _, fz_lt _ _ _ _, fun _ => by rw [cl_fz, HZ5.out, HG.out], fun h => by cases h⟩
end Go.Proofs.YtmjenemjbpimcabGreat
