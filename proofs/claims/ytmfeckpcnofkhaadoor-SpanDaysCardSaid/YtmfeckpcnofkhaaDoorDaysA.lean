/- The law SpanDays, way by way. -/
import Derived.Test.YtmfeckpcnofkhaaDoorCiv
namespace Go.Proofs.YtmfeckpcnofkhaaDoor
open Go.RowKit

set_option maxHeartbeats 1000000 in
set_option maxRecDepth 100000 in
theorem dA_2_a (ms Y h mi s ml WD M' : Int) (D : Int) (D0 : 1 ≤ D) (D1 : D < 29) (YD : Int) (YD0 : 1 ≤ YD) (YD1 : YD ≤ 366) (w : World) (h0 : -9223372036854775808 ≤ ms) (h1 : ms ≤ 9223372036768375807) (W0 : 0 ≤ WD) (W1 : WD ≤ 6) (a1 : Y.tmod 4 = 0) (a2 : ¬ Y.tmod 100 = 0)
    (k1 : Calls Tryd.prog 8 #[.int .i64 ms] w fun e w' => e = .returned (.agg #[.int .i64 Y, .int .i64 2, .int .i64 D, .int .i64 h, .int .i64 mi, .int .i64 s, .int .i64 ml, .int .i64 WD, .int .i64 YD, .int .i64 29]) ∧ Below w.heap.size w w')
    (k2 : ∀ w1, Below w.heap.size w w1 → Calls Tryd.prog 8 #[.int .i64 (ms + 86400000)] w1 fun e w' => e = .returned (.agg #[.int .i64 Y, .int .i64 2, .int .i64 (D + 1), .int .i64 h, .int .i64 mi, .int .i64 s, .int .i64 ml, .int .i64 ((WD + 1) % 7), .int .i64 (YD + 1), .int .i64 M']) ∧ Below w1.heap.size w1 w') :
    Calls Tryd.prog 3 #[.int .i64 ms] w fun e w' => e = .returned (.bool true) ∧ Below w.heap.size w w' := by
  go_enter Tryd.func3, Tryd.ntmps3
  go_wp2_with fail
  go_fit k1
  rintro e w1 ⟨rfl, hb1⟩
  clear k1
  go_wp2_with fail
  go_fit (k2 w1 hb1)
  rintro e w2 ⟨rfl, hb2⟩
  clear k2
  have hb := hb1.trans (hb2.mono hb1.size)
  clear hb1 hb2
  go_wp2
  go_ret
  exact ⟨rfl, (hb.alloc hb.size _).alloc (Nat.le_trans hb.size (by simp)) _⟩

set_option maxHeartbeats 1000000 in
set_option maxRecDepth 100000 in
theorem dA_2_b (ms Y h mi s ml WD M' : Int) (D : Int) (D0 : 1 ≤ D) (D1 : D < 29) (YD : Int) (YD0 : 1 ≤ YD) (YD1 : YD ≤ 366) (w : World) (h0 : -9223372036854775808 ≤ ms) (h1 : ms ≤ 9223372036768375807) (W0 : 0 ≤ WD) (W1 : WD ≤ 6) (a1 : Y.tmod 4 = 0) (a2 : Y.tmod 100 = 0) (a3 : Y.tmod 400 = 0)
    (k1 : Calls Tryd.prog 8 #[.int .i64 ms] w fun e w' => e = .returned (.agg #[.int .i64 Y, .int .i64 2, .int .i64 D, .int .i64 h, .int .i64 mi, .int .i64 s, .int .i64 ml, .int .i64 WD, .int .i64 YD, .int .i64 29]) ∧ Below w.heap.size w w')
    (k2 : ∀ w1, Below w.heap.size w w1 → Calls Tryd.prog 8 #[.int .i64 (ms + 86400000)] w1 fun e w' => e = .returned (.agg #[.int .i64 Y, .int .i64 2, .int .i64 (D + 1), .int .i64 h, .int .i64 mi, .int .i64 s, .int .i64 ml, .int .i64 ((WD + 1) % 7), .int .i64 (YD + 1), .int .i64 M']) ∧ Below w1.heap.size w1 w') :
    Calls Tryd.prog 3 #[.int .i64 ms] w fun e w' => e = .returned (.bool true) ∧ Below w.heap.size w w' := by
  go_enter Tryd.func3, Tryd.ntmps3
  go_wp2_with fail
  go_fit k1
  rintro e w1 ⟨rfl, hb1⟩
  clear k1
  go_wp2_with fail
  go_fit (k2 w1 hb1)
  rintro e w2 ⟨rfl, hb2⟩
  clear k2
  have hb := hb1.trans (hb2.mono hb1.size)
  clear hb1 hb2
  go_wp2
  go_ret
  exact ⟨rfl, (hb.alloc hb.size _).alloc (Nat.le_trans hb.size (by simp)) _⟩

set_option maxHeartbeats 1000000 in
set_option maxRecDepth 100000 in
theorem dA_2_c (ms Y h mi s ml WD M' : Int) (D : Int) (D0 : 1 ≤ D) (D1 : D < 28) (YD : Int) (YD0 : 1 ≤ YD) (YD1 : YD ≤ 366) (w : World) (h0 : -9223372036854775808 ≤ ms) (h1 : ms ≤ 9223372036768375807) (W0 : 0 ≤ WD) (W1 : WD ≤ 6) (a1 : Y.tmod 4 = 0) (a2 : Y.tmod 100 = 0) (a3 : ¬ Y.tmod 400 = 0)
    (k1 : Calls Tryd.prog 8 #[.int .i64 ms] w fun e w' => e = .returned (.agg #[.int .i64 Y, .int .i64 2, .int .i64 D, .int .i64 h, .int .i64 mi, .int .i64 s, .int .i64 ml, .int .i64 WD, .int .i64 YD, .int .i64 28]) ∧ Below w.heap.size w w')
    (k2 : ∀ w1, Below w.heap.size w w1 → Calls Tryd.prog 8 #[.int .i64 (ms + 86400000)] w1 fun e w' => e = .returned (.agg #[.int .i64 Y, .int .i64 2, .int .i64 (D + 1), .int .i64 h, .int .i64 mi, .int .i64 s, .int .i64 ml, .int .i64 ((WD + 1) % 7), .int .i64 (YD + 1), .int .i64 M']) ∧ Below w1.heap.size w1 w') :
    Calls Tryd.prog 3 #[.int .i64 ms] w fun e w' => e = .returned (.bool true) ∧ Below w.heap.size w w' := by
  go_enter Tryd.func3, Tryd.ntmps3
  go_wp2_with fail
  go_fit k1
  rintro e w1 ⟨rfl, hb1⟩
  clear k1
  go_wp2_with fail
  go_fit (k2 w1 hb1)
  rintro e w2 ⟨rfl, hb2⟩
  clear k2
  have hb := hb1.trans (hb2.mono hb1.size)
  clear hb1 hb2
  go_wp2
  go_ret
  exact ⟨rfl, (hb.alloc hb.size _).alloc (Nat.le_trans hb.size (by simp)) _⟩

set_option maxHeartbeats 1000000 in
set_option maxRecDepth 100000 in
theorem dA_2_d (ms Y h mi s ml WD M' : Int) (D : Int) (D0 : 1 ≤ D) (D1 : D < 28) (YD : Int) (YD0 : 1 ≤ YD) (YD1 : YD ≤ 366) (w : World) (h0 : -9223372036854775808 ≤ ms) (h1 : ms ≤ 9223372036768375807) (W0 : 0 ≤ WD) (W1 : WD ≤ 6) (a1 : ¬ Y.tmod 4 = 0) (a3 : ¬ Y.tmod 400 = 0)
    (k1 : Calls Tryd.prog 8 #[.int .i64 ms] w fun e w' => e = .returned (.agg #[.int .i64 Y, .int .i64 2, .int .i64 D, .int .i64 h, .int .i64 mi, .int .i64 s, .int .i64 ml, .int .i64 WD, .int .i64 YD, .int .i64 28]) ∧ Below w.heap.size w w')
    (k2 : ∀ w1, Below w.heap.size w w1 → Calls Tryd.prog 8 #[.int .i64 (ms + 86400000)] w1 fun e w' => e = .returned (.agg #[.int .i64 Y, .int .i64 2, .int .i64 (D + 1), .int .i64 h, .int .i64 mi, .int .i64 s, .int .i64 ml, .int .i64 ((WD + 1) % 7), .int .i64 (YD + 1), .int .i64 M']) ∧ Below w1.heap.size w1 w') :
    Calls Tryd.prog 3 #[.int .i64 ms] w fun e w' => e = .returned (.bool true) ∧ Below w.heap.size w w' := by
  go_enter Tryd.func3, Tryd.ntmps3
  go_wp2_with fail
  go_fit k1
  rintro e w1 ⟨rfl, hb1⟩
  clear k1
  go_wp2_with fail
  go_fit (k2 w1 hb1)
  rintro e w2 ⟨rfl, hb2⟩
  clear k2
  have hb := hb1.trans (hb2.mono hb1.size)
  clear hb1 hb2
  go_wp2
  go_ret
  exact ⟨rfl, (hb.alloc hb.size _).alloc (Nat.le_trans hb.size (by simp)) _⟩

set_option maxHeartbeats 1000000 in
set_option maxRecDepth 100000 in
theorem dA_4_a (ms Y h mi s ml WD M' : Int) (D : Int) (D0 : 1 ≤ D) (D1 : D < 30) (YD : Int) (YD0 : 1 ≤ YD) (YD1 : YD ≤ 366) (w : World) (h0 : -9223372036854775808 ≤ ms) (h1 : ms ≤ 9223372036768375807) (W0 : 0 ≤ WD) (W1 : WD ≤ 6) (a1 : Y.tmod 4 = 0) (a2 : ¬ Y.tmod 100 = 0)
    (k1 : Calls Tryd.prog 8 #[.int .i64 ms] w fun e w' => e = .returned (.agg #[.int .i64 Y, .int .i64 4, .int .i64 D, .int .i64 h, .int .i64 mi, .int .i64 s, .int .i64 ml, .int .i64 WD, .int .i64 YD, .int .i64 30]) ∧ Below w.heap.size w w')
    (k2 : ∀ w1, Below w.heap.size w w1 → Calls Tryd.prog 8 #[.int .i64 (ms + 86400000)] w1 fun e w' => e = .returned (.agg #[.int .i64 Y, .int .i64 4, .int .i64 (D + 1), .int .i64 h, .int .i64 mi, .int .i64 s, .int .i64 ml, .int .i64 ((WD + 1) % 7), .int .i64 (YD + 1), .int .i64 M']) ∧ Below w1.heap.size w1 w') :
    Calls Tryd.prog 3 #[.int .i64 ms] w fun e w' => e = .returned (.bool true) ∧ Below w.heap.size w w' := by
  go_enter Tryd.func3, Tryd.ntmps3
  go_wp2_with fail
  go_fit k1
  rintro e w1 ⟨rfl, hb1⟩
  clear k1
  go_wp2_with fail
  go_fit (k2 w1 hb1)
  rintro e w2 ⟨rfl, hb2⟩
  clear k2
  have hb := hb1.trans (hb2.mono hb1.size)
  clear hb1 hb2
  go_wp2
  go_ret
  exact ⟨rfl, (hb.alloc hb.size _).alloc (Nat.le_trans hb.size (by simp)) _⟩

set_option maxHeartbeats 1000000 in
set_option maxRecDepth 100000 in
theorem dA_4_b (ms Y h mi s ml WD M' : Int) (D : Int) (D0 : 1 ≤ D) (D1 : D < 30) (YD : Int) (YD0 : 1 ≤ YD) (YD1 : YD ≤ 366) (w : World) (h0 : -9223372036854775808 ≤ ms) (h1 : ms ≤ 9223372036768375807) (W0 : 0 ≤ WD) (W1 : WD ≤ 6) (a1 : Y.tmod 4 = 0) (a2 : Y.tmod 100 = 0)
    (k1 : Calls Tryd.prog 8 #[.int .i64 ms] w fun e w' => e = .returned (.agg #[.int .i64 Y, .int .i64 4, .int .i64 D, .int .i64 h, .int .i64 mi, .int .i64 s, .int .i64 ml, .int .i64 WD, .int .i64 YD, .int .i64 30]) ∧ Below w.heap.size w w')
    (k2 : ∀ w1, Below w.heap.size w w1 → Calls Tryd.prog 8 #[.int .i64 (ms + 86400000)] w1 fun e w' => e = .returned (.agg #[.int .i64 Y, .int .i64 4, .int .i64 (D + 1), .int .i64 h, .int .i64 mi, .int .i64 s, .int .i64 ml, .int .i64 ((WD + 1) % 7), .int .i64 (YD + 1), .int .i64 M']) ∧ Below w1.heap.size w1 w') :
    Calls Tryd.prog 3 #[.int .i64 ms] w fun e w' => e = .returned (.bool true) ∧ Below w.heap.size w w' := by
  go_enter Tryd.func3, Tryd.ntmps3
  go_wp2_with fail
  go_fit k1
  rintro e w1 ⟨rfl, hb1⟩
  clear k1
  go_wp2_with fail
  go_fit (k2 w1 hb1)
  rintro e w2 ⟨rfl, hb2⟩
  clear k2
  have hb := hb1.trans (hb2.mono hb1.size)
  clear hb1 hb2
  go_wp2
  go_ret
  exact ⟨rfl, (hb.alloc hb.size _).alloc (Nat.le_trans hb.size (by simp)) _⟩

set_option maxHeartbeats 1000000 in
set_option maxRecDepth 100000 in
theorem dA_4_d (ms Y h mi s ml WD M' : Int) (D : Int) (D0 : 1 ≤ D) (D1 : D < 30) (YD : Int) (YD0 : 1 ≤ YD) (YD1 : YD ≤ 366) (w : World) (h0 : -9223372036854775808 ≤ ms) (h1 : ms ≤ 9223372036768375807) (W0 : 0 ≤ WD) (W1 : WD ≤ 6) (a1 : ¬ Y.tmod 4 = 0)
    (k1 : Calls Tryd.prog 8 #[.int .i64 ms] w fun e w' => e = .returned (.agg #[.int .i64 Y, .int .i64 4, .int .i64 D, .int .i64 h, .int .i64 mi, .int .i64 s, .int .i64 ml, .int .i64 WD, .int .i64 YD, .int .i64 30]) ∧ Below w.heap.size w w')
    (k2 : ∀ w1, Below w.heap.size w w1 → Calls Tryd.prog 8 #[.int .i64 (ms + 86400000)] w1 fun e w' => e = .returned (.agg #[.int .i64 Y, .int .i64 4, .int .i64 (D + 1), .int .i64 h, .int .i64 mi, .int .i64 s, .int .i64 ml, .int .i64 ((WD + 1) % 7), .int .i64 (YD + 1), .int .i64 M']) ∧ Below w1.heap.size w1 w') :
    Calls Tryd.prog 3 #[.int .i64 ms] w fun e w' => e = .returned (.bool true) ∧ Below w.heap.size w w' := by
  go_enter Tryd.func3, Tryd.ntmps3
  go_wp2_with fail
  go_fit k1
  rintro e w1 ⟨rfl, hb1⟩
  clear k1
  go_wp2_with fail
  go_fit (k2 w1 hb1)
  rintro e w2 ⟨rfl, hb2⟩
  clear k2
  have hb := hb1.trans (hb2.mono hb1.size)
  clear hb1 hb2
  go_wp2
  go_ret
  exact ⟨rfl, (hb.alloc hb.size _).alloc (Nat.le_trans hb.size (by simp)) _⟩

set_option maxHeartbeats 1000000 in
set_option maxRecDepth 100000 in
theorem dA_6_a (ms Y h mi s ml WD M' : Int) (D : Int) (D0 : 1 ≤ D) (D1 : D < 30) (YD : Int) (YD0 : 1 ≤ YD) (YD1 : YD ≤ 366) (w : World) (h0 : -9223372036854775808 ≤ ms) (h1 : ms ≤ 9223372036768375807) (W0 : 0 ≤ WD) (W1 : WD ≤ 6) (a1 : Y.tmod 4 = 0) (a2 : ¬ Y.tmod 100 = 0)
    (k1 : Calls Tryd.prog 8 #[.int .i64 ms] w fun e w' => e = .returned (.agg #[.int .i64 Y, .int .i64 6, .int .i64 D, .int .i64 h, .int .i64 mi, .int .i64 s, .int .i64 ml, .int .i64 WD, .int .i64 YD, .int .i64 30]) ∧ Below w.heap.size w w')
    (k2 : ∀ w1, Below w.heap.size w w1 → Calls Tryd.prog 8 #[.int .i64 (ms + 86400000)] w1 fun e w' => e = .returned (.agg #[.int .i64 Y, .int .i64 6, .int .i64 (D + 1), .int .i64 h, .int .i64 mi, .int .i64 s, .int .i64 ml, .int .i64 ((WD + 1) % 7), .int .i64 (YD + 1), .int .i64 M']) ∧ Below w1.heap.size w1 w') :
    Calls Tryd.prog 3 #[.int .i64 ms] w fun e w' => e = .returned (.bool true) ∧ Below w.heap.size w w' := by
  go_enter Tryd.func3, Tryd.ntmps3
  go_wp2_with fail
  go_fit k1
  rintro e w1 ⟨rfl, hb1⟩
  clear k1
  go_wp2_with fail
  go_fit (k2 w1 hb1)
  rintro e w2 ⟨rfl, hb2⟩
  clear k2
  have hb := hb1.trans (hb2.mono hb1.size)
  clear hb1 hb2
  go_wp2
  go_ret
  exact ⟨rfl, (hb.alloc hb.size _).alloc (Nat.le_trans hb.size (by simp)) _⟩

set_option maxHeartbeats 1000000 in
set_option maxRecDepth 100000 in
theorem dA_6_b (ms Y h mi s ml WD M' : Int) (D : Int) (D0 : 1 ≤ D) (D1 : D < 30) (YD : Int) (YD0 : 1 ≤ YD) (YD1 : YD ≤ 366) (w : World) (h0 : -9223372036854775808 ≤ ms) (h1 : ms ≤ 9223372036768375807) (W0 : 0 ≤ WD) (W1 : WD ≤ 6) (a1 : Y.tmod 4 = 0) (a2 : Y.tmod 100 = 0)
    (k1 : Calls Tryd.prog 8 #[.int .i64 ms] w fun e w' => e = .returned (.agg #[.int .i64 Y, .int .i64 6, .int .i64 D, .int .i64 h, .int .i64 mi, .int .i64 s, .int .i64 ml, .int .i64 WD, .int .i64 YD, .int .i64 30]) ∧ Below w.heap.size w w')
    (k2 : ∀ w1, Below w.heap.size w w1 → Calls Tryd.prog 8 #[.int .i64 (ms + 86400000)] w1 fun e w' => e = .returned (.agg #[.int .i64 Y, .int .i64 6, .int .i64 (D + 1), .int .i64 h, .int .i64 mi, .int .i64 s, .int .i64 ml, .int .i64 ((WD + 1) % 7), .int .i64 (YD + 1), .int .i64 M']) ∧ Below w1.heap.size w1 w') :
    Calls Tryd.prog 3 #[.int .i64 ms] w fun e w' => e = .returned (.bool true) ∧ Below w.heap.size w w' := by
  go_enter Tryd.func3, Tryd.ntmps3
  go_wp2_with fail
  go_fit k1
  rintro e w1 ⟨rfl, hb1⟩
  clear k1
  go_wp2_with fail
  go_fit (k2 w1 hb1)
  rintro e w2 ⟨rfl, hb2⟩
  clear k2
  have hb := hb1.trans (hb2.mono hb1.size)
  clear hb1 hb2
  go_wp2
  go_ret
  exact ⟨rfl, (hb.alloc hb.size _).alloc (Nat.le_trans hb.size (by simp)) _⟩

set_option maxHeartbeats 1000000 in
set_option maxRecDepth 100000 in
theorem dA_6_d (ms Y h mi s ml WD M' : Int) (D : Int) (D0 : 1 ≤ D) (D1 : D < 30) (YD : Int) (YD0 : 1 ≤ YD) (YD1 : YD ≤ 366) (w : World) (h0 : -9223372036854775808 ≤ ms) (h1 : ms ≤ 9223372036768375807) (W0 : 0 ≤ WD) (W1 : WD ≤ 6) (a1 : ¬ Y.tmod 4 = 0)
    (k1 : Calls Tryd.prog 8 #[.int .i64 ms] w fun e w' => e = .returned (.agg #[.int .i64 Y, .int .i64 6, .int .i64 D, .int .i64 h, .int .i64 mi, .int .i64 s, .int .i64 ml, .int .i64 WD, .int .i64 YD, .int .i64 30]) ∧ Below w.heap.size w w')
    (k2 : ∀ w1, Below w.heap.size w w1 → Calls Tryd.prog 8 #[.int .i64 (ms + 86400000)] w1 fun e w' => e = .returned (.agg #[.int .i64 Y, .int .i64 6, .int .i64 (D + 1), .int .i64 h, .int .i64 mi, .int .i64 s, .int .i64 ml, .int .i64 ((WD + 1) % 7), .int .i64 (YD + 1), .int .i64 M']) ∧ Below w1.heap.size w1 w') :
    Calls Tryd.prog 3 #[.int .i64 ms] w fun e w' => e = .returned (.bool true) ∧ Below w.heap.size w w' := by
  go_enter Tryd.func3, Tryd.ntmps3
  go_wp2_with fail
  go_fit k1
  rintro e w1 ⟨rfl, hb1⟩
  clear k1
  go_wp2_with fail
  go_fit (k2 w1 hb1)
  rintro e w2 ⟨rfl, hb2⟩
  clear k2
  have hb := hb1.trans (hb2.mono hb1.size)
  clear hb1 hb2
  go_wp2
  go_ret
  exact ⟨rfl, (hb.alloc hb.size _).alloc (Nat.le_trans hb.size (by simp)) _⟩

set_option maxHeartbeats 1000000 in
set_option maxRecDepth 100000 in
theorem dA_9_a (ms Y h mi s ml WD M' : Int) (D : Int) (D0 : 1 ≤ D) (D1 : D < 30) (YD : Int) (YD0 : 1 ≤ YD) (YD1 : YD ≤ 366) (w : World) (h0 : -9223372036854775808 ≤ ms) (h1 : ms ≤ 9223372036768375807) (W0 : 0 ≤ WD) (W1 : WD ≤ 6) (a1 : Y.tmod 4 = 0) (a2 : ¬ Y.tmod 100 = 0)
    (k1 : Calls Tryd.prog 8 #[.int .i64 ms] w fun e w' => e = .returned (.agg #[.int .i64 Y, .int .i64 9, .int .i64 D, .int .i64 h, .int .i64 mi, .int .i64 s, .int .i64 ml, .int .i64 WD, .int .i64 YD, .int .i64 30]) ∧ Below w.heap.size w w')
    (k2 : ∀ w1, Below w.heap.size w w1 → Calls Tryd.prog 8 #[.int .i64 (ms + 86400000)] w1 fun e w' => e = .returned (.agg #[.int .i64 Y, .int .i64 9, .int .i64 (D + 1), .int .i64 h, .int .i64 mi, .int .i64 s, .int .i64 ml, .int .i64 ((WD + 1) % 7), .int .i64 (YD + 1), .int .i64 M']) ∧ Below w1.heap.size w1 w') :
    Calls Tryd.prog 3 #[.int .i64 ms] w fun e w' => e = .returned (.bool true) ∧ Below w.heap.size w w' := by
  go_enter Tryd.func3, Tryd.ntmps3
  go_wp2_with fail
  go_fit k1
  rintro e w1 ⟨rfl, hb1⟩
  clear k1
  go_wp2_with fail
  go_fit (k2 w1 hb1)
  rintro e w2 ⟨rfl, hb2⟩
  clear k2
  have hb := hb1.trans (hb2.mono hb1.size)
  clear hb1 hb2
  go_wp2
  go_ret
  exact ⟨rfl, (hb.alloc hb.size _).alloc (Nat.le_trans hb.size (by simp)) _⟩
end Go.Proofs.YtmfeckpcnofkhaaDoor
