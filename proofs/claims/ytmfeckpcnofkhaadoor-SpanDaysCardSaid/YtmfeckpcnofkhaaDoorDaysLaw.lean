/- The law SpanDays. -/
import Derived.Test.YtmfeckpcnofkhaaDoorDaysA
import Derived.Test.YtmfeckpcnofkhaaDoorDaysB
import Derived.Test.YtmfeckpcnofkhaaDoorDaysC
import Derived.Test.YtmfeckpcnofkhaaDoorDaysD
namespace Go.Proofs.YtmfeckpcnofkhaaDoor
open Go.RowKit

theorem days_A (ms Y h mi s ml WD M' m M l : Int) (D : Int) (D0 : 1 ≤ D) (D1 : D < M) (YD : Int) (YD0 : 1 ≤ YD) (YD1 : YD ≤ 366) (m0 : 1 ≤ m) (m1 : m ≤ 12) (w : World) (h0 : -9223372036854775808 ≤ ms) (h1 : ms ≤ 9223372036768375807) (W0 : 0 ≤ WD) (W1 : WD ≤ 6) (hL : ((Y.tmod 4 = 0 ∧ ¬ Y.tmod 100 = 0 ∧ l = 1) ∨ (Y.tmod 4 = 0 ∧ Y.tmod 100 = 0 ∧ Y.tmod 400 = 0 ∧ l = 1) ∨ (Y.tmod 4 = 0 ∧ Y.tmod 100 = 0 ∧ ¬ Y.tmod 400 = 0 ∧ l = 0) ∨ (¬ Y.tmod 4 = 0 ∧ ¬ Y.tmod 400 = 0 ∧ l = 0)))
    (hM : ((m = 2 ∧ M = 28 + l) ∨ (m = 4 ∧ M = 30) ∨ (m = 6 ∧ M = 30) ∨ (m = 9 ∧ M = 30) ∨ (m = 11 ∧ M = 30) ∨ ((m == 2) = false ∧ (m == 4) = false ∧ (m == 6) = false ∧ (m == 9) = false ∧ (m == 11) = false ∧ M = 31)))
    (k1 : Calls Tryd.prog 8 #[.int .i64 ms] w fun e w' => e = .returned (.agg #[.int .i64 Y, .int .i64 m, .int .i64 D, .int .i64 h, .int .i64 mi, .int .i64 s, .int .i64 ml, .int .i64 WD, .int .i64 YD, .int .i64 M]) ∧ Below w.heap.size w w')
    (k2 : ∀ w1, Below w.heap.size w w1 → Calls Tryd.prog 8 #[.int .i64 (ms + 86400000)] w1 fun e w' => e = .returned (.agg #[.int .i64 Y, .int .i64 m, .int .i64 (D + 1), .int .i64 h, .int .i64 mi, .int .i64 s, .int .i64 ml, .int .i64 ((WD + 1) % 7), .int .i64 (YD + 1), .int .i64 M']) ∧ Below w1.heap.size w1 w') :
    Calls Tryd.prog 3 #[.int .i64 ms] w fun e w' => e = .returned (.bool true) ∧ Below w.heap.size w w' := by
  rcases hM with ⟨rfl, hM⟩ | ⟨rfl, rfl⟩ | ⟨rfl, rfl⟩ | ⟨rfl, rfl⟩ | ⟨rfl, rfl⟩ | ⟨n2, n4, n6, n9, n11, rfl⟩
  · rcases hL with ⟨a1, a2, rfl⟩ | ⟨a1, a2, a3, rfl⟩ | ⟨a1, a2, a3, rfl⟩ | ⟨a1, a3, rfl⟩
    · obtain rfl : M = 29 := by omega
      exact dA_2_a ms Y h mi s ml WD M' D D0 D1 YD YD0 YD1 w h0 h1 W0 W1 a1 a2 k1 k2
    · obtain rfl : M = 29 := by omega
      exact dA_2_b ms Y h mi s ml WD M' D D0 D1 YD YD0 YD1 w h0 h1 W0 W1 a1 a2 a3 k1 k2
    · obtain rfl : M = 28 := by omega
      exact dA_2_c ms Y h mi s ml WD M' D D0 D1 YD YD0 YD1 w h0 h1 W0 W1 a1 a2 a3 k1 k2
    · obtain rfl : M = 28 := by omega
      exact dA_2_d ms Y h mi s ml WD M' D D0 D1 YD YD0 YD1 w h0 h1 W0 W1 a1 a3 k1 k2
  · rcases hL with ⟨a1, a2, _⟩ | ⟨a1, a2, _, _⟩ | ⟨a1, a2, _, _⟩ | ⟨a1, _, _⟩
    · exact dA_4_a ms Y h mi s ml WD M' D D0 D1 YD YD0 YD1 w h0 h1 W0 W1 a1 a2 k1 k2
    · exact dA_4_b ms Y h mi s ml WD M' D D0 D1 YD YD0 YD1 w h0 h1 W0 W1 a1 a2 k1 k2
    · exact dA_4_b ms Y h mi s ml WD M' D D0 D1 YD YD0 YD1 w h0 h1 W0 W1 a1 a2 k1 k2
    · exact dA_4_d ms Y h mi s ml WD M' D D0 D1 YD YD0 YD1 w h0 h1 W0 W1 a1 k1 k2
  · rcases hL with ⟨a1, a2, _⟩ | ⟨a1, a2, _, _⟩ | ⟨a1, a2, _, _⟩ | ⟨a1, _, _⟩
    · exact dA_6_a ms Y h mi s ml WD M' D D0 D1 YD YD0 YD1 w h0 h1 W0 W1 a1 a2 k1 k2
    · exact dA_6_b ms Y h mi s ml WD M' D D0 D1 YD YD0 YD1 w h0 h1 W0 W1 a1 a2 k1 k2
    · exact dA_6_b ms Y h mi s ml WD M' D D0 D1 YD YD0 YD1 w h0 h1 W0 W1 a1 a2 k1 k2
    · exact dA_6_d ms Y h mi s ml WD M' D D0 D1 YD YD0 YD1 w h0 h1 W0 W1 a1 k1 k2
  · rcases hL with ⟨a1, a2, _⟩ | ⟨a1, a2, _, _⟩ | ⟨a1, a2, _, _⟩ | ⟨a1, _, _⟩
    · exact dA_9_a ms Y h mi s ml WD M' D D0 D1 YD YD0 YD1 w h0 h1 W0 W1 a1 a2 k1 k2
    · exact dA_9_b ms Y h mi s ml WD M' D D0 D1 YD YD0 YD1 w h0 h1 W0 W1 a1 a2 k1 k2
    · exact dA_9_b ms Y h mi s ml WD M' D D0 D1 YD YD0 YD1 w h0 h1 W0 W1 a1 a2 k1 k2
    · exact dA_9_d ms Y h mi s ml WD M' D D0 D1 YD YD0 YD1 w h0 h1 W0 W1 a1 k1 k2
  · rcases hL with ⟨a1, a2, _⟩ | ⟨a1, a2, _, _⟩ | ⟨a1, a2, _, _⟩ | ⟨a1, _, _⟩
    · exact dA_11_a ms Y h mi s ml WD M' D D0 D1 YD YD0 YD1 w h0 h1 W0 W1 a1 a2 k1 k2
    · exact dA_11_b ms Y h mi s ml WD M' D D0 D1 YD YD0 YD1 w h0 h1 W0 W1 a1 a2 k1 k2
    · exact dA_11_b ms Y h mi s ml WD M' D D0 D1 YD YD0 YD1 w h0 h1 W0 W1 a1 a2 k1 k2
    · exact dA_11_d ms Y h mi s ml WD M' D D0 D1 YD YD0 YD1 w h0 h1 W0 W1 a1 k1 k2
  · rcases hL with ⟨a1, a2, _⟩ | ⟨a1, a2, _, _⟩ | ⟨a1, a2, _, _⟩ | ⟨a1, _, _⟩
    · exact dA_o_a ms Y h mi s ml WD M' m m0 m1 n2 n4 n6 n9 n11 D D0 D1 YD YD0 YD1 w h0 h1 W0 W1 a1 a2 k1 k2
    · exact dA_o_b ms Y h mi s ml WD M' m m0 m1 n2 n4 n6 n9 n11 D D0 D1 YD YD0 YD1 w h0 h1 W0 W1 a1 a2 k1 k2
    · exact dA_o_b ms Y h mi s ml WD M' m m0 m1 n2 n4 n6 n9 n11 D D0 D1 YD YD0 YD1 w h0 h1 W0 W1 a1 a2 k1 k2
    · exact dA_o_d ms Y h mi s ml WD M' m m0 m1 n2 n4 n6 n9 n11 D D0 D1 YD YD0 YD1 w h0 h1 W0 W1 a1 k1 k2
theorem days_B (ms Y h mi s ml WD M' m M l : Int) (YD : Int) (YD0 : 1 ≤ YD) (YD1 : YD ≤ 366) (m0 : 1 ≤ m) (m1 : m ≤ 12) (m2 : m < 12) (w : World) (h0 : -9223372036854775808 ≤ ms) (h1 : ms ≤ 9223372036768375807) (W0 : 0 ≤ WD) (W1 : WD ≤ 6) (hL : ((Y.tmod 4 = 0 ∧ ¬ Y.tmod 100 = 0 ∧ l = 1) ∨ (Y.tmod 4 = 0 ∧ Y.tmod 100 = 0 ∧ Y.tmod 400 = 0 ∧ l = 1) ∨ (Y.tmod 4 = 0 ∧ Y.tmod 100 = 0 ∧ ¬ Y.tmod 400 = 0 ∧ l = 0) ∨ (¬ Y.tmod 4 = 0 ∧ ¬ Y.tmod 400 = 0 ∧ l = 0)))
    (hM : ((m = 2 ∧ M = 28 + l) ∨ (m = 4 ∧ M = 30) ∨ (m = 6 ∧ M = 30) ∨ (m = 9 ∧ M = 30) ∨ (m = 11 ∧ M = 30) ∨ ((m == 2) = false ∧ (m == 4) = false ∧ (m == 6) = false ∧ (m == 9) = false ∧ (m == 11) = false ∧ M = 31)))
    (k1 : Calls Tryd.prog 8 #[.int .i64 ms] w fun e w' => e = .returned (.agg #[.int .i64 Y, .int .i64 m, .int .i64 M, .int .i64 h, .int .i64 mi, .int .i64 s, .int .i64 ml, .int .i64 WD, .int .i64 YD, .int .i64 M]) ∧ Below w.heap.size w w')
    (k2 : ∀ w1, Below w.heap.size w w1 → Calls Tryd.prog 8 #[.int .i64 (ms + 86400000)] w1 fun e w' => e = .returned (.agg #[.int .i64 Y, .int .i64 (m + 1), .int .i64 1, .int .i64 h, .int .i64 mi, .int .i64 s, .int .i64 ml, .int .i64 ((WD + 1) % 7), .int .i64 (YD + 1), .int .i64 M']) ∧ Below w1.heap.size w1 w') :
    Calls Tryd.prog 3 #[.int .i64 ms] w fun e w' => e = .returned (.bool true) ∧ Below w.heap.size w w' := by
  rcases hM with ⟨rfl, hM⟩ | ⟨rfl, rfl⟩ | ⟨rfl, rfl⟩ | ⟨rfl, rfl⟩ | ⟨rfl, rfl⟩ | ⟨n2, n4, n6, n9, n11, rfl⟩
  · rcases hL with ⟨a1, a2, rfl⟩ | ⟨a1, a2, a3, rfl⟩ | ⟨a1, a2, a3, rfl⟩ | ⟨a1, a3, rfl⟩
    · obtain rfl : M = 29 := by omega
      exact dB_2_a ms Y h mi s ml WD M' YD YD0 YD1 w h0 h1 W0 W1 a1 a2 k1 k2
    · obtain rfl : M = 29 := by omega
      exact dB_2_b ms Y h mi s ml WD M' YD YD0 YD1 w h0 h1 W0 W1 a1 a2 a3 k1 k2
    · obtain rfl : M = 28 := by omega
      exact dB_2_c ms Y h mi s ml WD M' YD YD0 YD1 w h0 h1 W0 W1 a1 a2 a3 k1 k2
    · obtain rfl : M = 28 := by omega
      exact dB_2_d ms Y h mi s ml WD M' YD YD0 YD1 w h0 h1 W0 W1 a1 a3 k1 k2
  · rcases hL with ⟨a1, a2, _⟩ | ⟨a1, a2, _, _⟩ | ⟨a1, a2, _, _⟩ | ⟨a1, _, _⟩
    · exact dB_4_a ms Y h mi s ml WD M' YD YD0 YD1 w h0 h1 W0 W1 a1 a2 k1 k2
    · exact dB_4_b ms Y h mi s ml WD M' YD YD0 YD1 w h0 h1 W0 W1 a1 a2 k1 k2
    · exact dB_4_b ms Y h mi s ml WD M' YD YD0 YD1 w h0 h1 W0 W1 a1 a2 k1 k2
    · exact dB_4_d ms Y h mi s ml WD M' YD YD0 YD1 w h0 h1 W0 W1 a1 k1 k2
  · rcases hL with ⟨a1, a2, _⟩ | ⟨a1, a2, _, _⟩ | ⟨a1, a2, _, _⟩ | ⟨a1, _, _⟩
    · exact dB_6_a ms Y h mi s ml WD M' YD YD0 YD1 w h0 h1 W0 W1 a1 a2 k1 k2
    · exact dB_6_b ms Y h mi s ml WD M' YD YD0 YD1 w h0 h1 W0 W1 a1 a2 k1 k2
    · exact dB_6_b ms Y h mi s ml WD M' YD YD0 YD1 w h0 h1 W0 W1 a1 a2 k1 k2
    · exact dB_6_d ms Y h mi s ml WD M' YD YD0 YD1 w h0 h1 W0 W1 a1 k1 k2
  · rcases hL with ⟨a1, a2, _⟩ | ⟨a1, a2, _, _⟩ | ⟨a1, a2, _, _⟩ | ⟨a1, _, _⟩
    · exact dB_9_a ms Y h mi s ml WD M' YD YD0 YD1 w h0 h1 W0 W1 a1 a2 k1 k2
    · exact dB_9_b ms Y h mi s ml WD M' YD YD0 YD1 w h0 h1 W0 W1 a1 a2 k1 k2
    · exact dB_9_b ms Y h mi s ml WD M' YD YD0 YD1 w h0 h1 W0 W1 a1 a2 k1 k2
    · exact dB_9_d ms Y h mi s ml WD M' YD YD0 YD1 w h0 h1 W0 W1 a1 k1 k2
  · rcases hL with ⟨a1, a2, _⟩ | ⟨a1, a2, _, _⟩ | ⟨a1, a2, _, _⟩ | ⟨a1, _, _⟩
    · exact dB_11_a ms Y h mi s ml WD M' YD YD0 YD1 w h0 h1 W0 W1 a1 a2 k1 k2
    · exact dB_11_b ms Y h mi s ml WD M' YD YD0 YD1 w h0 h1 W0 W1 a1 a2 k1 k2
    · exact dB_11_b ms Y h mi s ml WD M' YD YD0 YD1 w h0 h1 W0 W1 a1 a2 k1 k2
    · exact dB_11_d ms Y h mi s ml WD M' YD YD0 YD1 w h0 h1 W0 W1 a1 k1 k2
  · rcases hL with ⟨a1, a2, _⟩ | ⟨a1, a2, _, _⟩ | ⟨a1, a2, _, _⟩ | ⟨a1, _, _⟩
    · exact dB_o_a ms Y h mi s ml WD M' m m0 m1 n2 n4 n6 n9 n11 m2 YD YD0 YD1 w h0 h1 W0 W1 a1 a2 k1 k2
    · exact dB_o_b ms Y h mi s ml WD M' m m0 m1 n2 n4 n6 n9 n11 m2 YD YD0 YD1 w h0 h1 W0 W1 a1 a2 k1 k2
    · exact dB_o_b ms Y h mi s ml WD M' m m0 m1 n2 n4 n6 n9 n11 m2 YD YD0 YD1 w h0 h1 W0 W1 a1 a2 k1 k2
    · exact dB_o_d ms Y h mi s ml WD M' m m0 m1 n2 n4 n6 n9 n11 m2 YD YD0 YD1 w h0 h1 W0 W1 a1 k1 k2
theorem days_C (ms Y h mi s ml WD M' l : Int) (w : World) (h0 : -9223372036854775808 ≤ ms) (h1 : ms ≤ 9223372036768375807) (Y0 : -1000000000 ≤ Y) (Y1 : Y ≤ 1000000000) (W0 : 0 ≤ WD) (W1 : WD ≤ 6) (hL : ((Y.tmod 4 = 0 ∧ ¬ Y.tmod 100 = 0 ∧ l = 1) ∨ (Y.tmod 4 = 0 ∧ Y.tmod 100 = 0 ∧ Y.tmod 400 = 0 ∧ l = 1) ∨ (Y.tmod 4 = 0 ∧ Y.tmod 100 = 0 ∧ ¬ Y.tmod 400 = 0 ∧ l = 0) ∨ (¬ Y.tmod 4 = 0 ∧ ¬ Y.tmod 400 = 0 ∧ l = 0)))
    (k1 : Calls Tryd.prog 8 #[.int .i64 ms] w fun e w' => e = .returned (.agg #[.int .i64 Y, .int .i64 12, .int .i64 31, .int .i64 h, .int .i64 mi, .int .i64 s, .int .i64 ml, .int .i64 WD, .int .i64 (365 + l), .int .i64 31]) ∧ Below w.heap.size w w')
    (k2 : ∀ w1, Below w.heap.size w w1 → Calls Tryd.prog 8 #[.int .i64 (ms + 86400000)] w1 fun e w' => e = .returned (.agg #[.int .i64 (Y + 1), .int .i64 1, .int .i64 1, .int .i64 h, .int .i64 mi, .int .i64 s, .int .i64 ml, .int .i64 ((WD + 1) % 7), .int .i64 1, .int .i64 M']) ∧ Below w1.heap.size w1 w') :
    Calls Tryd.prog 3 #[.int .i64 ms] w fun e w' => e = .returned (.bool true) ∧ Below w.heap.size w w' := by
  rcases hL with ⟨a1, a2, rfl⟩ | ⟨a1, a2, a3, rfl⟩ | ⟨a1, a2, a3, rfl⟩ | ⟨a1, a3, rfl⟩
  · exact dC_12_a ms Y h mi s ml WD M' w h0 h1 Y0 Y1 W0 W1 a1 a2 k1 k2
  · exact dC_12_b ms Y h mi s ml WD M' w h0 h1 Y0 Y1 W0 W1 a1 a2 a3 k1 k2
  · exact dC_12_c ms Y h mi s ml WD M' w h0 h1 Y0 Y1 W0 W1 a1 a2 a3 k1 k2
  · exact dC_12_d ms Y h mi s ml WD M' w h0 h1 Y0 Y1 W0 W1 a1 a3 k1 k2

theorem tmz (n k : Int) : n.tmod k = 0 ↔ n % k = 0 := by rw [← Int.dvd_iff_tmod_eq_zero, ← Int.dvd_iff_emod_eq_zero]
theorem hL_of (Y y : Int) (h : lp Y ↔ lp y) : ((Y.tmod 4 = 0 ∧ ¬ Y.tmod 100 = 0 ∧ lpN y = 1) ∨ (Y.tmod 4 = 0 ∧ Y.tmod 100 = 0 ∧ Y.tmod 400 = 0 ∧ lpN y = 1) ∨ (Y.tmod 4 = 0 ∧ Y.tmod 100 = 0 ∧ ¬ Y.tmod 400 = 0 ∧ lpN y = 0) ∨ (¬ Y.tmod 4 = 0 ∧ ¬ Y.tmod 400 = 0 ∧ lpN y = 0)) := by
  simp only [tmz]
  by_cases a : lp y
  · rw [lpN_pos a]
    have b := h.2 a
    unfold lp at b
    omega
  · rw [lpN_neg a]
    have b : ¬ lp Y := fun b => a (h.1 b)
    unfold lp at b
    omega
theorem hM_of (y m : Int) : ((m = 2 ∧ md y m = 28 + lpN y) ∨ (m = 4 ∧ md y m = 30) ∨ (m = 6 ∧ md y m = 30) ∨ (m = 9 ∧ md y m = 30) ∨ (m = 11 ∧ md y m = 30) ∨ ((m == 2) = false ∧ (m == 4) = false ∧ (m == 6) = false ∧ (m == 9) = false ∧ (m == 11) = false ∧ md y m = 31)) := by
  by_cases a2 : m = 2
  · exact .inl ⟨a2, by simp [md, a2]⟩
  · by_cases a4 : m = 4
    · exact .inr (.inl ⟨a4, by simp [md, a4]⟩)
    · by_cases a6 : m = 6
      · exact .inr (.inr (.inl ⟨a6, by simp [md, a6]⟩))
      · by_cases a9 : m = 9
        · exact .inr (.inr (.inr (.inl ⟨a9, by simp [md, a9]⟩)))
        · by_cases a11 : m = 11
          · exact .inr (.inr (.inr (.inr (.inl ⟨a11, by simp [md, a11]⟩))))
          · exact .inr (.inr (.inr (.inr (.inr ⟨by simp [a2], by simp [a4], by simp [a6], by simp [a9], by simp [a11], by simp [md, a2, a4, a6, a9, a11]⟩))))

set_option maxHeartbeats 1000000 in
set_option maxRecDepth 100000 in
theorem days_far (ms : Int) (w : World) (h : 9223372036768375807 < ms) : Calls Tryd.prog 3 #[.int .i64 ms] w fun e w' => e = .returned (.bool true) ∧ Below w.heap.size w w' := by
  go_enter Tryd.func3, Tryd.ntmps3
  go_wp2
  go_ret
  exact ⟨rfl, Below.refl _ _⟩

theorem days_any (ms : Int) (w : World) (hU : Units w) (h0 : -9223372036854775808 ≤ ms) (h1 : ms ≤ 9223372036854775807) : Calls Tryd.prog 3 #[.int .i64 ms] w fun e w' => e = .returned (.bool true) ∧ Below w.heap.size w w' := by
  by_cases far : 9223372036768375807 < ms
  · exact days_far ms w far
  · obtain ⟨days, rest, cyc, inC, y, m, hR⟩ := civR_ex ms
    have k1 := civil_any ms days rest cyc inC y m hR w hU h0 h1
    have hn := civR_next hR
    obtain ⟨e1, r0, r1, e2, c0, c1, y0, y1, b0, b1, m0, m1, q0, q1⟩ := hR
    have hL := hL_of (cyc * 400 + y) y (lp_cyc cyc y)
    have hM := hM_of y m
    have hs := dB_succ y
    have hl := lpN_or y
    have hcu := cum_bd y m m0 (by omega)
    have hms : ms ≤ 9223372036768375807 := by omega
    unfold civV at k1
    rcases hn with ⟨d1, hR2⟩ | ⟨d1, m2, hR2⟩ | ⟨d1, rfl, dy, cyc', y', ey, hR2⟩
    · have k2 := fun w1 (hb : Below w.heap.size w w1) => civil_any _ _ _ _ _ _ _ hR2 w1 (hU.belowS hb) (by omega) (by omega)
      unfold civV at k2
      rw [show inC + 1 - dB y - cum y m + 1 = inC - dB y - cum y m + 1 + 1 by omega, show (days + 1 + 4) % 7 = ((days + 4) % 7 + 1) % 7 by omega, show inC + 1 - dB y + 1 = inC - dB y + 1 + 1 by omega] at k2
      exact days_A ms (cyc * 400 + y) _ _ _ _ ((days + 4) % 7) _ m (md y m) (lpN y) (inC - dB y - cum y m + 1) (by omega) d1 (inC - dB y + 1) (by omega) (by omega) m0 m1 w h0 hms (by omega) (by omega) hL hM k1 k2
    · have k2 := fun w1 (hb : Below w.heap.size w w1) => civil_any _ _ _ _ _ _ _ hR2 w1 (hU.belowS hb) (by omega) (by omega)
      have hc := cum_succ y m m0 m1
      unfold civV at k2
      rw [show inC + 1 - dB y - cum y (m + 1) + 1 = 1 by omega, show (days + 1 + 4) % 7 = ((days + 4) % 7 + 1) % 7 by omega, show inC + 1 - dB y + 1 = inC - dB y + 1 + 1 by omega] at k2
      rw [d1] at k1
      exact days_B ms (cyc * 400 + y) _ _ _ _ ((days + 4) % 7) _ m (md y m) (lpN y) (inC - dB y + 1) (by omega) (by omega) m0 m1 m2 w h0 hms (by omega) (by omega) hL hM k1 k2
    · have k2 := fun w1 (hb : Below w.heap.size w w1) => civil_any _ _ _ _ _ _ _ hR2 w1 (hU.belowS hb) (by omega) (by omega)
      unfold civV at k2
      rw [ey, show dB y' - dB y' - cum y' 1 + 1 = 1 by rw [cum_one]; omega, show (days + 1 + 4) % 7 = ((days + 4) % 7 + 1) % 7 by omega, show dB y' - dB y' + 1 = 1 by omega] at k2
      have hmd : md y 12 = 31 := by simp [md]
      rw [d1, dy, hmd] at k1
      exact days_C ms (cyc * 400 + y) _ _ _ _ ((days + 4) % 7) _ (lpN y) w h0 hms (by omega) (by omega) (by omega) (by omega) hL k1 k2
end Go.Proofs.YtmfeckpcnofkhaaDoor
