/- The walks of digitsAt, unitAt, length, upTo, and of the reference's run, unit, many. -/
import Derived.Test.YtmfeckpcnofkhaaDoorDurM
import Derived.Test.YtmfeckpcnofkhaaDoorCivA
import Derived.Test.YtmfeckpcnofkhaaDoorUnits
namespace Go.Proofs.YtmfeckpcnofkhaaDoor
open Go.RowKit

set_option maxHeartbeats 1000000 in
theorem digitsAt_any (s : ByteArray) (w : World) (hs : s.size ≤ 140737488355328) : Calls Tryd.prog 43 #[.string s] w fun e w' => e = .returned (.int .i64 (rn s 0)) ∧ w' = w := by
  generalize hO : rn s 0 = O
  have HO : Hid (runF s (s.size - 0) 0 = O) := hO
  clear hO
  go_enter Tryd.func43, Tryd.ntmps43
  go_wp2
  go_loop [3] (fun t => ∃ j f : Nat, t = .int .i64 j ∧ j ≤ s.size ∧ runF s f j = O ∧ s.size ≤ j + f) (fun t => s.size - (RowKit.intOf t).toNat)
  case atStart => exact ⟨0, s.size - 0, rfl, by omega, HO.out, by omega⟩
  case round =>
    obtain ⟨j, f, rfl, hj, hv, hf⟩ := hrel
    have HV : Hid (runF s f j = O) := hv
    clear hv HO
    by_cases hlt : j < s.size
    · have hx := bt_at s j hlt
      have hli : (j : Int) < s.size := by omega
      by_cases a : 48 ≤ bt s j
      · by_cases b : bt s j ≤ 57
        · have HE : Hid (runF s (f - 1) (j + 1) = O) := by show _ = _; rw [← HV.out, runF_go s f j ⟨hlt, a, b⟩ (by omega)]
          go_wp2
          exact ⟨⟨j + 1, f - 1, by go_num, by omega, HE.out, by omega⟩, by simp [RowKit.intOf]; omega⟩
        · have HE : Hid (O = j) := by show _ = _; rw [← HV.out, runF_end s f j (fun h => b h.2.2)]
          go_wp2
          go_ret
          exact ⟨by rw [HE.out]; rfl, rfl⟩
      · have HE : Hid (O = j) := by show _ = _; rw [← HV.out, runF_end s f j (fun h => a h.2.1)]
        go_wp2
        go_ret
        exact ⟨by rw [HE.out]; rfl, rfl⟩
    · have HE : Hid (O = j) := by show _ = _; rw [← HV.out, runF_end s f j (fun h => hlt h.1)]
      have hli : ¬ (j : Int) < s.size := by omega
      go_wp2
      go_ret
      exact ⟨by rw [HE.out]; rfl, rfl⟩

set_option maxHeartbeats 1000000 in
theorem rdigit_any (c : Int) (w : World) : Calls Tryd.prog 46 #[.int .u8 c] w fun e w' => e = .returned (.bool (decide (48 ≤ c ∧ c ≤ 57))) ∧ w' = w := by
  by_cases a : 48 ≤ c
  · by_cases b : c ≤ 57
    · rw [decide_eq_true (show 48 ≤ c ∧ c ≤ 57 from ⟨a, b⟩)]
      go_enter Tryd.func46, Tryd.ntmps46
      go_wp2
      go_ret
      exact ⟨rfl, rfl⟩
    · rw [decide_eq_false (show ¬ (48 ≤ c ∧ c ≤ 57) from fun h => b h.2)]
      go_enter Tryd.func46, Tryd.ntmps46
      go_wp2
      go_ret
      exact ⟨by simp, rfl⟩
  · rw [decide_eq_false (show ¬ (48 ≤ c ∧ c ≤ 57) from fun h => a h.1)]
    go_enter Tryd.func46, Tryd.ntmps46
    go_wp2
    go_ret
    exact ⟨by simp, rfl⟩

set_option maxHeartbeats 1000000 in
theorem rrun_any (s : ByteArray) (i : Nat) (w : World) (hs : s.size ≤ 140737488355328) (hi : i ≤ s.size) : Calls Tryd.prog 32 #[.string s, .int .i64 i] w fun e w' => e = .returned (.int .i64 (rn s i)) ∧ w' = w := by
  generalize hO : rn s i = O
  have HO : Hid (runF s (s.size - i) i = O) := hO
  clear hO
  have k := rdigit_any
  go_enter Tryd.func32, Tryd.ntmps32
  go_wp2
  go_loop [1] (fun t => ∃ j f : Nat, t = .int .i64 j ∧ j ≤ s.size ∧ runF s f j = O ∧ s.size ≤ j + f) (fun t => s.size - (RowKit.intOf t).toNat)
  case atStart => exact ⟨i, s.size - i, rfl, by omega, HO.out, by omega⟩
  case round =>
    obtain ⟨j, f, rfl, hj, hv, hf⟩ := hrel
    have HV : Hid (runF s f j = O) := hv
    clear hv HO
    by_cases hlt : j < s.size
    · have hx := bt_at s j hlt
      have hli : (j : Int) < s.size := by omega
      by_cases a : isD s j
      · have HE : Hid (runF s (f - 1) (j + 1) = O) := by show _ = _; rw [← HV.out, runF_go s f j a (by omega)]
        have k' := k (bt s j)
        rw [decide_eq_true a.2] at k'
        clear k
        go_wp2_with fail
        go_fit (k' _)
        rintro e w' ⟨rfl, rfl⟩
        clear k'
        go_wp2
        exact ⟨⟨j + 1, f - 1, by go_num, by omega, HE.out, by omega⟩, by simp [RowKit.intOf]; omega⟩
      · have HE : Hid (O = j) := by show _ = _; rw [← HV.out, runF_end s f j a]
        have k' := k (bt s j)
        rw [decide_eq_false (fun h => a ⟨hlt, h⟩)] at k'
        clear k
        go_wp2_with fail
        go_fit (k' _)
        rintro e w' ⟨rfl, rfl⟩
        clear k'
        go_wp2
        go_ret
        exact ⟨by rw [HE.out]; rfl, rfl⟩
    · have HE : Hid (O = j) := by show _ = _; rw [← HV.out, runF_end s f j (fun h => hlt h.1)]
      have hli : ¬ (j : Int) < s.size := by omega
      clear k
      go_wp2
      go_ret
      exact ⟨by rw [HE.out]; rfl, rfl⟩
set_option maxHeartbeats 1000000 in
theorem upTo_any (s : ByteArray) (most : Int) (w : World) (hs : s.size ≤ 140737488355328) (hd : ∀ i, i < s.size → isD s i) (h0 : 0 ≤ most) (h1 : most ≤ 400000000000000) : Calls Tryd.prog 60 #[.int .i64 most, .string s] w fun e w' => e = .returned (.int .i64 (min (vl s s.size) most)) ∧ w' = w := by
  have HD : Hid (∀ i, i < s.size → isD s i) := hd
  clear hd
  generalize hO : min (vl s s.size) most = O
  have HO : Hid (min (vl s s.size) most = O) := hO
  clear hO
  go_enter Tryd.func60, Tryd.ntmps60
  go_wp2
  go_loop [9, 5] (fun t u => ∃ (j : Nat) (x : Int), t = .int .i64 j ∧ u = .int .i64 x ∧ j ≤ s.size ∧ x = min (vl s j) most ∧ 0 ≤ x ∧ x ≤ most) (fun t _ => s.size - (RowKit.intOf t).toNat)
  case atStart => exact ⟨0, 0, rfl, rfl, by omega, by rw [vl]; omega, by omega, by omega⟩
  case round =>
    obtain ⟨j, x, rfl, rfl, hj, hx0, x0, x1⟩ := hrel
    have HX : Hid (x = min (vl s j) most) := hx0
    clear hx0
    by_cases hlt : j < s.size
    · have hx := bt_at s j hlt
      have hli : (j : Int) < s.size := by omega
      have hdj := HD.out j hlt
      have b0 : 48 ≤ bt s j := hdj.2.1
      have b1 : bt s j ≤ 57 := hdj.2.2
      clear hdj
      go_wp2
      exact ⟨⟨j + 1, min (x * 10 + (bt s j - 48)) most, by go_num, by rfl, by omega, by rw [vl]; have := HX.out; omega, by omega, by omega⟩, by simp [RowKit.intOf]; omega⟩
    · have hli : ¬ (j : Int) < s.size := by omega
      obtain rfl : j = s.size := by omega
      go_wp2
      go_ret
      exact ⟨by rw [← HO.out, ← HX.out]; rfl, rfl⟩
set_option maxHeartbeats 1000000 in
theorem rmany_any (s : ByteArray) (each : Int) (w : World) (hs : s.size ≤ 140737488355328) (hd : ∀ i, i < s.size → isD s i) (h0 : 1 ≤ each) (h1 : each ≤ 31536000000) : Calls Tryd.prog 34 #[.string s, .int .i64 each] w fun e w' => e = .returned (.int .i64 (if vl s s.size ≤ 315360000000000 / each then vl s s.size * each else 315360000000001)) ∧ w' = w := by
  have HD : Hid (∀ i, i < s.size → isD s i) := hd
  clear hd
  have hL0 : 1 ≤ 315360000000000 / each := by
    have : each ≤ 315360000000000 := by omega
    exact (Int.le_ediv_iff_mul_le (by omega)).2 (by omega)
  have hL1 : 315360000000000 / each ≤ 315360000000000 := Int.ediv_le_self _ (by omega)
  have hL2 : 315360000000000 / each * each ≤ 315360000000000 := Int.ediv_mul_le _ (by omega)
  generalize hLe : 315360000000000 / each = L at *
  generalize hO : (if vl s s.size ≤ L then vl s s.size * each else 315360000000001) = O
  have HO : Hid ((if vl s s.size ≤ L then vl s s.size * each else 315360000000001) = O) := hO
  clear hO
  go_enter Tryd.func34, Tryd.ntmps34
  go_wp2
  go_loop [6, 5] (fun t u => ∃ (j : Nat) (x : Int), t = .int .i64 j ∧ u = .int .i64 x ∧ j ≤ s.size ∧ x = vl s j ∧ 0 ≤ x ∧ x ≤ L) (fun t _ => s.size - (RowKit.intOf t).toNat)
  case atStart => exact ⟨0, 0, rfl, rfl, by omega, by rw [vl], by omega, by omega⟩
  case round =>
    obtain ⟨j, x, rfl, rfl, hj, hx0, x0, x1⟩ := hrel
    have HX : Hid (x = vl s j) := hx0
    clear hx0
    by_cases hlt : j < s.size
    · have hx := bt_at s j hlt
      have hli : (j : Int) < s.size := by omega
      have hdj := HD.out j hlt
      have b0 : 48 ≤ bt s j := hdj.2.1
      have b1 : bt s j ≤ 57 := hdj.2.2
      clear hdj
      by_cases c : x * 10 + (bt s j - 48) ≤ L
      · go_wp2
        exact ⟨⟨j + 1, x * 10 + (bt s j - 48), by go_num, by rfl, by omega, by rw [vl]; have := HX.out; omega, by omega, by omega⟩, by simp [RowKit.intOf]; omega⟩
      · have HE : Hid (O = 315360000000001) := by
          show _ = _
          rw [← HO.out, if_neg]
          have h5 := vl_mono s HD.out (j + 1) (s.size - (j + 1)) (by omega)
          rw [show j + 1 + (s.size - (j + 1)) = s.size by omega, vl] at h5
          have := HX.out
          omega
        go_wp2
        go_ret
        exact ⟨by rw [HE.out]; rfl, rfl⟩
    · have hli : ¬ (j : Int) < s.size := by omega
      obtain rfl : j = s.size := by omega
      have hm : 0 ≤ x * each := Int.mul_nonneg x0 (by omega)
      have hm2 : x * each ≤ 315360000000000 := Int.le_trans (Int.mul_le_mul_of_nonneg_right x1 (by omega)) hL2
      have HE : Hid (O = x * each) := by show _ = _; rw [← HO.out, ← HX.out, if_pos x1]
      go_wp2
      go_ret
      exact ⟨by rw [HE.out]; rfl, rfl⟩
end Go.Proofs.YtmfeckpcnofkhaaDoor
