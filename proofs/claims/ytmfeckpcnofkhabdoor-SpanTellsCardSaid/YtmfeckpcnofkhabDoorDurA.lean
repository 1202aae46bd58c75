/- The walks of digitsAt, unitAt, length, upTo, and of the reference's run, unit, many. -/
import Derived.Test.YtmfeckpcnofkhabDoorDurM
import Derived.Test.YtmfeckpcnofkhabDoorCivA
import Derived.Test.YtmfeckpcnofkhabDoorUnits
namespace Go.Proofs.YtmfeckpcnofkhabDoor
open Go.RowKit

set_option maxHeartbeats 1000000 in
theorem digitsAt_any (s : ByteArray) (w : World) (hs : s.size ≤ 140737488355328) : Calls Tryd.prog 41 #[.string s] w fun e w' => e = .returned (.int .i64 (rn s 0)) ∧ w' = w := by
  generalize hO : rn s 0 = O
  have HO : Hid (runF s (s.size - 0) 0 = O) := hO
  clear hO
  go_enter Tryd.func41, Tryd.ntmps41
  go_wp2
  go_loop [3] (fun t => ∃ j f : Nat, t = .int .i64 j ∧ j ≤ s.size ∧ runF s f j = O ∧ s.size ≤ j + f) (fun t => s.size - (RowKit.intOf t).toNat)
  case atStart => exact ⟨0, s.size - 0, rfl, by omega, HO.out, by omega⟩
  case round =>
    obtain ⟨j, f, rfl, hj, hv, hf⟩ := hrel
    have HV : Hid (runF s f j = O) := hv
    clear hv HO
    by_cases hlt : j < s.size
    · have hx := bt_at s j hlt
      have hli : (j : Int) < s.size := by omega
      by_cases a : 48 ≤ bt s j
      · by_cases b : bt s j ≤ 57
        · have HE : Hid (runF s (f - 1) (j + 1) = O) := by show _ = _; rw [← HV.out, runF_go s f j ⟨hlt, a, b⟩ (by omega)]
          go_wp2
          exact ⟨⟨j + 1, f - 1, by go_num, by omega, HE.out, by omega⟩, by simp [RowKit.intOf]; omega⟩
        · have HE : Hid (O = j) := by show _ = _; rw [← HV.out, runF_end s f j (fun h => b h.2.2)]
          go_wp2
          go_ret
          exact ⟨by rw [HE.out]; rfl, rfl⟩
      · have HE : Hid (O = j) := by show _ = _; rw [← HV.out, runF_end s f j (fun h => a h.2.1)]
        go_wp2
        go_ret
        exact ⟨by rw [HE.out]; rfl, rfl⟩
    · have HE : Hid (O = j) := by show _ = _; rw [← HV.out, runF_end s f j (fun h => hlt h.1)]
      have hli : ¬ (j : Int) < s.size := by omega
      go_wp2
      go_ret
      exact ⟨by rw [HE.out]; rfl, rfl⟩

set_option maxHeartbeats 1000000 in
theorem upTo_any (s : ByteArray) (most : Int) (w : World) (hs : s.size ≤ 140737488355328) (hd : ∀ i, i < s.size → isD s i) (h0 : 0 ≤ most) (h1 : most ≤ 400000000000000) : Calls Tryd.prog 65 #[.int .i64 most, .string s] w fun e w' => e = .returned (.int .i64 (min (vl s s.size) most)) ∧ w' = w := by
  have HD : Hid (∀ i, i < s.size → isD s i) := hd
  clear hd
  generalize hO : min (vl s s.size) most = O
  have HO : Hid (min (vl s s.size) most = O) := hO
  clear hO
  go_enter Tryd.func65, Tryd.ntmps65
  go_wp2
  go_loop [9, 5] (fun t u => ∃ (j : Nat) (x : Int), t = .int .i64 j ∧ u = .int .i64 x ∧ j ≤ s.size ∧ x = min (vl s j) most ∧ 0 ≤ x ∧ x ≤ most) (fun t _ => s.size - (RowKit.intOf t).toNat)
  case atStart => exact ⟨0, 0, rfl, rfl, by omega, by rw [vl]; omega, by omega, by omega⟩
  case round =>
    obtain ⟨j, x, rfl, rfl, hj, hx0, x0, x1⟩ := hrel
    have HX : Hid (x = min (vl s j) most) := hx0
    clear hx0
    by_cases hlt : j < s.size
    · have hx := bt_at s j hlt
      have hli : (j : Int) < s.size := by omega
      have hdj := HD.out j hlt
      have b0 : 48 ≤ bt s j := hdj.2.1
      have b1 : bt s j ≤ 57 := hdj.2.2
      clear hdj
      go_wp2
      exact ⟨⟨j + 1, min (x * 10 + (bt s j - 48)) most, by go_num, by rfl, by omega, by rw [vl]; have := HX.out; omega, by omega, by omega⟩, by simp [RowKit.intOf]; omega⟩
    · have hli : ¬ (j : Int) < s.size := by omega
      obtain rfl : j = s.size := by omega
      go_wp2
      go_ret
      exact ⟨by rw [← HO.out, ← HX.out]; rfl, rfl⟩
end Go.Proofs.YtmfeckpcnofkhabDoor
