/- The reference's word and stands. -/
import Derived.Test.YtnpgkiidpeaapaaDoorPd
namespace Go.Proofs.YtnpgkiidpeaapaaDoor
open Go.RowKit

set_option maxHeartbeats 4000000 in
set_option maxRecDepth 100000 in
theorem rword_in (s : ByteArray) (k : Nat) (hs : s.size ≤ 9223372036854775807) (hk : k < s.size) (w : World) : Calls Tryd.prog 24 #[.string s, .int .i64 (k : Int)] w fun r w' => r = .returned (.bool (wrB s k)) ∧ Below w.heap.size w w' := by
  have hsb : (s.size : Int) ≤ 9223372036854775807 := by omega
  have hB := Below.refl w.heap.size w
  have hk' : (k : Int) < s.size := by omega
  have hn0 : ¬ (k : Int) < 0 := by omega
  rw [wrB_in s k hk]
  have hc := (s[k]'hk).toNat_lt
  obtain ⟨c, hce⟩ : ∃ c : Nat, c = (s[k]'hk).toNat := ⟨_, rfl⟩
  rw [← hce] at hc ⊢
  have E : ∀ b, wbB c = b → Calls Tryd.prog 24 #[.string s, .int .i64 (k : Int)] w (fun r w' => r = .returned (.bool b) ∧ Below w.heap.size w w') → Calls Tryd.prog 24 #[.string s, .int .i64 (k : Int)] w fun r w' => r = .returned (.bool (wbB c)) ∧ Below w.heap.size w w' := fun b hb h => by rw [hb]; exact h
  have hce' := hce.symm
  clear hce
  by_cases h5 : (c : Int) = 95
  · refine E true (by unfold wbB; rw [decide_eq_true_iff]; omega) ?_
    go_enter Tryd.func24, Tryd.ntmps24
    go_wp2
    go_ret
    exact ⟨rfl, hB⟩
  · have hb5 : ((c : Int) == 95) = false := beq_eq_false_iff_ne.2 h5
    by_cases h1 : (48 : Int) ≤ c
    · by_cases h2 : (c : Int) ≤ 57
      · refine E true (by unfold wbB; rw [decide_eq_true_iff]; omega) ?_
        go_enter Tryd.func24, Tryd.ntmps24
        go_wp2
        go_ret
        exact ⟨rfl, hB⟩
      · by_cases h6 : (97 : Int) ≤ c
        · by_cases h7 : (c : Int) ≤ 122
          · refine E true (by unfold wbB; rw [decide_eq_true_iff]; omega) ?_
            go_enter Tryd.func24, Tryd.ntmps24
            go_wp2
            go_ret
            exact ⟨rfl, hB⟩
          · have h3 : (65 : Int) ≤ c := by omega
            have h4 : ¬ (c : Int) ≤ 90 := by omega
            refine E false (by unfold wbB; rw [decide_eq_false_iff_not]; omega) ?_
            go_enter Tryd.func24, Tryd.ntmps24
            go_wp2
            go_ret
            exact ⟨rfl, hB⟩
        · by_cases h3 : (65 : Int) ≤ c
          · by_cases h4 : (c : Int) ≤ 90
            · refine E true (by unfold wbB; rw [decide_eq_true_iff]; omega) ?_
              go_enter Tryd.func24, Tryd.ntmps24
              go_wp2
              go_ret
              exact ⟨rfl, hB⟩
            · refine E false (by unfold wbB; rw [decide_eq_false_iff_not]; omega) ?_
              go_enter Tryd.func24, Tryd.ntmps24
              go_wp2
              go_ret
              exact ⟨rfl, hB⟩
          · refine E false (by unfold wbB; rw [decide_eq_false_iff_not]; omega) ?_
            go_enter Tryd.func24, Tryd.ntmps24
            go_wp2
            go_ret
            exact ⟨rfl, hB⟩
    · have h3 : ¬ (65 : Int) ≤ c := by omega
      have h6 : ¬ (97 : Int) ≤ c := by omega
      refine E false (by unfold wbB; rw [decide_eq_false_iff_not]; omega) ?_
      go_enter Tryd.func24, Tryd.ntmps24
      go_wp2
      go_ret
      exact ⟨rfl, hB⟩
set_option maxHeartbeats 1000000 in
theorem rword_out (s : ByteArray) (i : Int) (hs : s.size ≤ 9223372036854775807) (h : i < 0 ∨ (s.size : Int) ≤ i) (w : World) : Calls Tryd.prog 24 #[.string s, .int .i64 i] w fun r w' => r = .returned (.bool (wrB s i)) ∧ Below w.heap.size w w' := by
  have hsb : (s.size : Int) ≤ 9223372036854775807 := by omega
  have hB := Below.refl w.heap.size w
  rw [wrB_out s i h]
  by_cases h1 : i < 0
  · go_enter Tryd.func24, Tryd.ntmps24
    go_wp2
    go_ret
    exact ⟨rfl, hB⟩
  · have h2 : (s.size : Int) ≤ i := by omega
    go_enter Tryd.func24, Tryd.ntmps24
    go_wp2
    go_ret
    exact ⟨rfl, hB⟩
end Go.Proofs.YtnpgkiidpeaapaaDoor
