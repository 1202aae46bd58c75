/- Word bytes, edges, places, ranges: both sides. -/
import Derived.Test.YtnpgkiidpeaapaaDoorRefNext
import Derived.Test.YtnpgkiidpeaapaaDoorSh
import Derived.Test.YtnpgkiidpeaapaaDoorKa
import Derived.Deep.QuietTactic
import Derived.BigQuiet
namespace Go.Proofs.YtnpgkiidpeaapaaDoor
open Go.RowKit

def wbB (c : Int) : Bool := decide (48 ≤ c ∧ c ≤ 57 ∨ 65 ≤ c ∧ c ≤ 90 ∨ c = 95 ∨ 97 ≤ c ∧ c ≤ 122)
set_option maxHeartbeats 2000000 in
theorem isWordByte_any (c : Nat) (hc : c < 256) (w : World) : Calls Tryd.prog 48 #[.int .u8 (c : Int)] w fun r w' => r = .returned (.bool (wbB c)) ∧ w' = w := by
  have E : ∀ b, wbB c = b → Calls Tryd.prog 48 #[.int .u8 (c : Int)] w (fun r w' => r = .returned (.bool b) ∧ w' = w) → Calls Tryd.prog 48 #[.int .u8 (c : Int)] w fun r w' => r = .returned (.bool (wbB c)) ∧ w' = w := fun b hb h => by rw [hb]; exact h
  by_cases h1 : (48 : Int) ≤ c
  · by_cases h2 : (c : Int) ≤ 57
    · refine E true (by unfold wbB; rw [decide_eq_true_iff]; omega) ?_
      go_enter Tryd.func48, Tryd.ntmps48
      go_wp2
      go_ret
      exact ⟨rfl, rfl⟩
    · by_cases h3 : (65 : Int) ≤ c
      · by_cases h4 : (c : Int) ≤ 90
        · refine E true (by unfold wbB; rw [decide_eq_true_iff]; omega) ?_
          go_enter Tryd.func48, Tryd.ntmps48
          go_wp2
          go_ret
          exact ⟨rfl, rfl⟩
        · by_cases h5 : (c : Int) = 95
          · refine E true (by unfold wbB; rw [decide_eq_true_iff]; omega) ?_
            go_enter Tryd.func48, Tryd.ntmps48
            go_wp2
            go_ret
            exact ⟨rfl, rfl⟩
          · by_cases h6 : (97 : Int) ≤ c
            · by_cases h7 : (c : Int) ≤ 122
              · refine E true (by unfold wbB; rw [decide_eq_true_iff]; omega) ?_
                go_enter Tryd.func48, Tryd.ntmps48
                go_wp2
                go_ret
                exact ⟨rfl, rfl⟩
              · refine E false (by unfold wbB; rw [decide_eq_false_iff_not]; omega) ?_
                go_enter Tryd.func48, Tryd.ntmps48
                go_wp2
                go_ret
                exact ⟨ret_bool (beq_eq_false_iff_ne.2 h5), rfl⟩
            · refine E false (by unfold wbB; rw [decide_eq_false_iff_not]; omega) ?_
              go_enter Tryd.func48, Tryd.ntmps48
              go_wp2
              go_ret
              exact ⟨ret_bool (beq_eq_false_iff_ne.2 h5), rfl⟩
      · have h5 : ¬ (c : Int) = 95 := by omega
        have h6 : ¬ (97 : Int) ≤ c := by omega
        refine E false (by unfold wbB; rw [decide_eq_false_iff_not]; omega) ?_
        go_enter Tryd.func48, Tryd.ntmps48
        go_wp2
        go_ret
        exact ⟨ret_bool (beq_eq_false_iff_ne.2 h5), rfl⟩
  · have h3 : ¬ (65 : Int) ≤ c := by omega
    have h5 : ¬ (c : Int) = 95 := by omega
    have h6 : ¬ (97 : Int) ≤ c := by omega
    refine E false (by unfold wbB; rw [decide_eq_false_iff_not]; omega) ?_
    go_enter Tryd.func48, Tryd.ntmps48
    go_wp2
    go_ret
    exact ⟨ret_bool (beq_eq_false_iff_ne.2 h5), rfl⟩
/-- Is there a word byte at a place? -/
def wrB (s : ByteArray) (i : Int) : Bool := decide (0 ≤ i ∧ i < (s.size : Int)) && wbB (bt s i.toNat)
theorem bt_get (s : ByteArray) (k : Nat) (h : k < s.size) : bt s k = (((s[k]'h).toNat : Nat) : Int) := by
  unfold bt
  rw [get!_lt s k h]
theorem wrB_in (s : ByteArray) (k : Nat) (h : k < s.size) : wrB s (k : Int) = wbB (((s[k]'h).toNat : Nat) : Int) := by
  unfold wrB
  rw [decide_eq_true (by omega), Int.toNat_natCast, bt_get s k h]
  rfl
theorem wrB_out (s : ByteArray) (i : Int) (h : i < 0 ∨ (s.size : Int) ≤ i) : wrB s i = false := by
  unfold wrB
  rw [decide_eq_false (by omega)]
  rfl
/-- Is a word's edge at a place? -/
def edB (s : ByteArray) (a : Nat) : Bool := wrB s ((a : Int) - 1) != wrB s (a : Int)
set_option maxHeartbeats 2000000 in
theorem isEdge_any (s : ByteArray) (a : Nat) (hs : s.size ≤ 9223372036854775807) (ha : a ≤ s.size) (w : World) : Calls Tryd.prog 45 #[.string s, .int .i64 (a : Int)] w fun r w' => r = .returned (.bool (edB s a)) ∧ w' = w := by
  have hsb : (s.size : Int) ≤ 9223372036854775807 := by omega
  cases a with
  | zero =>
    by_cases h2 : 0 < s.size
    · have h2' : (0 : Int) < s.size := by omega
      have E : edB s 0 = wbB (((s[0]'h2).toNat : Nat) : Int) := by
        unfold edB
        rw [wrB_out s _ (by omega), wrB_in s 0 h2]
        simp
      rw [E]
      have k1 := isWordByte_any (s[0]'h2).toNat (s[0]'h2).toNat_lt
      generalize wbB (((s[0]'h2).toNat : Nat) : Int) = B at *
      go_enter Tryd.func45, Tryd.ntmps45
      go_wp2_with fail
      go_fit (k1 _)
      rintro r w ⟨rfl, rfl⟩
      go_wp2
      go_ret
      exact ⟨ret_bool (by simp), rfl⟩
    · have h2' : ¬ (0 : Int) < s.size := by omega
      have E : edB s 0 = false := by
        unfold edB
        rw [wrB_out s _ (by omega), wrB_out s _ (by omega)]
        rfl
      rw [E]
      go_enter Tryd.func45, Tryd.ntmps45
      go_wp2
      go_ret
      exact ⟨rfl, rfl⟩
  | succ k =>
    have hk : k < s.size := by omega
    have hk' : (k : Int) < s.size := by omega
    have k0 := isWordByte_any (s[k]'hk).toNat (s[k]'hk).toNat_lt
    by_cases h2 : k + 1 < s.size
    · have h2' : (k : Int) + 1 < s.size := by omega
      have E : edB s (k + 1) = (wbB (((s[k]'hk).toNat : Nat) : Int) != wbB (((s[k + 1]'h2).toNat : Nat) : Int)) := by
        unfold edB
        rw [show (((k + 1 : Nat) : Int) - 1) = (k : Int) by omega, wrB_in s k hk, wrB_in s (k + 1) h2]
      rw [E]
      have k1 := isWordByte_any (s[k + 1]'h2).toNat (s[k + 1]'h2).toNat_lt
      generalize wbB (((s[k]'hk).toNat : Nat) : Int) = B at *
      generalize wbB (((s[k + 1]'h2).toNat : Nat) : Int) = D at *
      go_enter Tryd.func45, Tryd.ntmps45
      go_wp2_with fail
      go_fit (k0 _)
      rintro r w ⟨rfl, rfl⟩
      go_wp2_with fail
      go_fit (k1 _)
      rintro r w ⟨rfl, rfl⟩
      go_wp2
      go_ret
      exact ⟨rfl, rfl⟩
    · have h2' : ¬ (k : Int) + 1 < s.size := by omega
      have E : edB s (k + 1) = wbB (((s[k]'hk).toNat : Nat) : Int) := by
        unfold edB
        rw [show (((k + 1 : Nat) : Int) - 1) = (k : Int) by omega, wrB_in s k hk, wrB_out s _ (by omega)]
        simp
      rw [E]
      generalize wbB (((s[k]'hk).toNat : Nat) : Int) = B at *
      go_enter Tryd.func45, Tryd.ntmps45
      go_wp2_with fail
      go_fit (k0 _)
      rintro r w ⟨rfl, rfl⟩
      go_wp2
      go_ret
      exact ⟨ret_bool (by simp), rfl⟩
end Go.Proofs.YtnpgkiidpeaapaaDoor
