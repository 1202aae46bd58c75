/- The walks of CutPrefix, TrimPrefix, cutSign, cutFraction. -/
import Derived.Test.YtmfeckpcnofkhabDoorStA
namespace Go.Proofs.YtmfeckpcnofkhabDoor
open Go.RowKit

/-- Does a byte stand at the head? -/
abbrev hp (s : ByteArray) (c : UInt8) : Prop := 0 < s.size ∧ bt s 0 = c.toNat
theorem has1_t (s : ByteArray) (c : UInt8) (h : hp s c) (w : World) : Calls Tryd.prog 84 #[.string s, .string ⟨#[c]⟩] w fun e w' => e = .returned (.bool true) ∧ w' = w := by
  have := (pre1 s c).2 h
  exact hasPrefix_yes s _ w this.1 this.2
theorem has1_f (s : ByteArray) (c : UInt8) (h : ¬ hp s c) (w : World) : Calls Tryd.prog 84 #[.string s, .string ⟨#[c]⟩] w fun e w' => e = .returned (.bool false) ∧ w' = w :=
  hasPrefix_no s _ w (fun x => h ((pre1 s c).1 x))
set_option maxHeartbeats 1000000 in
theorem cut1_t (s : ByteArray) (c : UInt8) (h : hp s c) (w : World) : Calls Tryd.prog 62 #[.string s, .string ⟨#[c]⟩] w fun e w' => e = .returned (.tuple #[.string (s.extract 1 s.size), .bool true]) ∧ w' = w := by
  have k := has1_t s c h
  have hi : (1 : Int) ≤ s.size := by have := h.1; omega
  have k2 : ∀ w', Calls Tryd.prog 81 #[.string s, .string ⟨#[c]⟩] w' fun e w'' => e = .returned (.tuple #[.string (s.extract 1 s.size), .bool true]) ∧ w'' = w' := fun w' => by
    go_enter Tryd.func81, Tryd.ntmps81
    go_wp2_with (go_at_call 84; go_fit (k _); rintro x w1 ⟨rfl, rfl⟩)
    go_ret2
    exact ⟨rfl, rfl⟩
  go_enter Tryd.func62, Tryd.ntmps62
  go_wp2_with (go_at_call 81; go_fit (k2 _); rintro x w1 ⟨rfl, rfl⟩)
  go_ret2
  exact ⟨rfl, rfl⟩
set_option maxHeartbeats 1000000 in
theorem cut1_f (s : ByteArray) (c : UInt8) (h : ¬ hp s c) (w : World) : Calls Tryd.prog 62 #[.string s, .string ⟨#[c]⟩] w fun e w' => e = .returned (.tuple #[.string s, .bool false]) ∧ w' = w := by
  have k := has1_f s c h
  have k2 : ∀ w', Calls Tryd.prog 81 #[.string s, .string ⟨#[c]⟩] w' fun e w'' => e = .returned (.tuple #[.string s, .bool false]) ∧ w'' = w' := fun w' => by
    go_enter Tryd.func81, Tryd.ntmps81
    go_wp2_with (go_at_call 84; go_fit (k _); rintro x w1 ⟨rfl, rfl⟩)
    go_ret2
    exact ⟨rfl, rfl⟩
  go_enter Tryd.func62, Tryd.ntmps62
  go_wp2_with (go_at_call 81; go_fit (k2 _); rintro x w1 ⟨rfl, rfl⟩)
  go_ret2
  exact ⟨rfl, rfl⟩
set_option maxHeartbeats 1000000 in
theorem trim1_t (s : ByteArray) (c : UInt8) (h : hp s c) (w : World) : Calls Tryd.prog 63 #[.string s, .string ⟨#[c]⟩] w fun e w' => e = .returned (.string (s.extract 1 s.size)) ∧ w' = w := by
  have k := has1_t s c h
  have hi : (1 : Int) ≤ s.size := by have := h.1; omega
  have k2 : ∀ w', Calls Tryd.prog 82 #[.string s, .string ⟨#[c]⟩] w' fun e w'' => e = .returned (.string (s.extract 1 s.size)) ∧ w'' = w' := fun w' => by
    go_enter Tryd.func82, Tryd.ntmps82
    go_wp2_with (go_at_call 84; go_fit (k _); rintro x w1 ⟨rfl, rfl⟩)
    go_ret
    exact ⟨rfl, rfl⟩
  go_enter Tryd.func63, Tryd.ntmps63
  go_wp2_with (go_at_call 82; go_fit (k2 _); rintro x w1 ⟨rfl, rfl⟩)
  go_ret
  exact ⟨rfl, rfl⟩
set_option maxHeartbeats 1000000 in
theorem trim1_f (s : ByteArray) (c : UInt8) (h : ¬ hp s c) (w : World) : Calls Tryd.prog 63 #[.string s, .string ⟨#[c]⟩] w fun e w' => e = .returned (.string s) ∧ w' = w := by
  have k := has1_f s c h
  have k2 : ∀ w', Calls Tryd.prog 82 #[.string s, .string ⟨#[c]⟩] w' fun e w'' => e = .returned (.string s) ∧ w'' = w' := fun w' => by
    go_enter Tryd.func82, Tryd.ntmps82
    go_wp2_with (go_at_call 84; go_fit (k _); rintro x w1 ⟨rfl, rfl⟩)
    go_ret
    exact ⟨rfl, rfl⟩
  go_enter Tryd.func63, Tryd.ntmps63
  go_wp2_with (go_at_call 82; go_fit (k2 _); rintro x w1 ⟨rfl, rfl⟩)
  go_ret
  exact ⟨rfl, rfl⟩

/-- How many bytes the sign at the head takes; what stands behind it; is it a minus? -/
def sa (s : ByteArray) : Nat := if hp s 45 ∨ hp s 43 then 1 else 0
def mn (s : ByteArray) : Bool := decide (hp s 45)
theorem ext0 (s : ByteArray) : s.extract 0 s.size = s := by simp
set_option maxHeartbeats 1000000 in
theorem cutSign_any (s : ByteArray) (w : World) : Calls Tryd.prog 40 #[.string s] w fun e w' => e = .returned (.tuple #[.string (s.extract (sa s) s.size), .bool (mn s)]) ∧ Below w.heap.size w w' := by
  by_cases a : hp s 45
  · rw [show sa s = 1 by unfold sa; rw [if_pos (.inl a)], show mn s = true from decide_eq_true a]
    have k := cut1_t s 45 a
    go_enter Tryd.func40, Tryd.ntmps40
    go_wp2_with fail
    go_fit (k _)
    rintro e w1 ⟨rfl, rfl⟩
    clear k
    go_wp2
    go_ret2
    exact ⟨rfl, by first | exact Below.refl _ _ | exact (Below.refl _ _).drew⟩
  · rw [show mn s = false from decide_eq_false a]
    have k := cut1_f s 45 a
    by_cases b : hp s 43
    · rw [show sa s = 1 by unfold sa; rw [if_pos (.inr b)]]
      have k2 := trim1_t s 43 b
      go_enter Tryd.func40, Tryd.ntmps40
      go_wp2_with fail
      go_fit (k _)
      rintro e w1 ⟨rfl, rfl⟩
      clear k
      go_wp2_with fail
      go_fit (k2 _)
      rintro e w1 ⟨rfl, rfl⟩
      clear k2
      go_wp2
      go_ret2
      exact ⟨rfl, by first | exact Below.refl _ _ | exact (Below.refl _ _).drew⟩
    · rw [show sa s = 0 by unfold sa; rw [if_neg (fun h => h.elim a b)], ext0]
      have k2 := trim1_f s 43 b
      go_enter Tryd.func40, Tryd.ntmps40
      go_wp2_with fail
      go_fit (k _)
      rintro e w1 ⟨rfl, rfl⟩
      clear k
      go_wp2_with fail
      go_fit (k2 _)
      rintro e w1 ⟨rfl, rfl⟩
      clear k2
      go_wp2
      go_ret2
      exact ⟨rfl, by first | exact Below.refl _ _ | exact (Below.refl _ _).drew⟩

set_option maxHeartbeats 1000000 in
theorem cutFraction_f (s : ByteArray) (h : ¬ hp s 46) (w : World) : Calls Tryd.prog 42 #[.string s] w fun e w' => e = .returned (.tuple #[.string ⟨#[]⟩, .string s, .bool true]) ∧ Below w.heap.size w w' := by
  have k := cut1_f s 46 h
  go_enter Tryd.func42, Tryd.ntmps42
  go_wp2_with fail
  go_fit (k _)
  rintro e w1 ⟨rfl, rfl⟩
  clear k
  go_wp2
  go_ret3
  exact ⟨rfl, by first | exact Below.refl _ _ | exact (Below.refl _ _).drew⟩
set_option maxHeartbeats 1000000 in
theorem cutFraction_t (s : ByteArray) (h : hp s 46) (hs : s.size ≤ 140737488355328) (w : World) : Calls Tryd.prog 42 #[.string s] w fun e w' => e = .returned (.tuple #[.string ((s.extract 1 s.size).extract 0 (rn (s.extract 1 s.size) 0)), .string ((s.extract 1 s.size).extract (rn (s.extract 1 s.size) 0) (s.extract 1 s.size).size), .bool (decide (0 < rn (s.extract 1 s.size) 0))]) ∧ Below w.heap.size w w' := by
  have k := cut1_t s 46 h
  have hsz : (s.extract 1 s.size).size ≤ 140737488355328 := by rw [ByteArray.size_extract]; omega
  have k2 := fun w => digitsAt_any (s.extract 1 s.size) w hsz
  have hb := rn_bd (s.extract 1 s.size) 0 (Nat.zero_le _)
  generalize s.extract 1 s.size = U at *
  generalize rn U 0 = d at *
  have hdi : (d : Int) ≤ U.size := by omega
  go_enter Tryd.func42, Tryd.ntmps42
  go_wp2_with fail
  go_fit (k _)
  rintro e w1 ⟨rfl, rfl⟩
  clear k
  go_wp2_with fail
  go_fit (k2 _)
  rintro e w1 ⟨rfl, rfl⟩
  clear k2
  go_wp2_with fail
  go_region
  go_wp2
  go_ret3
  exact ⟨rfl, by first | exact Below.refl _ _ | exact (Below.refl _ _).drew⟩
end Go.Proofs.YtmfeckpcnofkhabDoor
