/- The walks of the reference's two and offset. -/
import Derived.Test.YtmfeckpcnofkhaaDoorStD
namespace Go.Proofs.YtmfeckpcnofkhaaDoor
open Go.RowKit

/-- The number of the two digits at a place. -/
def d2 (s : ByteArray) (i : Nat) : Int := (bt s i - 48) * 10 + (bt s (i + 1) - 48)
set_option maxHeartbeats 2000000 in
set_option maxRecDepth 100000 in
theorem rtwo_ok (s : ByteArray) (i : Nat) (w : World) (hs : s.size ≤ 64) (h1 : isD s i) (h2 : isD s (i + 1)) : Calls Tryd.prog 56 #[.string s, .int .i64 i] w fun e w' => e = .returned (.int .i64 (d2 s i)) ∧ Below w.heap.size w w' := by
  have k1 := fun w => rdigit_any (bt s i) w
  have k2 := fun w => rdigit_any (bt s (i + 1)) w
  rw [decide_eq_true h1.2] at k1
  rw [decide_eq_true h2.2] at k2
  have n1 := h1.1
  have n2 := h2.1
  have x1 := bt_at s i n1
  have x2 := bt_at s (i + 1) n2
  have i1 : (i : Int) < s.size := by omega
  have i2 : (i : Int) + 1 < s.size := by omega
  have i3 : ¬ (s.size : Int) < (i : Int) + 2 := by omega
  have b0 := h1.2.1
  have b1 := h1.2.2
  have b2 := h2.2.1
  have b3 := h2.2.2
  unfold d2
  generalize bt s i = p at *
  generalize bt s (i + 1) = q at *
  go_enter Tryd.func56, Tryd.ntmps56
  go_wp2_with fail
  go_fit (k1 _)
  rintro e w1 ⟨rfl, rfl⟩
  go_wp2_with fail
  go_fit (k2 _)
  rintro e w2 ⟨rfl, rfl⟩
  clear k1 k2
  go_wp2_with fail
  go_region
  all_goals go_wp2
  all_goals go_ret
  all_goals exact ⟨rfl, by first | exact Below.refl _ _ | exact (Below.refl _ _).drew⟩
set_option maxHeartbeats 2000000 in
set_option maxRecDepth 100000 in
theorem rtwo_no (s : ByteArray) (i : Nat) (w : World) (hi : i ≤ 64) (h : ¬ (isD s i ∧ isD s (i + 1))) : Calls Tryd.prog 56 #[.string s, .int .i64 i] w fun e w' => e = .returned (.int .i64 (-1)) ∧ Below w.heap.size w w' := by
  by_cases c : s.size < i + 2
  · have ci : (s.size : Int) < (i : Int) + 2 := by omega
    go_enter Tryd.func56, Tryd.ntmps56
    go_wp2
    go_ret
    exact ⟨rfl, by first | exact Below.refl _ _ | exact (Below.refl _ _).drew⟩
  · have ci : ¬ (s.size : Int) < (i : Int) + 2 := by omega
    have n1 : i < s.size := by omega
    have n2 : i + 1 < s.size := by omega
    have x1 := bt_at s i n1
    have x2 := bt_at s (i + 1) n2
    have i1 : (i : Int) < s.size := by omega
    have i2 : (i : Int) + 1 < s.size := by omega
    have k1 := fun w => rdigit_any (bt s i) w
    have k2 := fun w => rdigit_any (bt s (i + 1)) w
    by_cases a : isD s i
    · have b : ¬ isD s (i + 1) := fun b => h ⟨a, b⟩
      rw [decide_eq_true a.2] at k1
      rw [decide_eq_false (fun q => b ⟨n2, q⟩)] at k2
      clear a b h
      generalize bt s i = p at *
      generalize bt s (i + 1) = q at *
      go_enter Tryd.func56, Tryd.ntmps56
      go_wp2_with fail
      go_fit (k1 _)
      rintro e w1 ⟨rfl, rfl⟩
      go_wp2_with fail
      go_fit (k2 _)
      rintro e w2 ⟨rfl, rfl⟩
      clear k1 k2
      go_wp2
      go_ret
      exact ⟨rfl, by first | exact Below.refl _ _ | exact (Below.refl _ _).drew⟩
    · rw [decide_eq_false (fun q => a ⟨n1, q⟩)] at k1
      clear a h k2
      generalize bt s i = p at *
      go_enter Tryd.func56, Tryd.ntmps56
      go_wp2_with fail
      go_fit (k1 _)
      rintro e w1 ⟨rfl, rfl⟩
      clear k1
      go_wp2
      go_ret
      exact ⟨rfl, by first | exact Below.refl _ _ | exact (Below.refl _ _).drew⟩

/-- The ms of an hour and a minute, if they are in their ranges. -/
def hmR (m : Bool) (h mi : Int) : Int × Bool := if 0 ≤ h ∧ h ≤ 23 ∧ 0 ≤ mi ∧ mi ≤ 59 then (if m = true then -(h * 3600000 + mi * 60000) else h * 3600000 + mi * 60000, true) else (0, false)
set_option maxHeartbeats 2000000 in
set_option maxRecDepth 100000 in
theorem roffset_z (w : World) : Calls Tryd.prog 57 #[.string ⟨#[90]⟩] w fun e w' => e = .returned (.tuple #[.int .i64 0, .bool true]) ∧ Below w.heap.size w w' := by
  go_enter Tryd.func57, Tryd.ntmps57
  go_wp2
  go_ret2
  exact ⟨rfl, Below.refl _ _⟩
end Go.Proofs.YtmfeckpcnofkhaaDoor
