/- The walks of Step, on both sides. -/
import Derived.Test.YtmfeckpcnofkhabDoorStE
namespace Go.Proofs.YtmfeckpcnofkhabDoor
open Go.RowKit

/-- What a step answers, out of its value. -/
def stR (v : Int) : Int × Int := if v ≤ 0 then (0, 34) else if 315360000000000 < v then (0, 31) else (v, 0)
set_option maxHeartbeats 1000000 in
set_option maxRecDepth 100000 in
theorem step_long (s : ByteArray) (w : World) (h : 64 < s.size) : Calls Tryd.prog 8 #[.string s] w fun e w' => e = .returned (.tuple #[.int .i64 0, .int .i64 1]) ∧ Below w.heap.size w w' := by
  have hi : (64 : Int) < s.size := by omega
  go_enter Tryd.func8, Tryd.ntmps8
  go_wp2
  go_ret2
  exact ⟨rfl, Below.refl _ _⟩
set_option maxHeartbeats 2000000 in
set_option maxRecDepth 100000 in
theorem step_dur (s : ByteArray) (v : Int) (w : World) (h : ¬ 64 < s.size) (k1 : ∀ w, Units w → Calls Tryd.prog 19 #[.string s] w fun e w' => e = .returned (.tuple #[.int .i64 v, .bool true]) ∧ Below w.heap.size w w') (hU : Units w) :
    Calls Tryd.prog 8 #[.string s] w fun e w' => e = .returned (.tuple #[.int .i64 (stR v).1, .int .i64 (stR v).2]) ∧ Below w.heap.size w w' := by
  have hi : ¬ (64 : Int) < s.size := by omega
  have k := k1 w hU
  clear k1 hU
  by_cases a : v ≤ 0
  · rw [show stR v = (0, 34) by unfold stR; rw [if_pos a]]
    go_enter Tryd.func8, Tryd.ntmps8
    go_wp2_with fail
    go_fit k
    rintro e w1 ⟨rfl, h1⟩
    clear k
    go_wp2
    go_ret2
    exact ⟨rfl, h1⟩
  · by_cases b : 315360000000000 < v
    · rw [show stR v = (0, 31) by unfold stR; rw [if_neg a, if_pos b]]
      go_enter Tryd.func8, Tryd.ntmps8
      go_wp2_with fail
      go_fit k
      rintro e w1 ⟨rfl, h1⟩
      clear k
      go_wp2
      go_ret2
      exact ⟨rfl, h1⟩
    · rw [show stR v = (v, 0) by unfold stR; rw [if_neg a, if_neg b]]
      go_enter Tryd.func8, Tryd.ntmps8
      go_wp2_with fail
      go_fit k
      rintro e w1 ⟨rfl, h1⟩
      clear k
      go_wp2
      go_ret2
      exact ⟨rfl, h1⟩
set_option maxHeartbeats 2000000 in
set_option maxRecDepth 100000 in
theorem step_sec (s : ByteArray) (u v : Int) (w : World) (h : ¬ 64 < s.size) (k1 : ∀ w, Units w → Calls Tryd.prog 19 #[.string s] w fun e w' => e = .returned (.tuple #[.int .i64 u, .bool false]) ∧ Below w.heap.size w w')
    (k2 : ∀ w, Units w → Calls Tryd.prog 21 #[.string s] w fun e w' => e = .returned (.tuple #[.int .i64 v, .bool true]) ∧ Below w.heap.size w w') (hU : Units w) :
    Calls Tryd.prog 8 #[.string s] w fun e w' => e = .returned (.tuple #[.int .i64 (stR v).1, .int .i64 (stR v).2]) ∧ Below w.heap.size w w' := by
  have hi : ¬ (64 : Int) < s.size := by omega
  have k := k1 w hU
  have HU : Hid (Units w) := hU
  clear k1 hU
  by_cases a : v ≤ 0
  · rw [show stR v = (0, 34) by unfold stR; rw [if_pos a]]
    go_enter Tryd.func8, Tryd.ntmps8
    go_wp2_with fail
    go_fit k
    rintro e w1 ⟨rfl, h1⟩
    clear k
    go_wp2_with fail
    go_fit (k2 _ (HU.out.belowS h1))
    rintro e w2 ⟨rfl, h2⟩
    have h3 := h1.trans (h2.mono h1.size)
    clear k2 h1 h2
    go_wp2
    go_ret2
    exact ⟨rfl, h3⟩
  · by_cases b : 315360000000000 < v
    · rw [show stR v = (0, 31) by unfold stR; rw [if_neg a, if_pos b]]
      go_enter Tryd.func8, Tryd.ntmps8
      go_wp2_with fail
      go_fit k
      rintro e w1 ⟨rfl, h1⟩
      clear k
      go_wp2_with fail
      go_fit (k2 _ (HU.out.belowS h1))
      rintro e w2 ⟨rfl, h2⟩
      have h3 := h1.trans (h2.mono h1.size)
      clear k2 h1 h2
      go_wp2
      go_ret2
      exact ⟨rfl, h3⟩
    · rw [show stR v = (v, 0) by unfold stR; rw [if_neg a, if_neg b]]
      go_enter Tryd.func8, Tryd.ntmps8
      go_wp2_with fail
      go_fit k
      rintro e w1 ⟨rfl, h1⟩
      clear k
      go_wp2_with fail
      go_fit (k2 _ (HU.out.belowS h1))
      rintro e w2 ⟨rfl, h2⟩
      have h3 := h1.trans (h2.mono h1.size)
      clear k2 h1 h2
      go_wp2
      go_ret2
      exact ⟨rfl, h3⟩
set_option maxHeartbeats 2000000 in
set_option maxRecDepth 100000 in
theorem step_no (s : ByteArray) (u : Int) (w : World) (h : ¬ 64 < s.size) (k1 : ∀ w, Units w → Calls Tryd.prog 19 #[.string s] w fun e w' => e = .returned (.tuple #[.int .i64 u, .bool false]) ∧ Below w.heap.size w w')
    (k2 : ∀ w, Calls Tryd.prog 21 #[.string s] w fun e w' => e = .returned (.tuple #[.int .i64 0, .bool false]) ∧ Below w.heap.size w w') (hU : Units w) :
    Calls Tryd.prog 8 #[.string s] w fun e w' => e = .returned (.tuple #[.int .i64 0, .int .i64 30]) ∧ Below w.heap.size w w' := by
  have hi : ¬ (64 : Int) < s.size := by omega
  have k := k1 w hU
  clear k1 hU
  go_enter Tryd.func8, Tryd.ntmps8
  go_wp2_with fail
  go_fit k
  rintro e w1 ⟨rfl, h1⟩
  clear k
  go_wp2_with fail
  go_fit (k2 _)
  rintro e w2 ⟨rfl, h2⟩
  have h3 := h1.trans (h2.mono h1.size)
  clear k2 h1 h2
  go_wp2
  go_ret2
  exact ⟨rfl, h3⟩

end Go.Proofs.YtmfeckpcnofkhabDoor
