/- The walks of Stamp, on both sides. -/
import Derived.Test.YtmfeckpcnofkhabDoorStH
namespace Go.Proofs.YtmfeckpcnofkhabDoor
open Go.RowKit

/-- What a moment answers, out of its value. -/
def tmR (v : Int) : Int × Int := if v < -62167219200000 ∨ 253402300799999 < v then (0, 33) else (v, 0)
theorem tmR_far (x y : Int) (h : far3 x y) : tmR x = tmR y := by
  unfold far3 at h
  rcases h with h | ⟨h1, h2⟩ | ⟨h1, h2⟩
  · rw [h]
  · unfold tmR; rw [if_pos (.inr (by omega)), if_pos (.inr (by omega))]
  · unfold tmR; rw [if_pos (.inl (by omega)), if_pos (.inl (by omega))]
theorem tmR_cases (v : Int) : v < -62167219200000 ∧ tmR v = (0, 33) ∨ ¬ v < -62167219200000 ∧ 253402300799999 < v ∧ tmR v = (0, 33) ∨ ¬ v < -62167219200000 ∧ ¬ 253402300799999 < v ∧ tmR v = (v, 0) := by
  unfold tmR
  by_cases a : v < -62167219200000
  · exact .inl ⟨a, if_pos (.inl a)⟩
  · by_cases b : 253402300799999 < v
    · exact .inr (.inl ⟨a, b, if_pos (.inr b)⟩)
    · exact .inr (.inr ⟨a, b, if_neg (fun h => h.elim a b)⟩)
set_option maxHeartbeats 2000000 in
set_option maxRecDepth 100000 in
theorem stamp_long (s : ByteArray) (w : World) (h : 64 < s.size) : Calls Tryd.prog 13 #[.string s] w fun e w' => e = .returned (.tuple #[.int .i64 0, .int .i64 1]) ∧ Below w.heap.size w w' := by
  have hi : (64 : Int) < s.size := by omega
  go_enter Tryd.func13, Tryd.ntmps13
  go_wp2
  go_ret2
  exact ⟨rfl, Below.refl _ _⟩
set_option maxHeartbeats 2000000 in
set_option maxRecDepth 100000 in
theorem stamp_sec (s : ByteArray) (v : Int) (w : World) (h : ¬ 64 < s.size) (k1 : ∀ w, Units w → Calls Tryd.prog 21 #[.string s] w fun e w' => e = .returned (.tuple #[.int .i64 v, .bool true]) ∧ Below w.heap.size w w') (hU : Units w) :
    Calls Tryd.prog 13 #[.string s] w fun e w' => e = .returned (.tuple #[.int .i64 (tmR v).1, .int .i64 (tmR v).2]) ∧ Below w.heap.size w w' := by
  have hi : ¬ (64 : Int) < s.size := by omega
  have HU : Hid (Units w) := hU
  clear hU
  rcases tmR_cases v with ⟨a, e⟩ | ⟨a, b, e⟩ | ⟨a, b, e⟩
  all_goals
    rw [e]
    clear e
    go_enter Tryd.func13, Tryd.ntmps13
    go_wp2_with fail
    go_fit (k1 _ HU.out)
    rintro e w1 ⟨rfl, g1⟩
    clear k1
    go_wp2
    go_ret2
    exact ⟨rfl, g1⟩
set_option maxHeartbeats 2000000 in
set_option maxRecDepth 100000 in
theorem stamp_date (s : ByteArray) (v : Int) (w : World) (h : ¬ 64 < s.size) (k1 : ∀ w, Calls Tryd.prog 21 #[.string s] w fun e w' => e = .returned (.tuple #[.int .i64 0, .bool false]) ∧ Below w.heap.size w w') (k2 : ∀ w, Units w → Calls Tryd.prog 31 #[.string s] w fun e w' => e = .returned (.tuple #[.int .i64 v, .bool true]) ∧ Below w.heap.size w w') (hU : Units w) :
    Calls Tryd.prog 13 #[.string s] w fun e w' => e = .returned (.tuple #[.int .i64 (tmR v).1, .int .i64 (tmR v).2]) ∧ Below w.heap.size w w' := by
  have hi : ¬ (64 : Int) < s.size := by omega
  have HU : Hid (Units w) := hU
  clear hU
  rcases tmR_cases v with ⟨a, e⟩ | ⟨a, b, e⟩ | ⟨a, b, e⟩
  all_goals
    rw [e]
    clear e
    go_enter Tryd.func13, Tryd.ntmps13
    go_wp2_with fail
    go_fit (k1 _)
    rintro e w1 ⟨rfl, g1⟩
    clear k1
    go_wp2_with fail
    go_fit (k2 _ (HU.out.belowS g1))
    rintro e w2 ⟨rfl, g2⟩
    have q2 := g1.trans (g2.mono g1.size)
    clear g2 k2 g1
    go_wp2
    go_ret2
    exact ⟨rfl, q2⟩
set_option maxHeartbeats 2000000 in
set_option maxRecDepth 100000 in
theorem stamp_no (s : ByteArray) (w : World) (h : ¬ 64 < s.size) (k1 : ∀ w, Calls Tryd.prog 21 #[.string s] w fun e w' => e = .returned (.tuple #[.int .i64 0, .bool false]) ∧ Below w.heap.size w w') (k2 : ∀ w, Units w → Calls Tryd.prog 31 #[.string s] w fun e w' => e = .returned (.tuple #[.int .i64 0, .bool false]) ∧ Below w.heap.size w w') (hU : Units w) :
    Calls Tryd.prog 13 #[.string s] w fun e w' => e = .returned (.tuple #[.int .i64 0, .int .i64 32]) ∧ Below w.heap.size w w' := by
  have hi : ¬ (64 : Int) < s.size := by omega
  have HU : Hid (Units w) := hU
  clear hU
  go_enter Tryd.func13, Tryd.ntmps13
  go_wp2_with fail
  go_fit (k1 _)
  rintro e w1 ⟨rfl, g1⟩
  clear k1
  go_wp2_with fail
  go_fit (k2 _ (HU.out.belowS g1))
  rintro e w2 ⟨rfl, g2⟩
  have q2 := g1.trans (g2.mono g1.size)
  clear g2 k2 g1
  go_wp2
  go_ret2
  exact ⟨rfl, q2⟩
end Go.Proofs.YtmfeckpcnofkhabDoor
