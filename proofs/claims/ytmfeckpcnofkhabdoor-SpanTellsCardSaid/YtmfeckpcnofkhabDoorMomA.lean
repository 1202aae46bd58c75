/- The walks of within and inRange. -/
import Derived.Test.YtmfeckpcnofkhabDoorCivA
import Derived.Lib.QuietBelow
namespace Go.Proofs.YtmfeckpcnofkhabDoor
open Go.RowKit

set_option maxHeartbeats 400000 in
theorem within_any (n a b : Int) (w : World) : Calls Tryd.prog 32 #[.int .i64 n, .int .i64 a, .int .i64 b] w fun e w' => e = .returned (.bool (decide (a ≤ n ∧ n ≤ b))) ∧ w' = w := by
  by_cases h1 : a ≤ n
  · by_cases h2 : n ≤ b
    · rw [decide_eq_true (show a ≤ n ∧ n ≤ b from ⟨h1, h2⟩)]
      go_enter Tryd.func32, Tryd.ntmps32
      go_wp2
      go_ret
      exact ⟨rfl, rfl⟩
    · rw [decide_eq_false (show ¬ (a ≤ n ∧ n ≤ b) from fun h => h2 h.2)]
      go_enter Tryd.func32, Tryd.ntmps32
      go_wp2
      go_ret
      exact ⟨by simp, rfl⟩
  · rw [decide_eq_false (show ¬ (a ≤ n ∧ n ≤ b) from fun h => h1 h.1)]
    go_enter Tryd.func32, Tryd.ntmps32
    go_wp2
    go_ret
    exact ⟨by simp, rfl⟩

/-- The ten numbers, as a struct. -/
abbrev ag (Y M D h mi s ml x1 x2 x3 : Int) : Value := .agg #[.int .i64 Y, .int .i64 M, .int .i64 D, .int .i64 h, .int .i64 mi, .int .i64 s, .int .i64 ml, .int .i64 x1, .int .i64 x2, .int .i64 x3]

theorem within_t (n a b : Int) (h : a ≤ n ∧ n ≤ b) (w : World) : Calls Tryd.prog 32 #[.int .i64 n, .int .i64 a, .int .i64 b] w fun e w' => e = .returned (.bool true) ∧ w' = w := by
  have := within_any n a b w
  rwa [decide_eq_true h] at this
theorem within_f (n a b : Int) (h : ¬ (a ≤ n ∧ n ≤ b)) (w : World) : Calls Tryd.prog 32 #[.int .i64 n, .int .i64 a, .int .i64 b] w fun e w' => e = .returned (.bool false) ∧ w' = w := by
  have := within_any n a b w
  rwa [decide_eq_false h] at this

theorem calls_same {f : FuncId} {args : Array Value} {w : World} {d : Nat} {os : Array Obj} {v : Value}
    (h : Calls Tryd.prog f args (Go.Sort.grow (redrawn w d) os) fun e w' => e = .returned v ∧ w' = Go.Sort.grow (redrawn w d) os) : Calls Tryd.prog f args (Go.Sort.grow (redrawn w d) os) fun e w'' => e = .returned v ∧ ∃ p : Regrown, w'' = Go.Sort.grow (redrawn w p.d) p.os :=
  Calls.regrown_of (h.mono fun _ _ ⟨h1, h2⟩ => ⟨h1, h2 ▸ Below.refl _ _⟩)
/-- A new block that holds ten numbers. -/
abbrev tenO (Y M D h mi s ml x1 x2 x3 : Int) : Obj := Obj.cells #[.int .i64 Y, .int .i64 M, .int .i64 D, .int .i64 h, .int .i64 mi, .int .i64 s, .int .i64 ml, .int .i64 x1, .int .i64 x2, .int .i64 x3] 30
theorem tenO_cell (Y M D h mi s ml x1 x2 x3 : Int) (w : World) (i : Nat) (v : Value) (hv : #[Value.int .i64 Y, .int .i64 M, .int .i64 D, .int .i64 h, .int .i64 mi, .int .i64 s, .int .i64 ml, .int .i64 x1, .int .i64 x2, .int .i64 x3][i]? = some v) :
    (w.alloc (tenO Y M D h mi s ml x1 x2 x3)).cell? ⟨w.heap.size, i, none⟩ = some v := by
  have hi : i < 10 := by
    have := (Array.getElem?_eq_some_iff.1 hv).1
    simpa using this
  have : i = 0 ∨ i = 1 ∨ i = 2 ∨ i = 3 ∨ i = 4 ∨ i = 5 ∨ i = 6 ∨ i = 7 ∨ i = 8 ∨ i = 9 := by omega
  rcases this with rfl | rfl | rfl | rfl | rfl | rfl | rfl | rfl | rfl | rfl <;> (simp at hv; subst hv; simp [go_sem])
end Go.Proofs.YtmfeckpcnofkhabDoor
