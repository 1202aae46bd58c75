
/- The closure that tells what is ahead, over shorter. -/
import Derived.Test.YtcgpjmpppajfdaaWa
namespace Go.Proofs.Ytcgpjmpppajfdaa.Ws
open Go.RowKit

/-- The order of ranked things out of a less. -/
def inO (le : ByteArray → ByteArray → Bool) (x y : Wk) : Bool := if x.2 < y.2 then !(le y.1 x.1) else le x.1 y.1
def lsK (x y : ByteArray) : Bool := decide (x.size < y.size)
abbrev lvK : Value := .func (.func 22) #[] #[]

theorem lessK_any (x y : ByteArray) (w : World) : Calls Try.prog 22 #[iv x, iv y] w fun r w' => r = .returned (.bool (lsK x y)) ∧ w' = w := by
  unfold lsK
  show Calls Try.prog 22 #[.string x, .string y] w _
  go_enter Try.func22, Try.ntmps22
  go_wp2
  go_ret
  exact ⟨rfl, rfl⟩

set_option maxHeartbeats 1000000 in
set_option maxRecDepth 100000 in
theorem aheadK : AhC lvK (inO lsK) := by
  intro w bx hbx x y
  have kO := fun a b => lessK_any a b
  unfold inO
  generalize lsK = le at *
  obtain ⟨xs, xr⟩ := x
  obtain ⟨ys, yr⟩ := y
  have hlt := World.block_lt_of_cell? w _ hbx
  show Calls Try.prog 71 #[.agg #[.string xs, .int .i64 xr], .agg #[.string ys, .int .i64 yr], .pointer (some ⟨bx, 0, none⟩)] w _
  go_enter Try.func71, Try.ntmps71
  by_cases h : xr < yr
  · rw [if_pos h]
    go_wp2_with fail
    refine (kO ys xs _).mono ?_
    rintro r w2 ⟨rfl, rfl⟩
    go_wp2
    go_ret
    refine ⟨rfl, ?_⟩
    exact ((Below.refl _ _).alloc (Nat.le_refl _) _).alloc (by simp) _
  · rw [if_neg h]
    go_wp2_with fail
    refine (kO xs ys _).mono ?_
    rintro r w2 ⟨rfl, rfl⟩
    go_wp2
    go_ret
    refine ⟨rfl, ?_⟩
    exact ((Below.refl _ _).alloc (Nat.le_refl _) _).alloc (by simp) _
end Go.Proofs.Ytcgpjmpppajfdaa.Ws
