
/- The closure that tells what is ahead, over each less. -/
import Derived.Test.YtcgpjmpppajfdabHa
namespace Go.Proofs.Ytcgpjmpppajfdab
open Go.RowKit

/-- The order of ranked things out of a less. -/
def inO (le : It → It → Bool) (x y : Rk) : Bool := if x.2 < y.2 then !(le y.1 x.1) else le x.1 y.1
def lsK (x y : It) : Bool := decide (x.1 < y.1)
def lsN (_ _ : It) : Bool := false
abbrev lvK : Value := .func (.func 6) #[] #[]
abbrev lvN : Value := .func (.func 26) #[] #[]

theorem lessK_any (x y : It) (w : World) : Calls Try.prog 6 #[iv x, iv y] w fun r w' => r = .returned (.bool (lsK x y)) ∧ Below w.heap.size w w' := by
  obtain ⟨xk, xi⟩ := x
  obtain ⟨yk, yi⟩ := y
  unfold lsK
  show Calls Try.prog 6 #[.agg #[.int .i64 xk, .int .i64 xi], .agg #[.int .i64 yk, .int .i64 yi]] w _
  go_enter Try.func6, Try.ntmps6
  go_wp2
  go_ret
  refine ⟨rfl, ?_⟩
  exact ((Below.refl _ _).alloc (Nat.le_refl _) _).alloc (by simp) _

theorem lessN_any (x y : It) (w : World) : Calls Try.prog 26 #[iv x, iv y] w fun r w' => r = .returned (.bool (lsN x y)) ∧ Below w.heap.size w w' := by
  obtain ⟨xk, xi⟩ := x
  obtain ⟨yk, yi⟩ := y
  unfold lsN
  show Calls Try.prog 26 #[.agg #[.int .i64 xk, .int .i64 xi], .agg #[.int .i64 yk, .int .i64 yi]] w _
  go_enter Try.func26, Try.ntmps26
  go_wp2
  go_ret
  refine ⟨rfl, ?_⟩
  exact ((Below.refl _ _).alloc (Nat.le_refl _) _).alloc (by simp) _

set_option maxHeartbeats 1000000 in
set_option maxRecDepth 100000 in
theorem aheadK : AhC lvK (inO lsK) := by
  intro w bx hbx x y
  have kO := fun a b => lessK_any a b
  unfold inO
  generalize lsK = le at *
  obtain ⟨⟨xk, xi⟩, xr⟩ := x
  obtain ⟨⟨yk, yi⟩, yr⟩ := y
  have hlt := World.block_lt_of_cell? w _ hbx
  show Calls Try.prog 27 #[.agg #[.int .i64 xk, .int .i64 xi, .int .i64 xr], .agg #[.int .i64 yk, .int .i64 yi, .int .i64 yr], .pointer (some ⟨bx, 0, none⟩)] w _
  go_enter Try.func27, Try.ntmps27
  by_cases h : xr < yr
  · rw [if_pos h]
    go_wp2_with fail
    refine (kO (yk, yi) (xk, xi) _).mono ?_
    rintro r w2 ⟨rfl, hb⟩
    go_wp2
    go_ret
    refine ⟨rfl, ?_⟩
    exact (((Below.refl _ _).alloc (Nat.le_refl _) _).alloc (by simp) _).trans (hb.mono (by simp; omega))
  · rw [if_neg h]
    go_wp2_with fail
    refine (kO (xk, xi) (yk, yi) _).mono ?_
    rintro r w2 ⟨rfl, hb⟩
    go_wp2
    go_ret
    refine ⟨rfl, ?_⟩
    exact (((Below.refl _ _).alloc (Nat.le_refl _) _).alloc (by simp) _).trans (hb.mono (by simp; omega))
set_option maxHeartbeats 1000000 in
set_option maxRecDepth 100000 in
theorem aheadN : AhC lvN (inO lsN) := by
  intro w bx hbx x y
  have kO := fun a b => lessN_any a b
  unfold inO
  generalize lsN = le at *
  obtain ⟨⟨xk, xi⟩, xr⟩ := x
  obtain ⟨⟨yk, yi⟩, yr⟩ := y
  have hlt := World.block_lt_of_cell? w _ hbx
  show Calls Try.prog 27 #[.agg #[.int .i64 xk, .int .i64 xi, .int .i64 xr], .agg #[.int .i64 yk, .int .i64 yi, .int .i64 yr], .pointer (some ⟨bx, 0, none⟩)] w _
  go_enter Try.func27, Try.ntmps27
  by_cases h : xr < yr
  · rw [if_pos h]
    go_wp2_with fail
    refine (kO (yk, yi) (xk, xi) _).mono ?_
    rintro r w2 ⟨rfl, hb⟩
    go_wp2
    go_ret
    refine ⟨rfl, ?_⟩
    exact (((Below.refl _ _).alloc (Nat.le_refl _) _).alloc (by simp) _).trans (hb.mono (by simp; omega))
  · rw [if_neg h]
    go_wp2_with fail
    refine (kO (xk, xi) (yk, yi) _).mono ?_
    rintro r w2 ⟨rfl, hb⟩
    go_wp2
    go_ret
    refine ⟨rfl, ?_⟩
    exact (((Below.refl _ _).alloc (Nat.le_refl _) _).alloc (by simp) _).trans (hb.mono (by simp; omega))
def lsM (x y : It) : Bool := ((wrap64 (wrap64 (wrap64 (x.1 * 7) + wrap64 (y.1 * 13)) + x.2)).tmod 3 == 0)
end Go.Proofs.Ytcgpjmpppajfdab
