/- The closure that tells what is ahead, over each less. -/
import Derived.Test.YtcgpjmpppajfdaaHa
namespace Go.Proofs.Ytcgpjmpppajfdaa
open Go.RowKit

/-- The order of ranked things out of a less. -/
def inO (le : It → It → Bool) (x y : Rk) : Bool := if x.2 < y.2 then !(le y.1 x.1) else le x.1 y.1
def lsK (x y : It) : Bool := decide (x.1 < y.1)
def lsN (_ _ : It) : Bool := false
abbrev lvK : Value := .func (.func 33) #[] #[]
abbrev lvN : Value := .func (.func 61) #[] #[]

theorem lessK_any (x y : It) (w : World) : Calls Try.prog 33 #[iv x, iv y] w fun r w' => r = .returned (.bool (lsK x y)) ∧ Below w.heap.size w w' := by
  obtain ⟨xk, xi⟩ := x
  obtain ⟨yk, yi⟩ := y
  unfold lsK
  show Calls Try.prog 33 #[.agg #[.int .i64 xk, .int .i64 xi], .agg #[.int .i64 yk, .int .i64 yi]] w _
  go_enter Try.func33, Try.ntmps33
  go_wp2
  go_ret
  refine ⟨rfl, ?_⟩
  exact ((Below.refl _ _).alloc (Nat.le_refl _) _).alloc (by simp) _

theorem lessN_any (x y : It) (w : World) : Calls Try.prog 61 #[iv x, iv y] w fun r w' => r = .returned (.bool (lsN x y)) ∧ Below w.heap.size w w' := by
  obtain ⟨xk, xi⟩ := x
  obtain ⟨yk, yi⟩ := y
  unfold lsN
  show Calls Try.prog 61 #[.agg #[.int .i64 xk, .int .i64 xi], .agg #[.int .i64 yk, .int .i64 yi]] w _
  go_enter Try.func61, Try.ntmps61
  go_wp2
  go_ret
  refine ⟨rfl, ?_⟩
  exact ((Below.refl _ _).alloc (Nat.le_refl _) _).alloc (by simp) _

set_option maxHeartbeats 1000000 in
set_option maxRecDepth 100000 in
theorem aheadK : AhC lvK (inO lsK) := by
  intro w bx hbx x y
  have kO := fun a b => lessK_any a b
  unfold inO
  generalize lsK = le at *
  obtain ⟨⟨xk, xi⟩, xr⟩ := x
  obtain ⟨⟨yk, yi⟩, yr⟩ := y
  have hlt := World.block_lt_of_cell? w _ hbx
  show Calls Try.prog 62 #[.agg #[.int .i64 xk, .int .i64 xi, .int .i64 xr], .agg #[.int .i64 yk, .int .i64 yi, .int .i64 yr], .pointer (some ⟨bx, 0, none⟩)] w _
  go_enter Try.func62, Try.ntmps62
  by_cases h : xr < yr
  · rw [if_pos h]
    go_wp2_with fail
    refine (kO (yk, yi) (xk, xi) _).mono ?_
    rintro r w2 ⟨rfl, hb⟩
    go_wp2
    go_ret
    refine ⟨rfl, ?_⟩
    exact (((Below.refl _ _).alloc (Nat.le_refl _) _).alloc (by simp) _).trans (hb.mono (by simp; omega))
  · rw [if_neg h]
    go_wp2_with fail
    refine (kO (xk, xi) (yk, yi) _).mono ?_
    rintro r w2 ⟨rfl, hb⟩
    go_wp2
    go_ret
    refine ⟨rfl, ?_⟩
    exact (((Below.refl _ _).alloc (Nat.le_refl _) _).alloc (by simp) _).trans (hb.mono (by simp; omega))
set_option maxHeartbeats 1000000 in
set_option maxRecDepth 100000 in
theorem aheadN : AhC lvN (inO lsN) := by
  intro w bx hbx x y
  have kO := fun a b => lessN_any a b
  unfold inO
  generalize lsN = le at *
  obtain ⟨⟨xk, xi⟩, xr⟩ := x
  obtain ⟨⟨yk, yi⟩, yr⟩ := y
  have hlt := World.block_lt_of_cell? w _ hbx
  show Calls Try.prog 62 #[.agg #[.int .i64 xk, .int .i64 xi, .int .i64 xr], .agg #[.int .i64 yk, .int .i64 yi, .int .i64 yr], .pointer (some ⟨bx, 0, none⟩)] w _
  go_enter Try.func62, Try.ntmps62
  by_cases h : xr < yr
  · rw [if_pos h]
    go_wp2_with fail
    refine (kO (yk, yi) (xk, xi) _).mono ?_
    rintro r w2 ⟨rfl, hb⟩
    go_wp2
    go_ret
    refine ⟨rfl, ?_⟩
    exact (((Below.refl _ _).alloc (Nat.le_refl _) _).alloc (by simp) _).trans (hb.mono (by simp; omega))
  · rw [if_neg h]
    go_wp2_with fail
    refine (kO (xk, xi) (yk, yi) _).mono ?_
    rintro r w2 ⟨rfl, hb⟩
    go_wp2
    go_ret
    refine ⟨rfl, ?_⟩
    exact (((Below.refl _ _).alloc (Nat.le_refl _) _).alloc (by simp) _).trans (hb.mono (by simp; omega))
def lsM (x y : It) : Bool := ((wrap64 (wrap64 (wrap64 (x.1 * 7) + wrap64 (y.1 * 13)) + x.2)).tmod 3 == 0)
abbrev lvM : Value := .func (.func 11) #[] #[]
set_option maxHeartbeats 1000000 in
theorem lessM_any (x y : It) (w : World) : Calls Try.prog 11 #[iv x, iv y] w fun r w' => r = .returned (.bool (lsM x y)) ∧ Below w.heap.size w w' := by
  obtain ⟨xk, xi⟩ := x
  obtain ⟨yk, yi⟩ := y
  unfold lsM
  show Calls Try.prog 11 #[.agg #[.int .i64 xk, .int .i64 xi], .agg #[.int .i64 yk, .int .i64 yi]] w _
  go_enter Try.func11, Try.ntmps11
  go_wp2
  go_ret
  refine ⟨?_, ?_⟩
  · rfl
  · exact ((Below.refl _ _).alloc (Nat.le_refl _) _).alloc (by simp) _

set_option maxHeartbeats 1000000 in
set_option maxRecDepth 100000 in
theorem aheadM : AhC lvM (inO lsM) := by
  intro w bx hbx x y
  have kO := fun a b => lessM_any a b
  unfold inO
  generalize lsM = le at *
  obtain ⟨⟨xk, xi⟩, xr⟩ := x
  obtain ⟨⟨yk, yi⟩, yr⟩ := y
  have hlt := World.block_lt_of_cell? w _ hbx
  show Calls Try.prog 62 #[.agg #[.int .i64 xk, .int .i64 xi, .int .i64 xr], .agg #[.int .i64 yk, .int .i64 yi, .int .i64 yr], .pointer (some ⟨bx, 0, none⟩)] w _
  go_enter Try.func62, Try.ntmps62
  by_cases h : xr < yr
  · rw [if_pos h]
    go_wp2_with fail
    refine (kO (yk, yi) (xk, xi) _).mono ?_
    rintro r w2 ⟨rfl, hb⟩
    go_wp2
    go_ret
    refine ⟨rfl, ?_⟩
    exact (((Below.refl _ _).alloc (Nat.le_refl _) _).alloc (by simp) _).trans (hb.mono (by simp; omega))
  · rw [if_neg h]
    go_wp2_with fail
    refine (kO (xk, xi) (yk, yi) _).mono ?_
    rintro r w2 ⟨rfl, hb⟩
    go_wp2
    go_ret
    refine ⟨rfl, ?_⟩
    exact (((Below.refl _ _).alloc (Nat.le_refl _) _).alloc (by simp) _).trans (hb.mono (by simp; omega))
end Go.Proofs.Ytcgpjmpppajfdaa
