/- The order of buckets: the closure that compares them. -/
import Derived.Test.YtfjfpplemgjcmabBx
import Derived.Test.YtfjfpplemgjcmabOd
import Derived.Lib.QuietBelow
namespace Go.Proofs.Ytfjfpplemgjcmab
open Go.RowKit

/-- A bucket's key, and a bucket as a value. -/
def kb (u : Bk) : Int := ky u.1
abbrev bv (u : Bk) : Value := .agg #[.float .f64 u.1, .float .f64 u.2]
abbrev cvB : Value := .func (.func 107) #[] #[]
theorem cmS_negB (a b : Int) (h : a < b) : cmS a b = -1 := if_pos h
theorem cmS_posB (a b : Int) (h : ¬ a < b) : ∃ c, cmS a b = c ∧ 0 ≤ c := by
  unfold cmS; rw [if_neg h]; split
  · exact ⟨1, rfl, by decide⟩
  · exact ⟨0, rfl, by decide⟩
set_option maxHeartbeats 1000000 in
set_option maxRecDepth 100000 in
theorem orderB_any (x y : Bk) (w : World) : Calls Try.prog 107 #[bv x, bv y] w fun r w' => r = .returned (.int .i64 (cmS (kb x) (kb y))) ∧ Below w.heap.size w w' := by
  have kO := order_any x.1 y.1
  unfold kb
  generalize cmS (ky x.1) (ky y.1) = C at *
  obtain ⟨xu, xc⟩ := x
  obtain ⟨yu, yc⟩ := y
  have kO : ∀ w, Calls Try.prog 67 #[.float .f64 xu, .float .f64 yu] w fun r w' => r = .returned (.int .i64 C) ∧ w' = w := kO
  show Calls Try.prog 107 #[.agg #[.float .f64 xu, .float .f64 xc], .agg #[.float .f64 yu, .float .f64 yc]] w _
  go_enter Try.func107, Try.ntmps107
  go_wp2_with fail
  go_fit (kO _)
  rintro r w2 ⟨rfl, rfl⟩
  go_wp2
  go_ret
  exact ⟨rfl, ((Below.refl _ _).alloc (Nat.le_refl _) _).alloc (by simp) _⟩
end Go.Proofs.Ytfjfpplemgjcmab
