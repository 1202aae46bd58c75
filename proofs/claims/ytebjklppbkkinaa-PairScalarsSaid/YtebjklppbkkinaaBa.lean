/- The small functions: bits, Abs, IsInf, NaN, alike; lists of floats in memory. -/
import Derived.Test.YtebjklppbkkinaaRows
import Derived.Test.YtebjklppbkkinaaLo
import Derived.WalkKit
import Derived.WalkSpells
import Derived.WalkLawsBesides
import Derived.Deep.DeepFit
import Derived.Below
import Derived.OwnWalk
import Derived.BigQuiet
namespace Go.Proofs.Ytebjklppbkkinaa
open Go.RowKit

/-- Floats in memory from a place on. -/
def FAt (w : World) (g o : Nat) (xs : List Nat) : Prop := ∀ j, j < xs.length → w.cell? ⟨g, o + j, none⟩ = some (.float .f64 (xs.getD j 0))
/-- A slice's floats. -/
def Fm (w : World) (a : Option Addr) (xs : List Nat) : Prop := xs = [] ∨ ∃ g o, a = some ⟨g, o, none⟩ ∧ g < w.heap.size ∧ FAt w g o xs
/-- They are words. -/
def Wd (xs : List Nat) : Prop := ∀ j, j < xs.length → xs.getD j 0 < 18446744073709551616
theorem Fm.below {w w' : World} {a : Option Addr} {xs : List Nat} (h : Fm w a xs) (hb : Below w.heap.size w w') : Fm w' a xs := by
  rcases h with h | ⟨g, o, rfl, hg, h⟩
  · exact .inl h
  · exact .inr ⟨g, o, rfl, Nat.lt_of_lt_of_le hg hb.size, fun j hj => (hb.cell (p := ⟨g, o + j, none⟩) hg).trans (h j hj)⟩
theorem Fm.drew {w : World} {a : Option Addr} {xs : List Nat} (h : Fm w a xs) (k : Nat) : Fm (w.drewN k) a xs := h

theorem callBits0 (args : Array Value) (w : World) : (callFunc 14 args).run Try.prog w = ((Extern.MathFloatBits.float64bits args).run Try.prog w).andThen fun v w' => .ok (.value v) w' :=
  run_callFunc_extern Try.func14 (by kernel_rfl) (by kernel_rfl) (by kernel_rfl) (by kernel_rfl) args w
theorem callBits (x : Nat) (w : World) : (callFunc 14 #[.float .f64 x]).run Try.prog w = .ok (.value (.int .u64 (x : Int))) w := by
  rw [callBits0]; rfl
theorem callFrom0 (args : Array Value) (w : World) : (callFunc 48 args).run Try.prog w = ((Extern.MathFloatBits.float64frombits args).run Try.prog w).andThen fun v w' => .ok (.value v) w' :=
  run_callFunc_extern Try.func48 (by kernel_rfl) (by kernel_rfl) (by kernel_rfl) (by kernel_rfl) args w
theorem callFrom (n : Int) (w : World) : (callFunc 48 #[.int .u64 n]).run Try.prog w = .ok (.value (.float .f64 n.toNat)) w := by
  rw [callFrom0]; rfl

theorem andNot63 (x : Nat) (hx : x < 18446744073709551616) : bits .andNot .u64 (x : Int) 9223372036854775808 = ((x % 9223372036854775808 : Nat) : Int) := by
  have h := u64_andNot_nat x 9223372036854775808 hx (by decide)
  rw [show ((9223372036854775808 : Nat) : Int) = 9223372036854775808 from rfl] at h
  rw [h]
  have e : x &&& (18446744073709551615 - 9223372036854775808) = x % 2 ^ 63 := Nat.and_two_pow_sub_one_eq_mod x 63
  rw [e]

set_option maxHeartbeats 400000 in
theorem abs_any (x : Nat) (hx : x < 18446744073709551616) (w : World) : Calls Try.prog 30 #[.float .f64 x] w fun r w' => r = .returned (.float .f64 (x % 9223372036854775808)) ∧ w' = w := by
  have h1 := callBits x
  have h2 := andNot63 x hx
  have h3 := callFrom
  go_enter Try.func30, Try.ntmps30
  go_wp2
  go_ret
  exact ⟨by simp, rfl⟩

set_option maxHeartbeats 400000 in
theorem isInf_any (x : Nat) (hx : x < 18446744073709551616) (w : World) : Calls Try.prog 37 #[.float .f64 x, .int .i64 0] w fun r w' => r = .returned (.bool (infB (cl x))) ∧ w' = w := by
  have k1 := abs_any x hx w
  have e : infB (cl x) = (FloatKind.f64.format.order (x % 9223372036854775808) 9218868437227405311 == some .gt) := by
    unfold infB
    rw [fo_cl, cl_ab, cl_lit 9218868437227405311 (by decide)]
  rw [e]
  go_enter Try.func37, Try.ntmps37
  go_wp2_with fail
  go_fit k1
  rintro r w' ⟨rfl, rfl⟩
  go_wp2
  go_ret
  exact ⟨rfl, rfl⟩

set_option maxHeartbeats 400000 in
theorem endless_any (x : Nat) (hx : x < 18446744073709551616) (w : World) : Calls Try.prog 23 #[.float .f64 x] w fun r w' => r = .returned (.bool (infB (cl x))) ∧ w' = w := by
  have k1 := isInf_any x hx w
  generalize infB (cl x) = B at *
  go_enter Try.func23, Try.ntmps23
  go_wp2_with fail
  go_fit k1
  rintro r w' ⟨rfl, rfl⟩
  go_wp2
  go_ret
  exact ⟨rfl, rfl⟩

set_option maxHeartbeats 400000 in
theorem nan_any (w : World) : Calls Try.prog 36 #[] w fun r w' => r = .returned (.float .f64 9221120237041090561) ∧ w' = w := by
  have h3 := callFrom
  go_enter Try.func36, Try.ntmps36
  go_wp2
  go_ret
  exact ⟨rfl, rfl⟩
set_option maxHeartbeats 400000 in
theorem rnan_any (w : World) : Calls Try.prog 24 #[] w fun r w' => r = .returned (.float .f64 9221120237041090561) ∧ w' = w := by
  have k1 := nan_any w
  go_enter Try.func24, Try.ntmps24
  go_wp2_with fail
  go_fit k1
  rintro r w' ⟨rfl, rfl⟩
  go_wp2
  go_ret
  exact ⟨rfl, rfl⟩
theorem cl_theNaN : cl 9221120237041090561 = none := cl_nan (by rw [nanB_eq]; decide)

/-- Above 0 and below 1? -/
def insB (c : Option Nat) : Bool := (fo c (some 0) == some .gt) && (fo c (some 4607182418800017408) == some .lt)
end Go.Proofs.Ytebjklppbkkinaa
