/- Powers: the ends. -/
import Derived.Test.YtebjklppbkkinaaMk
namespace Go.Proofs.Ytebjklppbkkinaa
open Go.RowKit Ieee

/-- The program's Pow and the reference's edge answer c. -/
def Edge (x y : Nat) (c : Option Nat) : Prop := (∀ w, Calls Try.prog 21 #[.float .f64 x, .float .f64 y] w (RF w c)) ∧ (∀ w, Calls Try.prog 28 #[.float .f64 x, .float .f64 y] w fun r w' => ∃ z, r = .returned (.tuple #[.float .f64 z, .bool true]) ∧ w' = w ∧ z < 18446744073709551616 ∧ cl z = c)
theorem one_no (x : Nat) (hx : x < 18446744073709551616) (h : x ≠ 4607182418800017408) : (FloatKind.f64.format.order x 4607182418800017408 == some .eq) = false := by
  cases hn : nanB x
  · rw [key_order x _ hn (by decide)]
    refine beq_eq_false_iff_ne.2 fun hc => h ?_
    have he := Int.compare_eq_eq.1 (Option.some.inj hc)
    have hk : ky x = sv (sgn x) (x % 2 ^ 63) := if_neg (by rw [hn]; decide)
    have h1 : ky 4607182418800017408 = 4607182418800017408 := by decide
    rw [hk, h1] at he
    unfold sv sgn at he
    split at he
    · omega
    · rename_i hs
      have : x / 2 ^ 63 % 2 ≠ 1 := fun hc => hs (by rw [hc]; rfl)
      omega
  · rw [fo_cl, cl_nan hn]; rfl
set_option maxHeartbeats 1000000 in
theorem edge1 (x y : Nat) (hy0 : FloatKind.f64.format.order y 0 = some .eq) : Edge x y (some 4607182418800017408) := by
  constructor
  · intro w
    go_enter Try.func21, Try.ntmps21
    go_wp2
    go_ret
    exact ⟨_, 0, rfl, rfl, by decide, cl_lit _ (by decide)⟩
  · intro w
    go_enter Try.func28, Try.ntmps28
    go_wp2
    go_ret2
    exact ⟨_, rfl, rfl, by decide, cl_lit _ (by decide)⟩
set_option maxHeartbeats 1000000 in
theorem edge2 (y : Nat) (hy0 : (FloatKind.f64.format.order y 0 == some .eq) = false) : Edge 4607182418800017408 y (some 4607182418800017408) := by
  have h1 : FloatKind.f64.format.order 4607182418800017408 4607182418800017408 = some .eq := by decide
  constructor
  · intro w
    go_enter Try.func21, Try.ntmps21
    go_wp2
    go_ret
    exact ⟨_, 0, rfl, rfl, by decide, cl_lit _ (by decide)⟩
  · intro w
    go_enter Try.func28, Try.ntmps28
    go_wp2
    go_ret2
    exact ⟨_, rfl, rfl, by decide, cl_lit _ (by decide)⟩
set_option maxHeartbeats 1000000 in
theorem edge3 (x y : Nat) (hy0 : (FloatKind.f64.format.order y 0 == some .eq) = false) (h1 : (FloatKind.f64.format.order x 4607182418800017408 == some .eq) = false) (hn : nanB x = true ∨ nanB y = true) : Edge x y none := by
  have kA := isNaN_any x
  have kB := isNaN_any y
  have kC := bad_any x
  have kD := bad_any y
  have kN := nan_any
  have kR := rnan_any
  cases hx : nanB x
  · rcases hn with hn | hn
    · rw [hx] at hn; cases hn
    · rw [hx] at kA kC
      rw [hn] at kB kD
      constructor
      · intro w
        go_enter Try.func21, Try.ntmps21
        go_wp2_with fail
        go_fit (kA _)
        rintro r w ⟨rfl, rfl⟩
        go_wp2_with fail
        go_fit (kB _)
        rintro r w ⟨rfl, rfl⟩
        go_wp2_with fail
        go_fit (kN _)
        rintro r w ⟨rfl, rfl⟩
        go_wp2
        go_ret
        exact ⟨_, 0, rfl, rfl, by decide, cl_theNaN⟩
      · intro w
        go_enter Try.func28, Try.ntmps28
        go_wp2_with fail
        go_fit (kC _)
        rintro r w ⟨rfl, rfl⟩
        go_wp2_with fail
        go_fit (kD _)
        rintro r w ⟨rfl, rfl⟩
        go_wp2_with fail
        go_fit (kR _)
        rintro r w ⟨rfl, rfl⟩
        go_wp2
        go_ret2
        exact ⟨_, rfl, rfl, by decide, cl_theNaN⟩
  · rw [hx] at kA kC
    constructor
    · intro w
      go_enter Try.func21, Try.ntmps21
      go_wp2_with fail
      go_fit (kA _)
      rintro r w ⟨rfl, rfl⟩
      go_wp2_with fail
      go_fit (kN _)
      rintro r w ⟨rfl, rfl⟩
      go_wp2
      go_ret
      exact ⟨_, 0, rfl, rfl, by decide, cl_theNaN⟩
    · intro w
      go_enter Try.func28, Try.ntmps28
      go_wp2_with fail
      go_fit (kC _)
      rintro r w ⟨rfl, rfl⟩
      go_wp2_with fail
      go_fit (kR _)
      rintro r w ⟨rfl, rfl⟩
      go_wp2
      go_ret2
      exact ⟨_, rfl, rfl, by decide, cl_theNaN⟩
end Go.Proofs.Ytebjklppbkkinaa
