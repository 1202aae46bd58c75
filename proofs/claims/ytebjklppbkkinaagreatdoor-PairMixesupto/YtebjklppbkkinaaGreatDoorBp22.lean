/- A bundle of texts. -/
import Derived.Test.YtebjklppbkkinaaGreatDoorBp21
/- Powers: the ends. -/
namespace Go.Proofs.YtebjklppbkkinaaGreatDoor.F
open Go.RowKit Ieee

/-- The program's Pow and the reference's edge answer c. -/
def Edge (x y : Nat) (c : Option Nat) : Prop := (∀ w, Calls Tryz.prog 80 #[.float .f64 x, .float .f64 y] w (RF w c)) ∧ (∀ w, Calls Tryz.prog 138 #[.float .f64 x, .float .f64 y] w fun r w' => ∃ z, r = .returned (.tuple #[.float .f64 z, .bool true]) ∧ w' = w ∧ z < 18446744073709551616 ∧ cl z = c)
theorem one_no (x : Nat) (hx : x < 18446744073709551616) (h : x ≠ 4607182418800017408) : (FloatKind.f64.format.order x 4607182418800017408 == some .eq) = false := by
  cases hn : nanB x
  · rw [key_order x _ hn (by decide)]
    refine beq_eq_false_iff_ne.2 fun hc => h ?_
    have he := Int.compare_eq_eq.1 (Option.some.inj hc)
    have hk : ky x = sv (sgn x) (x % 2 ^ 63) := if_neg (by rw [hn]; decide)
    have h1 : ky 4607182418800017408 = 4607182418800017408 := by decide
    rw [hk, h1] at he
    unfold sv sgn at he
    split at he
    · omega
    · rename_i hs
      have : x / 2 ^ 63 % 2 ≠ 1 := fun hc => hs (by rw [hc]; rfl)
      omega
  · rw [fo_cl, cl_nan hn]; rfl
set_option maxHeartbeats 1000000 in
theorem edge1 (x y : Nat) (hy0 : FloatKind.f64.format.order y 0 = some .eq) : Edge x y (some 4607182418800017408) := by
  constructor
  · intro w
    go_enter Tryz.func80, Tryz.ntmps80
    go_wp2
    go_ret
    exact ⟨_, 0, rfl, rfl, by decide, cl_lit _ (by decide)⟩
  · intro w
    go_enter Tryz.func138, Tryz.ntmps138
    go_wp2
    go_ret2
    exact ⟨_, rfl, rfl, by decide, cl_lit _ (by decide)⟩
set_option maxHeartbeats 1000000 in
theorem edge2 (y : Nat) (hy0 : (FloatKind.f64.format.order y 0 == some .eq) = false) : Edge 4607182418800017408 y (some 4607182418800017408) := by
  have h1 : FloatKind.f64.format.order 4607182418800017408 4607182418800017408 = some .eq := by decide
  constructor
  · intro w
    go_enter Tryz.func80, Tryz.ntmps80
    go_wp2
    go_ret
    exact ⟨_, 0, rfl, rfl, by decide, cl_lit _ (by decide)⟩
  · intro w
    go_enter Tryz.func138, Tryz.ntmps138
    go_wp2
    go_ret2
    exact ⟨_, rfl, rfl, by decide, cl_lit _ (by decide)⟩
set_option maxHeartbeats 1000000 in
theorem edge3 (x y : Nat) (hy0 : (FloatKind.f64.format.order y 0 == some .eq) = false) (h1 : (FloatKind.f64.format.order x 4607182418800017408 == some .eq) = false) (hn : nanB x = true ∨ nanB y = true) : Edge x y none := by
  have kA := isNaN_any x
  have kB := isNaN_any y
  have kC := bad_any x
  have kD := bad_any y
  have kN := nan_any
  have kR := rnan_any
  cases hx : nanB x
  · rcases hn with hn | hn
    · rw [hx] at hn; cases hn
    · rw [hx] at kA kC
      rw [hn] at kB kD
      constructor
      · intro w
        go_enter Tryz.func80, Tryz.ntmps80
        go_wp2_with fail
        go_fit (kA _)
        rintro r w ⟨rfl, rfl⟩
        go_wp2_with fail
        go_fit (kB _)
        rintro r w ⟨rfl, rfl⟩
        go_wp2_with fail
        go_fit (kN _)
        rintro r w ⟨rfl, rfl⟩
        go_wp2
        go_ret
        exact ⟨_, 0, rfl, rfl, by decide, cl_theNaN⟩
      · intro w
        go_enter Tryz.func138, Tryz.ntmps138
        go_wp2_with fail
        go_fit (kC _)
        rintro r w ⟨rfl, rfl⟩
        go_wp2_with fail
        go_fit (kD _)
        rintro r w ⟨rfl, rfl⟩
        go_wp2_with fail
        go_fit (kR _)
        rintro r w ⟨rfl, rfl⟩
        go_wp2
        go_ret2
        exact ⟨_, rfl, rfl, by decide, cl_theNaN⟩
  · rw [hx] at kA kC
    constructor
    · intro w
      go_enter Tryz.func80, Tryz.ntmps80
      go_wp2_with fail
      go_fit (kA _)
      rintro r w ⟨rfl, rfl⟩
      go_wp2_with fail
      go_fit (kN _)
      rintro r w ⟨rfl, rfl⟩
      go_wp2
      go_ret
      exact ⟨_, 0, rfl, rfl, by decide, cl_theNaN⟩
    · intro w
      go_enter Tryz.func138, Tryz.ntmps138
      go_wp2_with fail
      go_fit (kC _)
      rintro r w ⟨rfl, rfl⟩
      go_wp2_with fail
      go_fit (kR _)
      rintro r w ⟨rfl, rfl⟩
      go_wp2
      go_ret2
      exact ⟨_, rfl, rfl, by decide, cl_theNaN⟩
end Go.Proofs.YtebjklppbkkinaaGreatDoor.F
/- Powers: infinite y; x that is 0 or infinite. -/
namespace Go.Proofs.YtebjklppbkkinaaGreatDoor.F
open Go.RowKit Ieee

theorem ky_pos (x : Nat) (h : x ≤ 9218868437227405312) : ky x = (x : Int) := by
  have hn : nanB x = false := by
    rw [nanB_eq]; exact decide_eq_false (by omega)
  have hk : ky x = sv (sgn x) (x % 2 ^ 63) := if_neg (by rw [hn]; decide)
  rw [hk]
  unfold sv sgn
  rw [Nat.div_eq_of_lt (by omega), Nat.mod_eq_of_lt (show x < 2 ^ 63 by omega)]
  rfl
theorem abs_one (x : Nat) (hx : x < 18446744073709551616) (hn : nanB x = false) : (4607182418800017408 < x % 9223372036854775808 → FloatKind.f64.format.order (x % 9223372036854775808) 4607182418800017408 = some .gt) ∧ (x % 9223372036854775808 < 4607182418800017408 → FloatKind.f64.format.order (x % 9223372036854775808) 4607182418800017408 = some .lt) := by
  have hb : x % 9223372036854775808 ≤ 9218868437227405312 := by rcases kinds x hx hn with h | h <;> omega
  have hn2 : nanB (x % 9223372036854775808) = false := by
    rw [nanB_eq]; exact decide_eq_false (by omega)
  rw [key_order _ _ hn2 (by decide), ky_pos _ hb, ky_pos 4607182418800017408 (by decide)]
  constructor
  · intro h
    rw [Int.compare_eq_gt.2 (by omega)]
  · intro h
    rw [Int.compare_eq_lt.2 (by omega)]
theorem neg_no (x : Nat) (hx : x < 18446744073709551616) (hn : nanB x = false) (h : x ≠ 13830554455654793216) : (FloatKind.f64.format.order x 13830554455654793216 == some .eq) = false := by
  rw [key_order x _ hn (by decide)]
  refine beq_eq_false_iff_ne.2 fun hc => h ?_
  have he := Int.compare_eq_eq.1 (Option.some.inj hc)
  have hk : ky x = sv (sgn x) (x % 2 ^ 63) := if_neg (by rw [hn]; decide)
  have h1 : ky 13830554455654793216 = -4607182418800017408 := by decide
  rw [hk, h1] at he
  unfold sv sgn at he
  split at he
  · rename_i hs
    have : x / 2 ^ 63 % 2 = 1 := eq_of_beq hs
    omega
  · omega
set_option maxHeartbeats 1000000 in
theorem edge4p : Edge 13830554455654793216 9218868437227405312 (some 4607182418800017408) := by
  have kA := isNaN_any 13830554455654793216
  have kB := isNaN_any 9218868437227405312
  have kC := bad_any 13830554455654793216
  have kD := bad_any 9218868437227405312
  have kI := isInf_any 9218868437227405312 (by decide)
  have kE := endless_any 9218868437227405312 (by decide)
  have kAb := abs_any 13830554455654793216 (by decide)
  rw [show nanB 13830554455654793216 = false by decide] at kA kC
  rw [show nanB 9218868437227405312 = false by decide] at kB kD
  rw [show infB (cl 9218868437227405312) = true by decide] at kI kE
  have h1 : FloatKind.f64.format.order 9218868437227405312 0 = some .gt := by decide
  have h2 : FloatKind.f64.format.order 13830554455654793216 4607182418800017408 = some .lt := by decide
  have h3 : FloatKind.f64.format.order 13830554455654793216 13830554455654793216 = some .eq := by decide
  have kP : ∀ w, Calls Tryz.prog 120 #[.float .f64 13830554455654793216, .float .f64 9218868437227405312] w fun r w' => r = .returned (.float .f64 4607182418800017408) ∧ w' = w := by
    intro w
    go_enter Tryz.func120, Tryz.ntmps120
    go_wp2_with fail
    go_fit (kAb _)
    rintro r w ⟨rfl, rfl⟩
    go_wp2
    go_ret
    exact ⟨rfl, rfl⟩
  constructor
  · intro w
    go_enter Tryz.func80, Tryz.ntmps80
    go_wp2_with fail
    go_fit (kA _)
    rintro r w ⟨rfl, rfl⟩
    go_wp2_with fail
    go_fit (kB _)
    rintro r w ⟨rfl, rfl⟩
    go_wp2_with fail
    go_fit (kI _)
    rintro r w ⟨rfl, rfl⟩
    go_wp2_with fail
    go_fit (kP _)
    rintro r w ⟨rfl, rfl⟩
    go_wp2
    go_ret
    exact ⟨_, 0, rfl, rfl, by decide, cl_lit _ (by decide)⟩
  · intro w
    go_enter Tryz.func138, Tryz.ntmps138
    go_wp2_with fail
    go_fit (kC _)
    rintro r w ⟨rfl, rfl⟩
    go_wp2_with fail
    go_fit (kD _)
    rintro r w ⟨rfl, rfl⟩
    go_wp2_with fail
    go_fit (kE _)
    rintro r w ⟨rfl, rfl⟩
    go_wp2
    go_ret2
    exact ⟨_, rfl, rfl, by decide, cl_lit _ (by decide)⟩
set_option maxHeartbeats 1000000 in
theorem edge5pg (x : Nat) (hx : x < 18446744073709551616) (hn : nanB x = false) (hx1 : x ≠ 4607182418800017408) (hxm : x ≠ 13830554455654793216) (hc : 4607182418800017408 < x % 9223372036854775808) : Edge x 9218868437227405312 (some 9218868437227405312) := by
  have kA := isNaN_any x
  have kB := isNaN_any 9218868437227405312
  have kC := bad_any x
  have kD := bad_any 9218868437227405312
  have kI := isInf_any 9218868437227405312 (by decide)
  have kE := endless_any 9218868437227405312 (by decide)
  have kAb := abs_any x hx
  have kJ := inf1_any
  have kK := rinf1_any
  rw [hn] at kA kC
  rw [show nanB 9218868437227405312 = false by decide] at kB kD
  rw [show infB (cl 9218868437227405312) = true by decide] at kI kE
  have h1 : FloatKind.f64.format.order 9218868437227405312 0 = some .gt := by decide
  have h2 := one_no x hx hx1
  have h3 := neg_no x hx hn hxm
  have h4 := (abs_one x hx hn).1 hc
  generalize x % 9223372036854775808 = x' at *
  have kP : ∀ w, Calls Tryz.prog 120 #[.float .f64 x, .float .f64 9218868437227405312] w fun r w' => r = .returned (.float .f64 9218868437227405312) ∧ w' = w := by
    intro w
    go_enter Tryz.func120, Tryz.ntmps120
    go_wp2_with fail
    go_fit (kAb _)
    rintro r w ⟨rfl, rfl⟩
    go_wp2_with fail
    go_fit (kJ _)
    rintro r w ⟨rfl, rfl⟩
    go_wp2
    go_ret
    exact ⟨rfl, rfl⟩
  constructor
  · intro w
    go_enter Tryz.func80, Tryz.ntmps80
    go_wp2_with fail
    go_fit (kA _)
    rintro r w ⟨rfl, rfl⟩
    go_wp2_with fail
    go_fit (kB _)
    rintro r w ⟨rfl, rfl⟩
    go_wp2_with fail
    go_fit (kI _)
    rintro r w ⟨rfl, rfl⟩
    go_wp2_with fail
    go_fit (kP _)
    rintro r w ⟨rfl, rfl⟩
    go_wp2
    go_ret
    exact ⟨_, 0, rfl, rfl, by decide, cl_lit _ (by decide)⟩
  · intro w
    go_enter Tryz.func138, Tryz.ntmps138
    go_wp2_with fail
    go_fit (kC _)
    rintro r w ⟨rfl, rfl⟩
    go_wp2_with fail
    go_fit (kD _)
    rintro r w ⟨rfl, rfl⟩
    go_wp2_with fail
    go_fit (kE _)
    rintro r w ⟨rfl, rfl⟩
    go_wp2_with fail
    go_fit (kE _)
    rintro r w ⟨rfl, rfl⟩
    go_wp2_with fail
    go_fit (kAb _)
    rintro r w ⟨rfl, rfl⟩
    go_wp2_with fail
    go_fit (kK _)
    rintro r w ⟨rfl, rfl⟩
    go_wp2
    go_ret2
    exact ⟨_, rfl, rfl, by decide, cl_lit _ (by decide)⟩
set_option maxHeartbeats 1000000 in
theorem edge5pl (x : Nat) (hx : x < 18446744073709551616) (hn : nanB x = false) (hx1 : x ≠ 4607182418800017408) (hxm : x ≠ 13830554455654793216) (hc : x % 9223372036854775808 < 4607182418800017408) : Edge x 9218868437227405312 (some 0) := by
  have kA := isNaN_any x
  have kB := isNaN_any 9218868437227405312
  have kC := bad_any x
  have kD := bad_any 9218868437227405312
  have kI := isInf_any 9218868437227405312 (by decide)
  have kE := endless_any 9218868437227405312 (by decide)
  have kAb := abs_any x hx
  have kJ := inf1_any
  have kK := rinf1_any
  rw [hn] at kA kC
  rw [show nanB 9218868437227405312 = false by decide] at kB kD
  rw [show infB (cl 9218868437227405312) = true by decide] at kI kE
  have h1 : FloatKind.f64.format.order 9218868437227405312 0 = some .gt := by decide
  have h2 := one_no x hx hx1
  have h3 := neg_no x hx hn hxm
  have h4 := (abs_one x hx hn).2 hc
  generalize x % 9223372036854775808 = x' at *
  have kP : ∀ w, Calls Tryz.prog 120 #[.float .f64 x, .float .f64 9218868437227405312] w fun r w' => r = .returned (.float .f64 0) ∧ w' = w := by
    intro w
    go_enter Tryz.func120, Tryz.ntmps120
    go_wp2_with fail
    go_fit (kAb _)
    rintro r w ⟨rfl, rfl⟩
    go_wp2
    go_ret
    exact ⟨rfl, rfl⟩
  constructor
  · intro w
    go_enter Tryz.func80, Tryz.ntmps80
    go_wp2_with fail
    go_fit (kA _)
    rintro r w ⟨rfl, rfl⟩
    go_wp2_with fail
    go_fit (kB _)
    rintro r w ⟨rfl, rfl⟩
    go_wp2_with fail
    go_fit (kI _)
    rintro r w ⟨rfl, rfl⟩
    go_wp2_with fail
    go_fit (kP _)
    rintro r w ⟨rfl, rfl⟩
    go_wp2
    go_ret
    exact ⟨_, 0, rfl, rfl, by decide, cl_lit _ (by decide)⟩
  · intro w
    go_enter Tryz.func138, Tryz.ntmps138
    go_wp2_with fail
    go_fit (kC _)
    rintro r w ⟨rfl, rfl⟩
    go_wp2_with fail
    go_fit (kD _)
    rintro r w ⟨rfl, rfl⟩
    go_wp2_with fail
    go_fit (kE _)
    rintro r w ⟨rfl, rfl⟩
    go_wp2_with fail
    go_fit (kE _)
    rintro r w ⟨rfl, rfl⟩
    go_wp2_with fail
    go_fit (kAb _)
    rintro r w ⟨rfl, rfl⟩
    go_wp2_with fail
    go_fit (kE _)
    rintro r w ⟨rfl, rfl⟩
    go_wp2
    go_ret2
    exact ⟨_, rfl, rfl, by decide, cl_lit _ (by decide)⟩
set_option maxHeartbeats 1000000 in
theorem edge4m : Edge 13830554455654793216 18442240474082181120 (some 4607182418800017408) := by
  have kA := isNaN_any 13830554455654793216
  have kB := isNaN_any 18442240474082181120
  have kC := bad_any 13830554455654793216
  have kD := bad_any 18442240474082181120
  have kI := isInf_any 18442240474082181120 (by decide)
  have kE := endless_any 18442240474082181120 (by decide)
  have kAb := abs_any 13830554455654793216 (by decide)
  rw [show nanB 13830554455654793216 = false by decide] at kA kC
  rw [show nanB 18442240474082181120 = false by decide] at kB kD
  rw [show infB (cl 18442240474082181120) = true by decide] at kI kE
  have h1 : FloatKind.f64.format.order 18442240474082181120 0 = some .lt := by decide
  have h2 : FloatKind.f64.format.order 13830554455654793216 4607182418800017408 = some .lt := by decide
  have h3 : FloatKind.f64.format.order 13830554455654793216 13830554455654793216 = some .eq := by decide
  have kP : ∀ w, Calls Tryz.prog 120 #[.float .f64 13830554455654793216, .float .f64 18442240474082181120] w fun r w' => r = .returned (.float .f64 4607182418800017408) ∧ w' = w := by
    intro w
    go_enter Tryz.func120, Tryz.ntmps120
    go_wp2_with fail
    go_fit (kAb _)
    rintro r w ⟨rfl, rfl⟩
    go_wp2
    go_ret
    exact ⟨rfl, rfl⟩
  constructor
  · intro w
    go_enter Tryz.func80, Tryz.ntmps80
    go_wp2_with fail
    go_fit (kA _)
    rintro r w ⟨rfl, rfl⟩
    go_wp2_with fail
    go_fit (kB _)
    rintro r w ⟨rfl, rfl⟩
    go_wp2_with fail
    go_fit (kI _)
    rintro r w ⟨rfl, rfl⟩
    go_wp2_with fail
    go_fit (kP _)
    rintro r w ⟨rfl, rfl⟩
    go_wp2
    go_ret
    exact ⟨_, 0, rfl, rfl, by decide, cl_lit _ (by decide)⟩
  · intro w
    go_enter Tryz.func138, Tryz.ntmps138
    go_wp2_with fail
    go_fit (kC _)
    rintro r w ⟨rfl, rfl⟩
    go_wp2_with fail
    go_fit (kD _)
    rintro r w ⟨rfl, rfl⟩
    go_wp2_with fail
    go_fit (kE _)
    rintro r w ⟨rfl, rfl⟩
    go_wp2
    go_ret2
    exact ⟨_, rfl, rfl, by decide, cl_lit _ (by decide)⟩
set_option maxHeartbeats 1000000 in
theorem edge5mg (x : Nat) (hx : x < 18446744073709551616) (hn : nanB x = false) (hx1 : x ≠ 4607182418800017408) (hxm : x ≠ 13830554455654793216) (hc : 4607182418800017408 < x % 9223372036854775808) : Edge x 18442240474082181120 (some 0) := by
  have kA := isNaN_any x
  have kB := isNaN_any 18442240474082181120
  have kC := bad_any x
  have kD := bad_any 18442240474082181120
  have kI := isInf_any 18442240474082181120 (by decide)
  have kE := endless_any 18442240474082181120 (by decide)
  have kAb := abs_any x hx
  have kJ := inf1_any
  have kK := rinf1_any
  rw [hn] at kA kC
  rw [show nanB 18442240474082181120 = false by decide] at kB kD
  rw [show infB (cl 18442240474082181120) = true by decide] at kI kE
  have h1 : FloatKind.f64.format.order 18442240474082181120 0 = some .lt := by decide
  have h2 := one_no x hx hx1
  have h3 := neg_no x hx hn hxm
  have h4 := (abs_one x hx hn).1 hc
  generalize x % 9223372036854775808 = x' at *
  have kP : ∀ w, Calls Tryz.prog 120 #[.float .f64 x, .float .f64 18442240474082181120] w fun r w' => r = .returned (.float .f64 0) ∧ w' = w := by
    intro w
    go_enter Tryz.func120, Tryz.ntmps120
    go_wp2_with fail
    go_fit (kAb _)
    rintro r w ⟨rfl, rfl⟩
    go_wp2
    go_ret
    exact ⟨rfl, rfl⟩
  constructor
  · intro w
    go_enter Tryz.func80, Tryz.ntmps80
    go_wp2_with fail
    go_fit (kA _)
    rintro r w ⟨rfl, rfl⟩
    go_wp2_with fail
    go_fit (kB _)
    rintro r w ⟨rfl, rfl⟩
    go_wp2_with fail
    go_fit (kI _)
    rintro r w ⟨rfl, rfl⟩
    go_wp2_with fail
    go_fit (kP _)
    rintro r w ⟨rfl, rfl⟩
    go_wp2
    go_ret
    exact ⟨_, 0, rfl, rfl, by decide, cl_lit _ (by decide)⟩
  · intro w
    go_enter Tryz.func138, Tryz.ntmps138
    go_wp2_with fail
    go_fit (kC _)
    rintro r w ⟨rfl, rfl⟩
    go_wp2_with fail
    go_fit (kD _)
    rintro r w ⟨rfl, rfl⟩
    go_wp2_with fail
    go_fit (kE _)
    rintro r w ⟨rfl, rfl⟩
    go_wp2_with fail
    go_fit (kE _)
    rintro r w ⟨rfl, rfl⟩
    go_wp2_with fail
    go_fit (kAb _)
    rintro r w ⟨rfl, rfl⟩
    go_wp2_with fail
    go_fit (kE _)
    rintro r w ⟨rfl, rfl⟩
    go_wp2
    go_ret2
    exact ⟨_, rfl, rfl, by decide, cl_lit _ (by decide)⟩
set_option maxHeartbeats 1000000 in
theorem edge5ml (x : Nat) (hx : x < 18446744073709551616) (hn : nanB x = false) (hx1 : x ≠ 4607182418800017408) (hxm : x ≠ 13830554455654793216) (hc : x % 9223372036854775808 < 4607182418800017408) : Edge x 18442240474082181120 (some 9218868437227405312) := by
  have kA := isNaN_any x
  have kB := isNaN_any 18442240474082181120
  have kC := bad_any x
  have kD := bad_any 18442240474082181120
  have kI := isInf_any 18442240474082181120 (by decide)
  have kE := endless_any 18442240474082181120 (by decide)
  have kAb := abs_any x hx
  have kJ := inf1_any
  have kK := rinf1_any
  rw [hn] at kA kC
  rw [show nanB 18442240474082181120 = false by decide] at kB kD
  rw [show infB (cl 18442240474082181120) = true by decide] at kI kE
  have h1 : FloatKind.f64.format.order 18442240474082181120 0 = some .lt := by decide
  have h2 := one_no x hx hx1
  have h3 := neg_no x hx hn hxm
  have h4 := (abs_one x hx hn).2 hc
  generalize x % 9223372036854775808 = x' at *
  have kP : ∀ w, Calls Tryz.prog 120 #[.float .f64 x, .float .f64 18442240474082181120] w fun r w' => r = .returned (.float .f64 9218868437227405312) ∧ w' = w := by
    intro w
    go_enter Tryz.func120, Tryz.ntmps120
    go_wp2_with fail
    go_fit (kAb _)
    rintro r w ⟨rfl, rfl⟩
    go_wp2_with fail
    go_fit (kJ _)
    rintro r w ⟨rfl, rfl⟩
    go_wp2
    go_ret
    exact ⟨rfl, rfl⟩
  constructor
  · intro w
    go_enter Tryz.func80, Tryz.ntmps80
    go_wp2_with fail
    go_fit (kA _)
    rintro r w ⟨rfl, rfl⟩
    go_wp2_with fail
    go_fit (kB _)
    rintro r w ⟨rfl, rfl⟩
    go_wp2_with fail
    go_fit (kI _)
    rintro r w ⟨rfl, rfl⟩
    go_wp2_with fail
    go_fit (kP _)
    rintro r w ⟨rfl, rfl⟩
    go_wp2
    go_ret
    exact ⟨_, 0, rfl, rfl, by decide, cl_lit _ (by decide)⟩
  · intro w
    go_enter Tryz.func138, Tryz.ntmps138
    go_wp2_with fail
    go_fit (kC _)
    rintro r w ⟨rfl, rfl⟩
    go_wp2_with fail
    go_fit (kD _)
    rintro r w ⟨rfl, rfl⟩
    go_wp2_with fail
    go_fit (kE _)
    rintro r w ⟨rfl, rfl⟩
    go_wp2_with fail
    go_fit (kE _)
    rintro r w ⟨rfl, rfl⟩
    go_wp2_with fail
    go_fit (kAb _)
    rintro r w ⟨rfl, rfl⟩
    go_wp2_with fail
    go_fit (kK _)
    rintro r w ⟨rfl, rfl⟩
    go_wp2
    go_ret2
    exact ⟨_, rfl, rfl, by decide, cl_lit _ (by decide)⟩
end Go.Proofs.YtebjklppbkkinaaGreatDoor.F
