/- A bundle of texts. -/
import Derived.Test.YtebjklppbkkinaaGreatDoorBp22
/- Powers: x that is 0 or infinite. -/
namespace Go.Proofs.YtebjklppbkkinaaGreatDoor.F
open Go.RowKit Ieee

theorem zero_sg (x : Nat) (h : x % 9223372036854775808 = 0) : 0 % 9223372036854775808 + sg x = x := by
  unfold sg
  omega
theorem sg_num (x : Nat) (hx : x < 18446744073709551616) : 9218868437227405312 + sg x < 18446744073709551616 ∧ nanB (9218868437227405312 + sg x) = false := by
  have := sg_lt x hx
  refine ⟨by omega, ?_⟩
  rw [nanB_eq]
  exact decide_eq_false (by omega)
set_option maxHeartbeats 1000000 in
theorem edge6no (x y : Nat) (hx : x < 18446744073709551616) (hx0 : x % 9223372036854775808 = 0) (h : Fi y) (hs : FloatKind.f64.format.order y 0 = some .lt) (ho : odB y = true) : Edge x y (some (9218868437227405312 + sg x)) := by
  have hn : nanB x = false := by
    rw [nanB_eq]; exact decide_eq_false (by omega)
  have kA := isNaN_any x
  have kC := bad_any x
  rw [hn] at kA kC
  have h1 : FloatKind.f64.format.order x 0 = some .eq := by rw [ord0 x hx hn, if_pos hx0]
  have h2 := one_no x hx (by omega)
  have hy := h.1
  have kB := isNaN_any y
  have kD := bad_any y
  have kI := isInf_any y hy
  have kE := endless_any y hy
  rw [h.2.1] at kB kD
  rw [h.inf] at kI kE
  have kJ := inf1_any
  have kK := rinf1_any
  have kO := isOdd_any y h
  have kQ := odd_ref y h
  rw [ho] at kO kQ
  have kS := copysign_any 9218868437227405312 x (by decide) hx
  have kT := signed_any 9218868437227405312 x (by decide) hx
  have hb := sg_num x hx
  rw [show 9218868437227405312 % 9223372036854775808 = 9218868437227405312 from rfl] at kS kT
  generalize 9218868437227405312 + sg x = R at *
  have kP : ∀ w, Calls Tryz.prog 121 #[.float .f64 x, .float .f64 y] w fun r w' => r = .returned (.float .f64 R) ∧ w' = w := by
    intro w
    go_enter Tryz.func121, Tryz.ntmps121
    go_wp2_with fail
    go_fit (kJ _)
    rintro r w ⟨rfl, rfl⟩
    go_wp2_with fail
    go_fit (kO _)
    rintro r w ⟨rfl, rfl⟩
    go_wp2_with fail
    go_fit (kS _)
    rintro r w ⟨rfl, rfl⟩
    go_wp2
    go_ret
    exact ⟨rfl, rfl⟩
  constructor
  · intro w
    go_enter Tryz.func80, Tryz.ntmps80
    go_wp2_with fail
    go_fit (kA _)
    rintro r w ⟨rfl, rfl⟩
    go_wp2_with fail
    go_fit (kB _)
    rintro r w ⟨rfl, rfl⟩
    go_wp2_with fail
    go_fit (kI _)
    rintro r w ⟨rfl, rfl⟩
    go_wp2_with fail
    go_fit (kP _)
    rintro r w ⟨rfl, rfl⟩
    go_wp2
    go_ret
    exact ⟨_, 0, rfl, rfl, hb.1, cl_num hb.2⟩
  · intro w
    go_enter Tryz.func138, Tryz.ntmps138
    go_wp2_with fail
    go_fit (kC _)
    rintro r w ⟨rfl, rfl⟩
    go_wp2_with fail
    go_fit (kD _)
    rintro r w ⟨rfl, rfl⟩
    go_wp2_with fail
    go_fit (kE _)
    rintro r w ⟨rfl, rfl⟩
    go_wp2_with fail
    go_fit (kE _)
    rintro r w ⟨rfl, rfl⟩
    go_wp2_with fail
    go_fit (kE _)
    rintro r w ⟨rfl, rfl⟩
    go_wp2_with fail
    go_fit (kQ _)
    rintro r w ⟨rfl, rfl⟩
    go_wp2_with fail
    go_fit (kK _)
    rintro r w ⟨rfl, rfl⟩
    go_wp2_with fail
    go_fit (kT _)
    rintro r w ⟨rfl, rfl⟩
    go_wp2
    go_ret2
    exact ⟨_, rfl, rfl, hb.1, cl_num hb.2⟩
set_option maxHeartbeats 1000000 in
theorem edge6ne (x y : Nat) (hx : x < 18446744073709551616) (hx0 : x % 9223372036854775808 = 0) (h : Fi y) (hs : FloatKind.f64.format.order y 0 = some .lt) (ho : odB y = false) : Edge x y (some 9218868437227405312) := by
  have hn : nanB x = false := by
    rw [nanB_eq]; exact decide_eq_false (by omega)
  have kA := isNaN_any x
  have kC := bad_any x
  rw [hn] at kA kC
  have h1 : FloatKind.f64.format.order x 0 = some .eq := by rw [ord0 x hx hn, if_pos hx0]
  have h2 := one_no x hx (by omega)
  have hy := h.1
  have kB := isNaN_any y
  have kD := bad_any y
  have kI := isInf_any y hy
  have kE := endless_any y hy
  rw [h.2.1] at kB kD
  rw [h.inf] at kI kE
  have kJ := inf1_any
  have kK := rinf1_any
  have kO := isOdd_any y h
  have kQ := odd_ref y h
  rw [ho] at kO kQ
  have kP : ∀ w, Calls Tryz.prog 121 #[.float .f64 x, .float .f64 y] w fun r w' => r = .returned (.float .f64 9218868437227405312) ∧ w' = w := by
    intro w
    go_enter Tryz.func121, Tryz.ntmps121
    go_wp2_with fail
    go_fit (kJ _)
    rintro r w ⟨rfl, rfl⟩
    go_wp2_with fail
    go_fit (kO _)
    rintro r w ⟨rfl, rfl⟩
    go_wp2
    go_ret
    exact ⟨rfl, rfl⟩
  constructor
  · intro w
    go_enter Tryz.func80, Tryz.ntmps80
    go_wp2_with fail
    go_fit (kA _)
    rintro r w ⟨rfl, rfl⟩
    go_wp2_with fail
    go_fit (kB _)
    rintro r w ⟨rfl, rfl⟩
    go_wp2_with fail
    go_fit (kI _)
    rintro r w ⟨rfl, rfl⟩
    go_wp2_with fail
    go_fit (kP _)
    rintro r w ⟨rfl, rfl⟩
    go_wp2
    go_ret
    exact ⟨_, 0, rfl, rfl, by decide, cl_lit _ (by decide)⟩
  · intro w
    go_enter Tryz.func138, Tryz.ntmps138
    go_wp2_with fail
    go_fit (kC _)
    rintro r w ⟨rfl, rfl⟩
    go_wp2_with fail
    go_fit (kD _)
    rintro r w ⟨rfl, rfl⟩
    go_wp2_with fail
    go_fit (kE _)
    rintro r w ⟨rfl, rfl⟩
    go_wp2_with fail
    go_fit (kE _)
    rintro r w ⟨rfl, rfl⟩
    go_wp2_with fail
    go_fit (kE _)
    rintro r w ⟨rfl, rfl⟩
    go_wp2_with fail
    go_fit (kQ _)
    rintro r w ⟨rfl, rfl⟩
    go_wp2_with fail
    go_fit (kQ _)
    rintro r w ⟨rfl, rfl⟩
    go_wp2_with fail
    go_fit (kK _)
    rintro r w ⟨rfl, rfl⟩
    go_wp2
    go_ret2
    exact ⟨_, rfl, rfl, by decide, cl_lit _ (by decide)⟩
set_option maxHeartbeats 1000000 in
theorem edge6po (x y : Nat) (hx : x < 18446744073709551616) (hx0 : x % 9223372036854775808 = 0) (h : Fi y) (hs : FloatKind.f64.format.order y 0 = some .gt) (ho : odB y = true) : Edge x y (some x) := by
  have hn : nanB x = false := by
    rw [nanB_eq]; exact decide_eq_false (by omega)
  have kA := isNaN_any x
  have kC := bad_any x
  rw [hn] at kA kC
  have h1 : FloatKind.f64.format.order x 0 = some .eq := by rw [ord0 x hx hn, if_pos hx0]
  have h2 := one_no x hx (by omega)
  have hy := h.1
  have kB := isNaN_any y
  have kD := bad_any y
  have kI := isInf_any y hy
  have kE := endless_any y hy
  rw [h.2.1] at kB kD
  rw [h.inf] at kI kE
  have kJ := inf1_any
  have kK := rinf1_any
  have kO := isOdd_any y h
  have kQ := odd_ref y h
  rw [ho] at kO kQ
  have kS := copysign_any 0 x (by decide) hx
  have kT := signed_any 9218868437227405312 x (by decide) hx
  rw [zero_sg x hx0] at kS
  have kP : ∀ w, Calls Tryz.prog 121 #[.float .f64 x, .float .f64 y] w fun r w' => r = .returned (.float .f64 x) ∧ w' = w := by
    intro w
    go_enter Tryz.func121, Tryz.ntmps121
    go_wp2_with fail
    go_fit (kO _)
    rintro r w ⟨rfl, rfl⟩
    go_wp2_with fail
    go_fit (kS _)
    rintro r w ⟨rfl, rfl⟩
    go_wp2
    go_ret
    exact ⟨rfl, rfl⟩
  constructor
  · intro w
    go_enter Tryz.func80, Tryz.ntmps80
    go_wp2_with fail
    go_fit (kA _)
    rintro r w ⟨rfl, rfl⟩
    go_wp2_with fail
    go_fit (kB _)
    rintro r w ⟨rfl, rfl⟩
    go_wp2_with fail
    go_fit (kI _)
    rintro r w ⟨rfl, rfl⟩
    go_wp2_with fail
    go_fit (kP _)
    rintro r w ⟨rfl, rfl⟩
    go_wp2
    go_ret
    exact ⟨_, 0, rfl, rfl, hx, cl_num hn⟩
  · intro w
    go_enter Tryz.func138, Tryz.ntmps138
    go_wp2_with fail
    go_fit (kC _)
    rintro r w ⟨rfl, rfl⟩
    go_wp2_with fail
    go_fit (kD _)
    rintro r w ⟨rfl, rfl⟩
    go_wp2_with fail
    go_fit (kE _)
    rintro r w ⟨rfl, rfl⟩
    go_wp2_with fail
    go_fit (kE _)
    rintro r w ⟨rfl, rfl⟩
    go_wp2_with fail
    go_fit (kE _)
    rintro r w ⟨rfl, rfl⟩
    go_wp2_with fail
    go_fit (kQ _)
    rintro r w ⟨rfl, rfl⟩
    go_wp2_with fail
    go_fit (kQ _)
    rintro r w ⟨rfl, rfl⟩
    go_wp2
    go_ret2
    exact ⟨_, rfl, rfl, hx, cl_num hn⟩
set_option maxHeartbeats 1000000 in
theorem edge6pe (x y : Nat) (hx : x < 18446744073709551616) (hx0 : x % 9223372036854775808 = 0) (h : Fi y) (hs : FloatKind.f64.format.order y 0 = some .gt) (ho : odB y = false) : Edge x y (some 0) := by
  have hn : nanB x = false := by
    rw [nanB_eq]; exact decide_eq_false (by omega)
  have kA := isNaN_any x
  have kC := bad_any x
  rw [hn] at kA kC
  have h1 : FloatKind.f64.format.order x 0 = some .eq := by rw [ord0 x hx hn, if_pos hx0]
  have h2 := one_no x hx (by omega)
  have hy := h.1
  have kB := isNaN_any y
  have kD := bad_any y
  have kI := isInf_any y hy
  have kE := endless_any y hy
  rw [h.2.1] at kB kD
  rw [h.inf] at kI kE
  have kJ := inf1_any
  have kK := rinf1_any
  have kO := isOdd_any y h
  have kQ := odd_ref y h
  rw [ho] at kO kQ
  have kP : ∀ w, Calls Tryz.prog 121 #[.float .f64 x, .float .f64 y] w fun r w' => r = .returned (.float .f64 0) ∧ w' = w := by
    intro w
    go_enter Tryz.func121, Tryz.ntmps121
    go_wp2_with fail
    go_fit (kO _)
    rintro r w ⟨rfl, rfl⟩
    go_wp2
    go_ret
    exact ⟨rfl, rfl⟩
  constructor
  · intro w
    go_enter Tryz.func80, Tryz.ntmps80
    go_wp2_with fail
    go_fit (kA _)
    rintro r w ⟨rfl, rfl⟩
    go_wp2_with fail
    go_fit (kB _)
    rintro r w ⟨rfl, rfl⟩
    go_wp2_with fail
    go_fit (kI _)
    rintro r w ⟨rfl, rfl⟩
    go_wp2_with fail
    go_fit (kP _)
    rintro r w ⟨rfl, rfl⟩
    go_wp2
    go_ret
    exact ⟨_, 0, rfl, rfl, by decide, cl_lit _ (by decide)⟩
  · intro w
    go_enter Tryz.func138, Tryz.ntmps138
    go_wp2_with fail
    go_fit (kC _)
    rintro r w ⟨rfl, rfl⟩
    go_wp2_with fail
    go_fit (kD _)
    rintro r w ⟨rfl, rfl⟩
    go_wp2_with fail
    go_fit (kE _)
    rintro r w ⟨rfl, rfl⟩
    go_wp2_with fail
    go_fit (kE _)
    rintro r w ⟨rfl, rfl⟩
    go_wp2_with fail
    go_fit (kE _)
    rintro r w ⟨rfl, rfl⟩
    go_wp2_with fail
    go_fit (kQ _)
    rintro r w ⟨rfl, rfl⟩
    go_wp2_with fail
    go_fit (kQ _)
    rintro r w ⟨rfl, rfl⟩
    go_wp2
    go_ret2
    exact ⟨_, rfl, rfl, by decide, cl_lit _ (by decide)⟩
set_option maxHeartbeats 1000000 in
theorem edge7pno (y : Nat) (h : Fi y) (hs : FloatKind.f64.format.order y 0 = some .lt) (ho : odB y = true) : Edge 9218868437227405312 y (some 0) := by
  have kA := isNaN_any 9218868437227405312
  have kC := bad_any 9218868437227405312
  rw [show nanB 9218868437227405312 = false by decide] at kA kC
  have kX := isInf_any 9218868437227405312 (by decide)
  have kF := endless_any 9218868437227405312 (by decide)
  rw [show infB (cl 9218868437227405312) = true by decide] at kX kF
  have h1 : FloatKind.f64.format.order 9218868437227405312 0 = some .gt := by decide
  have h2 : FloatKind.f64.format.order 9218868437227405312 4607182418800017408 = some .gt := by decide
  have hy := h.1
  have kB := isNaN_any y
  have kD := bad_any y
  have kI := isInf_any y hy
  have kE := endless_any y hy
  rw [h.2.1] at kB kD
  rw [h.inf] at kI kE
  have kJ := inf1_any
  have kK := rinf1_any
  have kO := isOdd_any y h
  have kQ := odd_ref y h
  rw [ho] at kO kQ
  have kS := copysign_any 0 9218868437227405312 (by decide) (by decide)
  rw [show 0 % 9223372036854775808 + sg 9218868437227405312 = 0 by decide] at kS
  have kP : ∀ w, Calls Tryz.prog 121 #[.float .f64 9218868437227405312, .float .f64 y] w fun r w' => r = .returned (.float .f64 0) ∧ w' = w := by
    intro w
    go_enter Tryz.func121, Tryz.ntmps121
    go_wp2_with fail
    go_fit (kO _)
    rintro r w ⟨rfl, rfl⟩
    go_wp2_with fail
    go_fit (kS _)
    rintro r w ⟨rfl, rfl⟩
    go_wp2
    go_ret
    exact ⟨rfl, rfl⟩
  constructor
  · intro w
    go_enter Tryz.func80, Tryz.ntmps80
    go_wp2_with fail
    go_fit (kA _)
    rintro r w ⟨rfl, rfl⟩
    go_wp2_with fail
    go_fit (kB _)
    rintro r w ⟨rfl, rfl⟩
    go_wp2_with fail
    go_fit (kI _)
    rintro r w ⟨rfl, rfl⟩
    go_wp2_with fail
    go_fit (kX _)
    rintro r w ⟨rfl, rfl⟩
    go_wp2_with fail
    go_fit (kP _)
    rintro r w ⟨rfl, rfl⟩
    go_wp2
    go_ret
    exact ⟨_, 0, rfl, rfl, by decide, cl_lit _ (by decide)⟩
  · intro w
    go_enter Tryz.func138, Tryz.ntmps138
    go_wp2_with fail
    go_fit (kC _)
    rintro r w ⟨rfl, rfl⟩
    go_wp2_with fail
    go_fit (kD _)
    rintro r w ⟨rfl, rfl⟩
    go_wp2_with fail
    go_fit (kE _)
    rintro r w ⟨rfl, rfl⟩
    go_wp2_with fail
    go_fit (kE _)
    rintro r w ⟨rfl, rfl⟩
    go_wp2_with fail
    go_fit (kE _)
    rintro r w ⟨rfl, rfl⟩
    go_wp2_with fail
    go_fit (kF _)
    rintro r w ⟨rfl, rfl⟩
    go_wp2_with fail
    go_fit (kF _)
    rintro r w ⟨rfl, rfl⟩
    go_wp2_with fail
    go_fit (kF _)
    rintro r w ⟨rfl, rfl⟩
    go_wp2_with fail
    go_fit (kF _)
    rintro r w ⟨rfl, rfl⟩
    go_wp2
    go_ret2
    exact ⟨_, rfl, rfl, by decide, cl_lit _ (by decide)⟩
set_option maxHeartbeats 1000000 in
theorem edge7pne (y : Nat) (h : Fi y) (hs : FloatKind.f64.format.order y 0 = some .lt) (ho : odB y = false) : Edge 9218868437227405312 y (some 0) := by
  have kA := isNaN_any 9218868437227405312
  have kC := bad_any 9218868437227405312
  rw [show nanB 9218868437227405312 = false by decide] at kA kC
  have kX := isInf_any 9218868437227405312 (by decide)
  have kF := endless_any 9218868437227405312 (by decide)
  rw [show infB (cl 9218868437227405312) = true by decide] at kX kF
  have h1 : FloatKind.f64.format.order 9218868437227405312 0 = some .gt := by decide
  have h2 : FloatKind.f64.format.order 9218868437227405312 4607182418800017408 = some .gt := by decide
  have hy := h.1
  have kB := isNaN_any y
  have kD := bad_any y
  have kI := isInf_any y hy
  have kE := endless_any y hy
  rw [h.2.1] at kB kD
  rw [h.inf] at kI kE
  have kJ := inf1_any
  have kK := rinf1_any
  have kO := isOdd_any y h
  have kQ := odd_ref y h
  rw [ho] at kO kQ
  have kP : ∀ w, Calls Tryz.prog 121 #[.float .f64 9218868437227405312, .float .f64 y] w fun r w' => r = .returned (.float .f64 0) ∧ w' = w := by
    intro w
    go_enter Tryz.func121, Tryz.ntmps121
    go_wp2_with fail
    go_fit (kO _)
    rintro r w ⟨rfl, rfl⟩
    go_wp2
    go_ret
    exact ⟨rfl, rfl⟩
  constructor
  · intro w
    go_enter Tryz.func80, Tryz.ntmps80
    go_wp2_with fail
    go_fit (kA _)
    rintro r w ⟨rfl, rfl⟩
    go_wp2_with fail
    go_fit (kB _)
    rintro r w ⟨rfl, rfl⟩
    go_wp2_with fail
    go_fit (kI _)
    rintro r w ⟨rfl, rfl⟩
    go_wp2_with fail
    go_fit (kX _)
    rintro r w ⟨rfl, rfl⟩
    go_wp2_with fail
    go_fit (kP _)
    rintro r w ⟨rfl, rfl⟩
    go_wp2
    go_ret
    exact ⟨_, 0, rfl, rfl, by decide, cl_lit _ (by decide)⟩
  · intro w
    go_enter Tryz.func138, Tryz.ntmps138
    go_wp2_with fail
    go_fit (kC _)
    rintro r w ⟨rfl, rfl⟩
    go_wp2_with fail
    go_fit (kD _)
    rintro r w ⟨rfl, rfl⟩
    go_wp2_with fail
    go_fit (kE _)
    rintro r w ⟨rfl, rfl⟩
    go_wp2_with fail
    go_fit (kE _)
    rintro r w ⟨rfl, rfl⟩
    go_wp2_with fail
    go_fit (kE _)
    rintro r w ⟨rfl, rfl⟩
    go_wp2_with fail
    go_fit (kF _)
    rintro r w ⟨rfl, rfl⟩
    go_wp2_with fail
    go_fit (kF _)
    rintro r w ⟨rfl, rfl⟩
    go_wp2_with fail
    go_fit (kF _)
    rintro r w ⟨rfl, rfl⟩
    go_wp2_with fail
    go_fit (kF _)
    rintro r w ⟨rfl, rfl⟩
    go_wp2
    go_ret2
    exact ⟨_, rfl, rfl, by decide, cl_lit _ (by decide)⟩
set_option maxHeartbeats 1000000 in
theorem edge7ppo (y : Nat) (h : Fi y) (hs : FloatKind.f64.format.order y 0 = some .gt) (ho : odB y = true) : Edge 9218868437227405312 y (some 9218868437227405312) := by
  have kA := isNaN_any 9218868437227405312
  have kC := bad_any 9218868437227405312
  rw [show nanB 9218868437227405312 = false by decide] at kA kC
  have kX := isInf_any 9218868437227405312 (by decide)
  have kF := endless_any 9218868437227405312 (by decide)
  rw [show infB (cl 9218868437227405312) = true by decide] at kX kF
  have h1 : FloatKind.f64.format.order 9218868437227405312 0 = some .gt := by decide
  have h2 : FloatKind.f64.format.order 9218868437227405312 4607182418800017408 = some .gt := by decide
  have hy := h.1
  have kB := isNaN_any y
  have kD := bad_any y
  have kI := isInf_any y hy
  have kE := endless_any y hy
  rw [h.2.1] at kB kD
  rw [h.inf] at kI kE
  have kJ := inf1_any
  have kK := rinf1_any
  have kO := isOdd_any y h
  have kQ := odd_ref y h
  rw [ho] at kO kQ
  have kS := copysign_any 9218868437227405312 9218868437227405312 (by decide) (by decide)
  rw [show 9218868437227405312 % 9223372036854775808 + sg 9218868437227405312 = 9218868437227405312 by decide] at kS
  have kP : ∀ w, Calls Tryz.prog 121 #[.float .f64 9218868437227405312, .float .f64 y] w fun r w' => r = .returned (.float .f64 9218868437227405312) ∧ w' = w := by
    intro w
    go_enter Tryz.func121, Tryz.ntmps121
    go_wp2_with fail
    go_fit (kJ _)
    rintro r w ⟨rfl, rfl⟩
    go_wp2_with fail
    go_fit (kO _)
    rintro r w ⟨rfl, rfl⟩
    go_wp2_with fail
    go_fit (kS _)
    rintro r w ⟨rfl, rfl⟩
    go_wp2
    go_ret
    exact ⟨rfl, rfl⟩
  constructor
  · intro w
    go_enter Tryz.func80, Tryz.ntmps80
    go_wp2_with fail
    go_fit (kA _)
    rintro r w ⟨rfl, rfl⟩
    go_wp2_with fail
    go_fit (kB _)
    rintro r w ⟨rfl, rfl⟩
    go_wp2_with fail
    go_fit (kI _)
    rintro r w ⟨rfl, rfl⟩
    go_wp2_with fail
    go_fit (kX _)
    rintro r w ⟨rfl, rfl⟩
    go_wp2_with fail
    go_fit (kP _)
    rintro r w ⟨rfl, rfl⟩
    go_wp2
    go_ret
    exact ⟨_, 0, rfl, rfl, by decide, cl_lit _ (by decide)⟩
  · intro w
    go_enter Tryz.func138, Tryz.ntmps138
    go_wp2_with fail
    go_fit (kC _)
    rintro r w ⟨rfl, rfl⟩
    go_wp2_with fail
    go_fit (kD _)
    rintro r w ⟨rfl, rfl⟩
    go_wp2_with fail
    go_fit (kE _)
    rintro r w ⟨rfl, rfl⟩
    go_wp2_with fail
    go_fit (kE _)
    rintro r w ⟨rfl, rfl⟩
    go_wp2_with fail
    go_fit (kE _)
    rintro r w ⟨rfl, rfl⟩
    go_wp2_with fail
    go_fit (kF _)
    rintro r w ⟨rfl, rfl⟩
    go_wp2_with fail
    go_fit (kF _)
    rintro r w ⟨rfl, rfl⟩
    go_wp2_with fail
    go_fit (kF _)
    rintro r w ⟨rfl, rfl⟩
    go_wp2_with fail
    go_fit (kK _)
    rintro r w ⟨rfl, rfl⟩
    go_wp2
    go_ret2
    exact ⟨_, rfl, rfl, by decide, cl_lit _ (by decide)⟩
set_option maxHeartbeats 1000000 in
theorem edge7ppe (y : Nat) (h : Fi y) (hs : FloatKind.f64.format.order y 0 = some .gt) (ho : odB y = false) : Edge 9218868437227405312 y (some 9218868437227405312) := by
  have kA := isNaN_any 9218868437227405312
  have kC := bad_any 9218868437227405312
  rw [show nanB 9218868437227405312 = false by decide] at kA kC
  have kX := isInf_any 9218868437227405312 (by decide)
  have kF := endless_any 9218868437227405312 (by decide)
  rw [show infB (cl 9218868437227405312) = true by decide] at kX kF
  have h1 : FloatKind.f64.format.order 9218868437227405312 0 = some .gt := by decide
  have h2 : FloatKind.f64.format.order 9218868437227405312 4607182418800017408 = some .gt := by decide
  have hy := h.1
  have kB := isNaN_any y
  have kD := bad_any y
  have kI := isInf_any y hy
  have kE := endless_any y hy
  rw [h.2.1] at kB kD
  rw [h.inf] at kI kE
  have kJ := inf1_any
  have kK := rinf1_any
  have kO := isOdd_any y h
  have kQ := odd_ref y h
  rw [ho] at kO kQ
  have kP : ∀ w, Calls Tryz.prog 121 #[.float .f64 9218868437227405312, .float .f64 y] w fun r w' => r = .returned (.float .f64 9218868437227405312) ∧ w' = w := by
    intro w
    go_enter Tryz.func121, Tryz.ntmps121
    go_wp2_with fail
    go_fit (kJ _)
    rintro r w ⟨rfl, rfl⟩
    go_wp2_with fail
    go_fit (kO _)
    rintro r w ⟨rfl, rfl⟩
    go_wp2
    go_ret
    exact ⟨rfl, rfl⟩
  constructor
  · intro w
    go_enter Tryz.func80, Tryz.ntmps80
    go_wp2_with fail
    go_fit (kA _)
    rintro r w ⟨rfl, rfl⟩
    go_wp2_with fail
    go_fit (kB _)
    rintro r w ⟨rfl, rfl⟩
    go_wp2_with fail
    go_fit (kI _)
    rintro r w ⟨rfl, rfl⟩
    go_wp2_with fail
    go_fit (kX _)
    rintro r w ⟨rfl, rfl⟩
    go_wp2_with fail
    go_fit (kP _)
    rintro r w ⟨rfl, rfl⟩
    go_wp2
    go_ret
    exact ⟨_, 0, rfl, rfl, by decide, cl_lit _ (by decide)⟩
  · intro w
    go_enter Tryz.func138, Tryz.ntmps138
    go_wp2_with fail
    go_fit (kC _)
    rintro r w ⟨rfl, rfl⟩
    go_wp2_with fail
    go_fit (kD _)
    rintro r w ⟨rfl, rfl⟩
    go_wp2_with fail
    go_fit (kE _)
    rintro r w ⟨rfl, rfl⟩
    go_wp2_with fail
    go_fit (kE _)
    rintro r w ⟨rfl, rfl⟩
    go_wp2_with fail
    go_fit (kE _)
    rintro r w ⟨rfl, rfl⟩
    go_wp2_with fail
    go_fit (kF _)
    rintro r w ⟨rfl, rfl⟩
    go_wp2_with fail
    go_fit (kF _)
    rintro r w ⟨rfl, rfl⟩
    go_wp2_with fail
    go_fit (kF _)
    rintro r w ⟨rfl, rfl⟩
    go_wp2_with fail
    go_fit (kK _)
    rintro r w ⟨rfl, rfl⟩
    go_wp2
    go_ret2
    exact ⟨_, rfl, rfl, by decide, cl_lit _ (by decide)⟩
set_option maxHeartbeats 1000000 in
theorem edge7mno (y : Nat) (h : Fi y) (hs : FloatKind.f64.format.order y 0 = some .lt) (ho : odB y = true) : Edge 18442240474082181120 y (some 9223372036854775808) := by
  have kA := isNaN_any 18442240474082181120
  have kC := bad_any 18442240474082181120
  rw [show nanB 18442240474082181120 = false by decide] at kA kC
  have kX := isInf_any 18442240474082181120 (by decide)
  have kF := endless_any 18442240474082181120 (by decide)
  rw [show infB (cl 18442240474082181120) = true by decide] at kX kF
  have h1 : FloatKind.f64.format.order 18442240474082181120 0 = some .lt := by decide
  have h2 : FloatKind.f64.format.order 18442240474082181120 4607182418800017408 = some .lt := by decide
  have hy := h.1
  have kB := isNaN_any y
  have kD := bad_any y
  have kI := isInf_any y hy
  have kE := endless_any y hy
  rw [h.2.1] at kB kD
  rw [h.inf] at kI kE
  have kJ := inf1_any
  have kK := rinf1_any
  have kO := isOdd_any y h
  have kQ := odd_ref y h
  rw [ho] at kO kQ
  have kS := copysign_any 0 18442240474082181120 (by decide) (by decide)
  rw [show 0 % 9223372036854775808 + sg 18442240474082181120 = 9223372036854775808 by decide] at kS
  have kT := signed_any 0 13830554455654793216 (by decide) (by decide)
  rw [show 0 % 9223372036854775808 + sg 13830554455654793216 = 9223372036854775808 by decide] at kT
  have kP : ∀ w, Calls Tryz.prog 121 #[.float .f64 18442240474082181120, .float .f64 y] w fun r w' => r = .returned (.float .f64 9223372036854775808) ∧ w' = w := by
    intro w
    go_enter Tryz.func121, Tryz.ntmps121
    go_wp2_with fail
    go_fit (kO _)
    rintro r w ⟨rfl, rfl⟩
    go_wp2_with fail
    go_fit (kS _)
    rintro r w ⟨rfl, rfl⟩
    go_wp2
    go_ret
    exact ⟨rfl, rfl⟩
  constructor
  · intro w
    go_enter Tryz.func80, Tryz.ntmps80
    go_wp2_with fail
    go_fit (kA _)
    rintro r w ⟨rfl, rfl⟩
    go_wp2_with fail
    go_fit (kB _)
    rintro r w ⟨rfl, rfl⟩
    go_wp2_with fail
    go_fit (kI _)
    rintro r w ⟨rfl, rfl⟩
    go_wp2_with fail
    go_fit (kX _)
    rintro r w ⟨rfl, rfl⟩
    go_wp2_with fail
    go_fit (kP _)
    rintro r w ⟨rfl, rfl⟩
    go_wp2
    go_ret
    exact ⟨_, 0, rfl, rfl, by decide, cl_lit _ (by decide)⟩
  · intro w
    go_enter Tryz.func138, Tryz.ntmps138
    go_wp2_with fail
    go_fit (kC _)
    rintro r w ⟨rfl, rfl⟩
    go_wp2_with fail
    go_fit (kD _)
    rintro r w ⟨rfl, rfl⟩
    go_wp2_with fail
    go_fit (kE _)
    rintro r w ⟨rfl, rfl⟩
    go_wp2_with fail
    go_fit (kE _)
    rintro r w ⟨rfl, rfl⟩
    go_wp2_with fail
    go_fit (kE _)
    rintro r w ⟨rfl, rfl⟩
    go_wp2_with fail
    go_fit (kF _)
    rintro r w ⟨rfl, rfl⟩
    go_wp2_with fail
    go_fit (kQ _)
    rintro r w ⟨rfl, rfl⟩
    go_wp2_with fail
    go_fit (kF _)
    rintro r w ⟨rfl, rfl⟩
    go_wp2_with fail
    go_fit (kQ _)
    rintro r w ⟨rfl, rfl⟩
    go_wp2_with fail
    go_fit (kT _)
    rintro r w ⟨rfl, rfl⟩
    go_wp2
    go_ret2
    exact ⟨_, rfl, rfl, by decide, cl_lit _ (by decide)⟩
set_option maxHeartbeats 1000000 in
theorem edge7mne (y : Nat) (h : Fi y) (hs : FloatKind.f64.format.order y 0 = some .lt) (ho : odB y = false) : Edge 18442240474082181120 y (some 0) := by
  have kA := isNaN_any 18442240474082181120
  have kC := bad_any 18442240474082181120
  rw [show nanB 18442240474082181120 = false by decide] at kA kC
  have kX := isInf_any 18442240474082181120 (by decide)
  have kF := endless_any 18442240474082181120 (by decide)
  rw [show infB (cl 18442240474082181120) = true by decide] at kX kF
  have h1 : FloatKind.f64.format.order 18442240474082181120 0 = some .lt := by decide
  have h2 : FloatKind.f64.format.order 18442240474082181120 4607182418800017408 = some .lt := by decide
  have hy := h.1
  have kB := isNaN_any y
  have kD := bad_any y
  have kI := isInf_any y hy
  have kE := endless_any y hy
  rw [h.2.1] at kB kD
  rw [h.inf] at kI kE
  have kJ := inf1_any
  have kK := rinf1_any
  have kO := isOdd_any y h
  have kQ := odd_ref y h
  rw [ho] at kO kQ
  have kP : ∀ w, Calls Tryz.prog 121 #[.float .f64 18442240474082181120, .float .f64 y] w fun r w' => r = .returned (.float .f64 0) ∧ w' = w := by
    intro w
    go_enter Tryz.func121, Tryz.ntmps121
    go_wp2_with fail
    go_fit (kO _)
    rintro r w ⟨rfl, rfl⟩
    go_wp2
    go_ret
    exact ⟨rfl, rfl⟩
  constructor
  · intro w
    go_enter Tryz.func80, Tryz.ntmps80
    go_wp2_with fail
    go_fit (kA _)
    rintro r w ⟨rfl, rfl⟩
    go_wp2_with fail
    go_fit (kB _)
    rintro r w ⟨rfl, rfl⟩
    go_wp2_with fail
    go_fit (kI _)
    rintro r w ⟨rfl, rfl⟩
    go_wp2_with fail
    go_fit (kX _)
    rintro r w ⟨rfl, rfl⟩
    go_wp2_with fail
    go_fit (kP _)
    rintro r w ⟨rfl, rfl⟩
    go_wp2
    go_ret
    exact ⟨_, 0, rfl, rfl, by decide, cl_lit _ (by decide)⟩
  · intro w
    go_enter Tryz.func138, Tryz.ntmps138
    go_wp2_with fail
    go_fit (kC _)
    rintro r w ⟨rfl, rfl⟩
    go_wp2_with fail
    go_fit (kD _)
    rintro r w ⟨rfl, rfl⟩
    go_wp2_with fail
    go_fit (kE _)
    rintro r w ⟨rfl, rfl⟩
    go_wp2_with fail
    go_fit (kE _)
    rintro r w ⟨rfl, rfl⟩
    go_wp2_with fail
    go_fit (kE _)
    rintro r w ⟨rfl, rfl⟩
    go_wp2_with fail
    go_fit (kF _)
    rintro r w ⟨rfl, rfl⟩
    go_wp2_with fail
    go_fit (kQ _)
    rintro r w ⟨rfl, rfl⟩
    go_wp2_with fail
    go_fit (kF _)
    rintro r w ⟨rfl, rfl⟩
    go_wp2_with fail
    go_fit (kQ _)
    rintro r w ⟨rfl, rfl⟩
    go_wp2_with fail
    go_fit (kF _)
    rintro r w ⟨rfl, rfl⟩
    go_wp2_with fail
    go_fit (kF _)
    rintro r w ⟨rfl, rfl⟩
    go_wp2
    go_ret2
    exact ⟨_, rfl, rfl, by decide, cl_lit _ (by decide)⟩
set_option maxHeartbeats 1000000 in
theorem edge7mpo (y : Nat) (h : Fi y) (hs : FloatKind.f64.format.order y 0 = some .gt) (ho : odB y = true) : Edge 18442240474082181120 y (some 18442240474082181120) := by
  have kA := isNaN_any 18442240474082181120
  have kC := bad_any 18442240474082181120
  rw [show nanB 18442240474082181120 = false by decide] at kA kC
  have kX := isInf_any 18442240474082181120 (by decide)
  have kF := endless_any 18442240474082181120 (by decide)
  rw [show infB (cl 18442240474082181120) = true by decide] at kX kF
  have h1 : FloatKind.f64.format.order 18442240474082181120 0 = some .lt := by decide
  have h2 : FloatKind.f64.format.order 18442240474082181120 4607182418800017408 = some .lt := by decide
  have hy := h.1
  have kB := isNaN_any y
  have kD := bad_any y
  have kI := isInf_any y hy
  have kE := endless_any y hy
  rw [h.2.1] at kB kD
  rw [h.inf] at kI kE
  have kJ := inf1_any
  have kK := rinf1_any
  have kO := isOdd_any y h
  have kQ := odd_ref y h
  rw [ho] at kO kQ
  have kS := copysign_any 9218868437227405312 18442240474082181120 (by decide) (by decide)
  rw [show 9218868437227405312 % 9223372036854775808 + sg 18442240474082181120 = 18442240474082181120 by decide] at kS
  have kL := rinfm_any
  have kP : ∀ w, Calls Tryz.prog 121 #[.float .f64 18442240474082181120, .float .f64 y] w fun r w' => r = .returned (.float .f64 18442240474082181120) ∧ w' = w := by
    intro w
    go_enter Tryz.func121, Tryz.ntmps121
    go_wp2_with fail
    go_fit (kJ _)
    rintro r w ⟨rfl, rfl⟩
    go_wp2_with fail
    go_fit (kO _)
    rintro r w ⟨rfl, rfl⟩
    go_wp2_with fail
    go_fit (kS _)
    rintro r w ⟨rfl, rfl⟩
    go_wp2
    go_ret
    exact ⟨rfl, rfl⟩
  constructor
  · intro w
    go_enter Tryz.func80, Tryz.ntmps80
    go_wp2_with fail
    go_fit (kA _)
    rintro r w ⟨rfl, rfl⟩
    go_wp2_with fail
    go_fit (kB _)
    rintro r w ⟨rfl, rfl⟩
    go_wp2_with fail
    go_fit (kI _)
    rintro r w ⟨rfl, rfl⟩
    go_wp2_with fail
    go_fit (kX _)
    rintro r w ⟨rfl, rfl⟩
    go_wp2_with fail
    go_fit (kP _)
    rintro r w ⟨rfl, rfl⟩
    go_wp2
    go_ret
    exact ⟨_, 0, rfl, rfl, by decide, cl_lit _ (by decide)⟩
  · intro w
    go_enter Tryz.func138, Tryz.ntmps138
    go_wp2_with fail
    go_fit (kC _)
    rintro r w ⟨rfl, rfl⟩
    go_wp2_with fail
    go_fit (kD _)
    rintro r w ⟨rfl, rfl⟩
    go_wp2_with fail
    go_fit (kE _)
    rintro r w ⟨rfl, rfl⟩
    go_wp2_with fail
    go_fit (kE _)
    rintro r w ⟨rfl, rfl⟩
    go_wp2_with fail
    go_fit (kE _)
    rintro r w ⟨rfl, rfl⟩
    go_wp2_with fail
    go_fit (kF _)
    rintro r w ⟨rfl, rfl⟩
    go_wp2_with fail
    go_fit (kQ _)
    rintro r w ⟨rfl, rfl⟩
    go_wp2_with fail
    go_fit (kL _)
    rintro r w ⟨rfl, rfl⟩
    go_wp2
    go_ret2
    exact ⟨_, rfl, rfl, by decide, cl_lit _ (by decide)⟩
set_option maxHeartbeats 1000000 in
theorem edge7mpe (y : Nat) (h : Fi y) (hs : FloatKind.f64.format.order y 0 = some .gt) (ho : odB y = false) : Edge 18442240474082181120 y (some 9218868437227405312) := by
  have kA := isNaN_any 18442240474082181120
  have kC := bad_any 18442240474082181120
  rw [show nanB 18442240474082181120 = false by decide] at kA kC
  have kX := isInf_any 18442240474082181120 (by decide)
  have kF := endless_any 18442240474082181120 (by decide)
  rw [show infB (cl 18442240474082181120) = true by decide] at kX kF
  have h1 : FloatKind.f64.format.order 18442240474082181120 0 = some .lt := by decide
  have h2 : FloatKind.f64.format.order 18442240474082181120 4607182418800017408 = some .lt := by decide
  have hy := h.1
  have kB := isNaN_any y
  have kD := bad_any y
  have kI := isInf_any y hy
  have kE := endless_any y hy
  rw [h.2.1] at kB kD
  rw [h.inf] at kI kE
  have kJ := inf1_any
  have kK := rinf1_any
  have kO := isOdd_any y h
  have kQ := odd_ref y h
  rw [ho] at kO kQ
  have kP : ∀ w, Calls Tryz.prog 121 #[.float .f64 18442240474082181120, .float .f64 y] w fun r w' => r = .returned (.float .f64 9218868437227405312) ∧ w' = w := by
    intro w
    go_enter Tryz.func121, Tryz.ntmps121
    go_wp2_with fail
    go_fit (kJ _)
    rintro r w ⟨rfl, rfl⟩
    go_wp2_with fail
    go_fit (kO _)
    rintro r w ⟨rfl, rfl⟩
    go_wp2
    go_ret
    exact ⟨rfl, rfl⟩
  constructor
  · intro w
    go_enter Tryz.func80, Tryz.ntmps80
    go_wp2_with fail
    go_fit (kA _)
    rintro r w ⟨rfl, rfl⟩
    go_wp2_with fail
    go_fit (kB _)
    rintro r w ⟨rfl, rfl⟩
    go_wp2_with fail
    go_fit (kI _)
    rintro r w ⟨rfl, rfl⟩
    go_wp2_with fail
    go_fit (kX _)
    rintro r w ⟨rfl, rfl⟩
    go_wp2_with fail
    go_fit (kP _)
    rintro r w ⟨rfl, rfl⟩
    go_wp2
    go_ret
    exact ⟨_, 0, rfl, rfl, by decide, cl_lit _ (by decide)⟩
  · intro w
    go_enter Tryz.func138, Tryz.ntmps138
    go_wp2_with fail
    go_fit (kC _)
    rintro r w ⟨rfl, rfl⟩
    go_wp2_with fail
    go_fit (kD _)
    rintro r w ⟨rfl, rfl⟩
    go_wp2_with fail
    go_fit (kE _)
    rintro r w ⟨rfl, rfl⟩
    go_wp2_with fail
    go_fit (kE _)
    rintro r w ⟨rfl, rfl⟩
    go_wp2_with fail
    go_fit (kE _)
    rintro r w ⟨rfl, rfl⟩
    go_wp2_with fail
    go_fit (kF _)
    rintro r w ⟨rfl, rfl⟩
    go_wp2_with fail
    go_fit (kQ _)
    rintro r w ⟨rfl, rfl⟩
    go_wp2_with fail
    go_fit (kF _)
    rintro r w ⟨rfl, rfl⟩
    go_wp2_with fail
    go_fit (kQ _)
    rintro r w ⟨rfl, rfl⟩
    go_wp2_with fail
    go_fit (kF _)
    rintro r w ⟨rfl, rfl⟩
    go_wp2_with fail
    go_fit (kK _)
    rintro r w ⟨rfl, rfl⟩
    go_wp2
    go_ret2
    exact ⟨_, rfl, rfl, by decide, cl_lit _ (by decide)⟩
end Go.Proofs.YtebjklppbkkinaaGreatDoor.F
