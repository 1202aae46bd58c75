/- CalcBacks: the law's walk. -/
import Derived.Test.YtfjfpplemgjcmabVj
import Derived.Test.YtfjfpplemgjcmabYl
namespace Go.Proofs.Ytfjfpplemgjcmab
open Go.RowKit Ieee An

theorem v_m7 : V 13872740517789302784 (-700) := ⟨true, 6157265115545600, -43, by decide +kernel, by decide +kernel⟩
theorem v_p7 : V 4649368480934526976 700 := ⟨false, 6157265115545600, -43, by decide +kernel, by decide +kernel⟩
theorem inside (x : Nat) (h1 : FloatKind.f64.format.order x 13872740517789302784 ≠ some .lt) (h2 : FloatKind.f64.format.order x 4649368480934526976 ≠ some .gt) (h3 : FloatKind.f64.format.order x 13872740517789302784 ≠ none) : ∃ a, V x a ∧ Ab a 700 := by
  cases hx : Ieee.double.read x with
  | nan s f =>
    exfalso
    apply h3
    show (Ieee.double.read x).order _ = _
    rw [hx]
    rfl
  | infinity s =>
    exfalso
    obtain ⟨_, _, _, hr, _⟩ := v_m7
    obtain ⟨_, _, _, hr', _⟩ := v_p7
    cases s
    · apply h2
      show (Ieee.double.read x).order (Ieee.double.read _) = _
      rw [hx, hr']
      rfl
    · apply h1
      show (Ieee.double.read x).order (Ieee.double.read _) = _
      rw [hx, hr]
      rfl
  | number s m i =>
    have hV : V x (vl s m i) := ⟨s, m, i, hx, rfl⟩
    refine ⟨_, hV, ?_⟩
    have a1 := mt (ord_v hV v_m7).2.2 h1
    have a2 := mt (ord_v hV v_p7).1.2 h2
    constructor <;> grind

set_option maxHeartbeats 1000000 in
set_option maxRecDepth 100000 in
theorem outside_walk (x : Nat) (w : World) (h : FloatKind.f64.format.order x 13872740517789302784 = none ∨ FloatKind.f64.format.order x 13872740517789302784 = some .lt ∨ ((FloatKind.f64.format.order x 13872740517789302784 = some .eq ∨ FloatKind.f64.format.order x 13872740517789302784 = some .gt) ∧ (FloatKind.f64.format.order x 4649368480934526976 = none ∨ FloatKind.f64.format.order x 4649368480934526976 = some .gt))) : Calls Try.prog 4 #[.float .f64 x] w fun r w' => r = .returned (.bool true) ∧ Below w.heap.size w w' := by
  have k0 := exp_any 0
  rw [exp0] at k0
  have h11 : FloatKind.f64.format.order 4607182418800017408 4607182418800017408 = some .eq := by decide +kernel
  rcases h with h1 | h1 | ⟨h1 | h1, h2 | h2⟩ <;> (
    go_enter Try.func4, Try.ntmps4
    go_wp2_with fail
    go_fit (k0 _)
    rintro r _ ⟨z, n0, rfl, rfl, _, hz⟩
    obtain ⟨rfl, _⟩ := cl_some hz
    clear hz
    go_wp2
    go_ret
    exact ⟨rfl, below_drewN (Below.refl _ _) _⟩)

set_option maxHeartbeats 1000000 in
set_option maxRecDepth 100000 in
theorem inside_walk (x : Nat) (hx : x < 18446744073709551616) (w : World) (a : Rat) (hV : V x a) (h7 : Ab a 700) (h1 : FloatKind.f64.format.order x 13872740517789302784 = some .eq ∨ FloatKind.f64.format.order x 13872740517789302784 = some .gt) (h2 : FloatKind.f64.format.order x 4649368480934526976 = some .eq ∨ FloatKind.f64.format.order x 4649368480934526976 = some .lt) : Calls Try.prog 4 #[.float .f64 x] w fun r w' => r = .returned (.bool true) ∧ Below w.heap.size w w' := by
  obtain ⟨y, mw, z, d, g1, g2, e, b1, b2, b3, b4, b5, b6, b7, b8, b9, n1, n2, n3⟩ := back_v hV h7
  have k1 := exp_any x
  rw [b1] at k1
  have k2 := ln_val y mw e b2 b3 b4
  rw [b5] at k2
  have k3 := abs_any d (fb_lt (op := .sub) (x := z) (y := x) b6)
  have k4 := abs_any x hx
  have r1 : ∀ t w, (binOp .sub t (.float .f64 z) (.float .f64 x)).run Try.prog w = .ok (.float .f64 d) w := fun t w => run_float_arith w .sub t .f64 _ _ _ b6
  have r2 : ∀ t w, (binOp .add t (.float .f64 4607182418800017408) (.float .f64 (x % 9223372036854775808))).run Try.prog w = .ok (.float .f64 g1) w := fun t w => run_float_arith w .add t .f64 _ _ _ b7
  have r3 : ∀ t w, (binOp .mul t (.float .f64 4412443251819771522) (.float .f64 g1)).run Try.prog w = .ok (.float .f64 g2) w := fun t w => run_float_arith w .mul t .f64 _ _ _ b8
  have hp := pos_gt y b2 b3
  have hd : FloatKind.f64.format.order (d % 9223372036854775808) g2 = some .lt ∨ FloatKind.f64.format.order (d % 9223372036854775808) g2 = some .eq := by
    have hn : FloatKind.f64.format.order (d % 9223372036854775808) g2 ≠ none := by
      show (Ieee.double.read _).order (Ieee.double.read _) ≠ none
      have e1 : nanB (d % 9223372036854775808) = false := by
        rw [nanB_eq] at n1 ⊢
        rw [show (2 : Nat) ^ 63 = 9223372036854775808 by decide, Nat.mod_mod] at *
        exact n1
      unfold nanB at e1 n3
      revert e1 n3
      cases Ieee.double.read (d % 9223372036854775808) <;> cases Ieee.double.read g2 <;> simp [Datum.isNaN, Datum.order]
    cases ho : FloatKind.f64.format.order (d % 9223372036854775808) g2 with
    | none => exact absurd ho hn
    | some o =>
      cases o with
      | lt => exact .inl rfl
      | eq => exact .inr rfl
      | gt => exact absurd ho b9
  have HP : Hid (Prt y mw e) := b4
  clear b1 b4 b5 b6 b7 b8 b9 n1 n2 n3 hV h7
  rcases h1 with h1 | h1 <;> rcases h2 with h2 | h2 <;> rcases hd with hd | hd <;> (
    go_enter Try.func4, Try.ntmps4
    go_wp2_with fail
    go_fit (k1 _)
    rintro r _ ⟨y', m0, rfl, rfl, _, hz⟩
    obtain ⟨rfl, _⟩ := cl_some hz
    clear hz
    go_wp2_with fail
    go_fit (k2 _)
    rintro r _ ⟨z', m1, rfl, rfl, _, hz⟩
    obtain ⟨rfl, _⟩ := cl_some hz
    clear hz
    go_wp2_with fail
    go_fit (k3 _)
    rintro r _ ⟨rfl, rfl⟩
    go_wp2_with fail
    go_fit (k4 _)
    rintro r _ ⟨rfl, rfl⟩
    go_wp2
    go_ret
    refine ⟨rfl, ?_⟩
    repeat refine below_drewN ?_ _
    exact Below.refl _ _)
theorem backs_walk (x : Nat) (hx : x < 18446744073709551616) (w : World) : Calls Try.prog 4 #[.float .f64 x] w fun r w' => r = .returned (.bool true) ∧ Below w.heap.size w w' := by
  cases h1 : FloatKind.f64.format.order x 13872740517789302784 with
  | none => exact outside_walk x w (.inl h1)
  | some o1 =>
    cases o1 with
    | lt => exact outside_walk x w (.inr (.inl h1))
    | eq =>
      cases h2 : FloatKind.f64.format.order x 4649368480934526976 with
      | none => exact outside_walk x w (.inr (.inr ⟨.inl h1, .inl h2⟩))
      | some o2 =>
        cases o2 with
        | gt => exact outside_walk x w (.inr (.inr ⟨.inl h1, .inr h2⟩))
        | lt =>
          obtain ⟨a, hV, h7⟩ := inside x (by rw [h1]; decide) (by rw [h2]; decide) (by rw [h1]; decide)
          exact inside_walk x hx w a hV h7 (.inl h1) (.inr h2)
        | eq =>
          obtain ⟨a, hV, h7⟩ := inside x (by rw [h1]; decide) (by rw [h2]; decide) (by rw [h1]; decide)
          exact inside_walk x hx w a hV h7 (.inl h1) (.inl h2)
    | gt =>
      cases h2 : FloatKind.f64.format.order x 4649368480934526976 with
      | none => exact outside_walk x w (.inr (.inr ⟨.inr h1, .inl h2⟩))
      | some o2 =>
        cases o2 with
        | gt => exact outside_walk x w (.inr (.inr ⟨.inr h1, .inr h2⟩))
        | lt =>
          obtain ⟨a, hV, h7⟩ := inside x (by rw [h1]; decide) (by rw [h2]; decide) (by rw [h1]; decide)
          exact inside_walk x hx w a hV h7 (.inr h1) (.inr h2)
        | eq =>
          obtain ⟨a, hV, h7⟩ := inside x (by rw [h1]; decide) (by rw [h2]; decide) (by rw [h1]; decide)
          exact inside_walk x hx w a hV h7 (.inr h1) (.inl h2)
end Go.Proofs.Ytfjfpplemgjcmab
