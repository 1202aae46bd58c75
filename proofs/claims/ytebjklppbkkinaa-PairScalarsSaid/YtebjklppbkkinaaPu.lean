/- The parts of a float, on both sides. -/
import Derived.Test.YtebjklppbkkinaaPt
import Derived.Test.YtebjklppbkkinaaEy
namespace Go.Proofs.Ytebjklppbkkinaa
open Go.RowKit Ieee

set_option maxHeartbeats 400000 in
theorem nbits_any (x : Nat) (h : nanB x = false) (w : World) : Calls Try.prog 72 #[.float .f64 x] w fun r w' => r = .returned (.int .u64 (x : Int)) ∧ w' = w := by
  have k1 := isNaN_any x
  rw [h] at k1
  have k2 := callBits x
  go_enter Try.func72, Try.ntmps72
  go_wp2_with fail
  go_fit (k1 _)
  rintro r w ⟨rfl, rfl⟩
  go_wp2
  go_ret
  exact ⟨rfl, rfl⟩
theorem pos_num (x : Nat) (h : x < 0x7ff0000000000000) : nanB x = false := by
  obtain ⟨m, i, hr, _⟩ := read_pos x h
  unfold nanB
  rw [hr]; rfl
theorem and_low (y u F : Nat) (hy : y = u * 2 ^ 52 + F) (hF : F < 2 ^ 52) (hu : u < 2048) : bits .and .u64 (y : Int) 4503599627370495 = (F : Int) := by
  have h := u64_and_nat y 4503599627370495 (by omega) (by decide)
  rw [show ((4503599627370495 : Nat) : Int) = 4503599627370495 from rfl] at h
  rw [h]
  have e : y &&& 4503599627370495 = y % 2 ^ 52 := Nat.and_two_pow_sub_one_eq_mod y 52
  rw [e]
  omega
theorem or_high (F : Nat) (hF : F < 2 ^ 52) : bits .or .u64 (F : Int) 4602678819172646912 = ((4602678819172646912 + F : Nat) : Int) := by
  have h := u64_or_nat F 4602678819172646912 (by omega) (by decide)
  rw [show ((4602678819172646912 : Nat) : Int) = 4602678819172646912 from rfl] at h
  rw [h]
  have e : F ||| 4602678819172646912 = 4602678819172646912 + F := by
    rw [Nat.or_comm]
    have := Nat.two_pow_add_eq_or_of_lt (i := 52) (b := F) hF 1022
    rw [show (2 : Nat) ^ 52 * 1022 = 4602678819172646912 from rfl] at this
    exact this.symm
  rw [e]

theorem p2_1 : p2 1 = 4611686018427387904 := by decide
theorem p2_54 : p2 54 = 4850376798678024192 := by decide
/-- What holds of a word's head and tail. -/
theorem parts_arith (M : Nat) (Q : Int) (y : Nat) (h1 : 2 ^ 52 ≤ M) (h2 : M < 2 ^ 53) (hQ : -1074 ≤ Q) (hQ2 : Q ≤ 971) (hy : y = Ieee.double.nearest false M Q) :
    y < 0x7ff0000000000000 ∧ (y : Int) / 4503599627370496 = Q + 1075 ∧ bits .and .u64 (y : Int) 4503599627370495 = ((M - 2 ^ 52 : Nat) : Int) ∧ bits .or .u64 ((M - 2 ^ 52 : Nat) : Int) 4602678819172646912 = ((Ieee.double.nearest false M (-53) : Nat) : Int) := by
  rw [near_norm M Q h1 h2 hQ hQ2] at hy
  obtain ⟨u, hu⟩ : ∃ u : Nat, (Q + 1075).toNat = u := ⟨_, rfl⟩
  rw [hu] at hy
  refine ⟨by omega, by omega, and_low y u _ hy (by omega) (by omega), ?_⟩
  rw [or_high _ (by omega), near_norm M (-53) h1 h2 (by decide) (by decide)]
  congr 1
set_option maxHeartbeats 1000000 in
theorem parts_sub (x M : Nat) (P : Int) (hx : x < 0x7ff0000000000000) (h : Nm x M P) (hs : x < 4503599627370496) (hP : P < -1074) : ∀ w, Calls Try.prog 64 #[.float .f64 x] w fun r w' => r = .returned (.tuple #[.float .f64 (Ieee.double.nearest false M (qs M)), .float .f64 (iw (P - qs M))]) ∧ w' = w := by
  intro w
  have kL := fromBits_any 4503599627370496
  have kH := fromBits_any 4604544271217802189
  have hcn := cvN
  have h1 := h.1
  have h2 := h.2.1
  have hxo := pos_order x 4503599627370496 hx (by decide)
  rw [Nat.compare_eq_lt.2 hs] at hxo
  have hPlo := h.2.2.2.1
  obtain ⟨m, i, hr, hm0, hm53, hi, hnear⟩ := h.near
  have hmul : ∀ t w, (binOp .mul t (.float .f64 x) (.float .f64 (p2 54))).run Try.prog w = .ok (.float .f64 (Ieee.double.nearest false M (P + 54))) w := fun t w => by
    refine run_float_arith w .mul t .f64 _ _ _ ?_
    rw [mul_p2 x false m i 54 hr (by decide) (by decide), hnear 54]
  have kP := power_any 54 (by decide) (by decide)
  generalize p2 54 = PP at *
  obtain ⟨y, hy⟩ : ∃ y, y = Ieee.double.nearest false M (P + 54) := ⟨_, rfl⟩
  obtain ⟨hyl, hd, hand, hor⟩ := parts_arith M (P + 54) y h1 h2 (by omega) (by omega) hy
  rw [← hy] at hmul
  have kB := nbits_any y (pos_num y hyl)
  have kM := fun w => fromBits_any ((Ieee.double.nearest false M (-53) : Nat) : Int) w
  rw [Int.toNat_natCast] at kM
  generalize ((M - 2 ^ 52 : Nat) : Int) = F at *
  clear hnear hr h hy hs
  obtain ⟨T, hT⟩ : ∃ T, P + 54 + 1075 = T := ⟨_, rfl⟩
  rw [hT] at hd
  by_cases hlt : (-53 : Int) < qs M
  · have hq : qs M = -52 := by unfold qs at hlt ⊢; split at hlt <;> simp_all
    rw [hq]
    have ho : FloatKind.f64.format.order (Ieee.double.nearest false M (-53)) 4604544271217802189 = some .lt := by rw [pos_order _ _ (half_cmp M (-53) h1 h2 (by decide)).2.2 (by decide), Nat.compare_eq_lt.2 ((half_cmp M (-53) h1 h2 (by decide)).1.2 hlt)]
    have hm2 : ∀ t w, (binOp .mul t (.float .f64 (Ieee.double.nearest false M (-53))) (.float .f64 4611686018427387904)).run Try.prog w = .ok (.float .f64 (Ieee.double.nearest false M (-52))) w := fun t w => by
      refine run_float_arith w .mul t .f64 _ _ _ ?_
      rw [← p2_1]
      exact mul_near false M (-53) 1 h2 (by decide) (.inl (by decide)) (by decide) (by decide)
    clear hlt hq
    generalize Ieee.double.nearest false M (-53) = Z at *
    generalize Ieee.double.nearest false M (-52) = Z2 at *
    go_enter Try.func64, Try.ntmps64
    go_wp2_with fail
    go_fit (kL _)
    rintro r w ⟨rfl, rfl⟩
    go_wp2_with fail
    go_fit (kP _)
    rintro r w ⟨rfl, rfl⟩
    go_wp2_with fail
    go_fit (kB _)
    rintro r w ⟨rfl, rfl⟩
    go_wp2_with fail
    go_fit (kM _)
    rintro r w ⟨rfl, rfl⟩
    go_wp2_with fail
    go_fit (kH _)
    rintro r w ⟨rfl, rfl⟩
    go_wp2
    go_ret2
    refine ⟨congrArg (fun z => Ending.returned (.tuple #[.float .f64 _, .float .f64 (iw z)])) ?_, rfl⟩
    omega
  · have hq : qs M = -53 := by unfold qs at hlt ⊢; split at hlt <;> simp_all
    rw [hq]
    have ho : (FloatKind.f64.format.order (Ieee.double.nearest false M (-53)) 4604544271217802189 == some .lt) = false := by
      have hge := (half_cmp M (-53) h1 h2 (by decide)).1
      rw [hq] at hge
      rw [pos_order _ _ (half_cmp M (-53) h1 h2 (by decide)).2.2 (by decide)]
      refine beq_eq_false_iff_ne.2 fun h => ?_
      have := hge.1 (Nat.compare_eq_lt.1 (Option.some.inj h))
      omega
    clear hlt hq
    generalize Ieee.double.nearest false M (-53) = Z at *
    go_enter Try.func64, Try.ntmps64
    go_wp2_with fail
    go_fit (kL _)
    rintro r w ⟨rfl, rfl⟩
    go_wp2_with fail
    go_fit (kP _)
    rintro r w ⟨rfl, rfl⟩
    go_wp2_with fail
    go_fit (kB _)
    rintro r w ⟨rfl, rfl⟩
    go_wp2_with fail
    go_fit (kM _)
    rintro r w ⟨rfl, rfl⟩
    go_wp2_with fail
    go_fit (kH _)
    rintro r w ⟨rfl, rfl⟩
    go_wp2
    go_ret2
    refine ⟨congrArg (fun z => Ending.returned (.tuple #[.float .f64 _, .float .f64 (iw z)])) ?_, rfl⟩
    omega
set_option maxHeartbeats 1000000 in
theorem parts_norm (x M : Nat) (P : Int) (hx : x < 0x7ff0000000000000) (h : Nm x M P) (hs : ¬ x < 4503599627370496) (hP : -1074 ≤ P) (hy : x = Ieee.double.nearest false M P) : ∀ w, Calls Try.prog 64 #[.float .f64 x] w fun r w' => r = .returned (.tuple #[.float .f64 (Ieee.double.nearest false M (qs M)), .float .f64 (iw (P - qs M))]) ∧ w' = w := by
  intro w
  have kL := fromBits_any 4503599627370496
  have kH := fromBits_any 4604544271217802189
  have hcn := cvN
  have h1 := h.1
  have h2 := h.2.1
  have hxo := pos_order x 4503599627370496 hx (by decide)
  have hxo' : (FloatKind.f64.format.order x 4503599627370496 == some .lt) = false := by
    rw [hxo]
    refine beq_eq_false_iff_ne.2 fun h => ?_
    exact hs (Nat.compare_eq_lt.1 (Option.some.inj h))
  clear hxo
  obtain ⟨hyl, hd, hand, hor⟩ := parts_arith M P x h1 h2 hP h.2.2.1 hy
  have kB := nbits_any x (pos_num x hyl)
  have kM := fun w => fromBits_any ((Ieee.double.nearest false M (-53) : Nat) : Int) w
  rw [Int.toNat_natCast] at kM
  generalize ((M - 2 ^ 52 : Nat) : Int) = F at *
  have hPhi := h.2.2.1
  clear h hy hs
  obtain ⟨T, hT⟩ : ∃ T, P + 1075 = T := ⟨_, rfl⟩
  rw [hT] at hd
  by_cases hlt : (-53 : Int) < qs M
  · have hq : qs M = -52 := by unfold qs at hlt ⊢; split at hlt <;> simp_all
    rw [hq]
    have ho : FloatKind.f64.format.order (Ieee.double.nearest false M (-53)) 4604544271217802189 = some .lt := by rw [pos_order _ _ (half_cmp M (-53) h1 h2 (by decide)).2.2 (by decide), Nat.compare_eq_lt.2 ((half_cmp M (-53) h1 h2 (by decide)).1.2 hlt)]
    have hm2 : ∀ t w, (binOp .mul t (.float .f64 (Ieee.double.nearest false M (-53))) (.float .f64 4611686018427387904)).run Try.prog w = .ok (.float .f64 (Ieee.double.nearest false M (-52))) w := fun t w => by
      refine run_float_arith w .mul t .f64 _ _ _ ?_
      rw [← p2_1]
      exact mul_near false M (-53) 1 h2 (by decide) (.inl (by decide)) (by decide) (by decide)
    clear hlt hq
    generalize Ieee.double.nearest false M (-53) = Z at *
    generalize Ieee.double.nearest false M (-52) = Z2 at *
    go_enter Try.func64, Try.ntmps64
    go_wp2_with fail
    go_fit (kL _)
    rintro r w ⟨rfl, rfl⟩
    go_wp2_with fail
    go_fit (kB _)
    rintro r w ⟨rfl, rfl⟩
    go_wp2_with fail
    go_fit (kM _)
    rintro r w ⟨rfl, rfl⟩
    go_wp2_with fail
    go_fit (kH _)
    rintro r w ⟨rfl, rfl⟩
    go_wp2
    go_ret2
    refine ⟨congrArg (fun z => Ending.returned (.tuple #[.float .f64 _, .float .f64 (iw z)])) ?_, rfl⟩
    omega
  · have hq : qs M = -53 := by unfold qs at hlt ⊢; split at hlt <;> simp_all
    rw [hq]
    have ho : (FloatKind.f64.format.order (Ieee.double.nearest false M (-53)) 4604544271217802189 == some .lt) = false := by
      have hge := (half_cmp M (-53) h1 h2 (by decide)).1
      rw [hq] at hge
      rw [pos_order _ _ (half_cmp M (-53) h1 h2 (by decide)).2.2 (by decide)]
      refine beq_eq_false_iff_ne.2 fun h => ?_
      have := hge.1 (Nat.compare_eq_lt.1 (Option.some.inj h))
      omega
    clear hlt hq
    generalize Ieee.double.nearest false M (-53) = Z at *
    go_enter Try.func64, Try.ntmps64
    go_wp2_with fail
    go_fit (kL _)
    rintro r w ⟨rfl, rfl⟩
    go_wp2_with fail
    go_fit (kB _)
    rintro r w ⟨rfl, rfl⟩
    go_wp2_with fail
    go_fit (kM _)
    rintro r w ⟨rfl, rfl⟩
    go_wp2_with fail
    go_fit (kH _)
    rintro r w ⟨rfl, rfl⟩
    go_wp2
    go_ret2
    refine ⟨congrArg (fun z => Ending.returned (.tuple #[.float .f64 _, .float .f64 (iw z)])) ?_, rfl⟩
    omega
end Go.Proofs.Ytebjklppbkkinaa
