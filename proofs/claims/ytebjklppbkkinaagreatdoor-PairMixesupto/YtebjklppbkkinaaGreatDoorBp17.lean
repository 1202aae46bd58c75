/- A bundle of texts. -/
import Derived.Test.YtebjklppbkkinaaGreatDoorBp14
import Derived.Test.YtebjklppbkkinaaGreatDoorBp16
/- The parts of a float, on both sides. -/
namespace Go.Proofs.YtebjklppbkkinaaGreatDoor.F
open Go.RowKit Ieee

set_option maxHeartbeats 400000 in
theorem nbits_any (x : Nat) (h : nanB x = false) (w : World) : Calls Tryz.prog 204 #[.float .f64 x] w fun r w' => r = .returned (.int .u64 (x : Int)) ∧ w' = w := by
  have k1 := isNaN_any x
  rw [h] at k1
  have k2 := callBits x
  go_enter Tryz.func204, Tryz.ntmps204
  go_wp2_with fail
  go_fit (k1 _)
  rintro r w ⟨rfl, rfl⟩
  go_wp2
  go_ret
  exact ⟨rfl, rfl⟩
theorem pos_num (x : Nat) (h : x < 0x7ff0000000000000) : nanB x = false := by
  obtain ⟨m, i, hr, _⟩ := read_pos x h
  unfold nanB
  rw [hr]; rfl
theorem and_low (y u F : Nat) (hy : y = u * 2 ^ 52 + F) (hF : F < 2 ^ 52) (hu : u < 2048) : bits .and .u64 (y : Int) 4503599627370495 = (F : Int) := by
  have h := u64_and_nat y 4503599627370495 (by omega) (by decide)
  rw [show ((4503599627370495 : Nat) : Int) = 4503599627370495 from rfl] at h
  rw [h]
  have e : y &&& 4503599627370495 = y % 2 ^ 52 := Nat.and_two_pow_sub_one_eq_mod y 52
  rw [e]
  omega
theorem or_high (F : Nat) (hF : F < 2 ^ 52) : bits .or .u64 (F : Int) 4602678819172646912 = ((4602678819172646912 + F : Nat) : Int) := by
  have h := u64_or_nat F 4602678819172646912 (by omega) (by decide)
  rw [show ((4602678819172646912 : Nat) : Int) = 4602678819172646912 from rfl] at h
  rw [h]
  have e : F ||| 4602678819172646912 = 4602678819172646912 + F := by
    rw [Nat.or_comm]
    have := Nat.two_pow_add_eq_or_of_lt (i := 52) (b := F) hF 1022
    rw [show (2 : Nat) ^ 52 * 1022 = 4602678819172646912 from rfl] at this
    exact this.symm
  rw [e]

theorem p2_1 : p2 1 = 4611686018427387904 := by decide
theorem p2_54 : p2 54 = 4850376798678024192 := by decide
/-- What holds of a word's head and tail. -/
theorem parts_arith (M : Nat) (Q : Int) (y : Nat) (h1 : 2 ^ 52 ≤ M) (h2 : M < 2 ^ 53) (hQ : -1074 ≤ Q) (hQ2 : Q ≤ 971) (hy : y = Ieee.double.nearest false M Q) :
    y < 0x7ff0000000000000 ∧ (y : Int) / 4503599627370496 = Q + 1075 ∧ bits .and .u64 (y : Int) 4503599627370495 = ((M - 2 ^ 52 : Nat) : Int) ∧ bits .or .u64 ((M - 2 ^ 52 : Nat) : Int) 4602678819172646912 = ((Ieee.double.nearest false M (-53) : Nat) : Int) := by
  rw [near_norm M Q h1 h2 hQ hQ2] at hy
  obtain ⟨u, hu⟩ : ∃ u : Nat, (Q + 1075).toNat = u := ⟨_, rfl⟩
  rw [hu] at hy
  refine ⟨by omega, by omega, and_low y u _ hy (by omega) (by omega), ?_⟩
  rw [or_high _ (by omega), near_norm M (-53) h1 h2 (by decide) (by decide)]
  congr 1
set_option maxHeartbeats 1000000 in
theorem parts_sub (x M : Nat) (P : Int) (hx : x < 0x7ff0000000000000) (h : Nm x M P) (hs : x < 4503599627370496) (hP : P < -1074) : ∀ w, Calls Tryz.prog 168 #[.float .f64 x] w fun r w' => r = .returned (.tuple #[.float .f64 (Ieee.double.nearest false M (qs M)), .float .f64 (iw (P - qs M))]) ∧ w' = w := by
  intro w
  have kL := fromBits_any 4503599627370496
  have kH := fromBits_any 4604544271217802189
  have hcn := cvN
  have h1 := h.1
  have h2 := h.2.1
  have hxo := pos_order x 4503599627370496 hx (by decide)
  rw [Nat.compare_eq_lt.2 hs] at hxo
  have hPlo := h.2.2.2.1
  obtain ⟨m, i, hr, hm0, hm53, hi, hnear⟩ := h.near
  have hmul : ∀ t w, (binOp .mul t (.float .f64 x) (.float .f64 (p2 54))).run Tryz.prog w = .ok (.float .f64 (Ieee.double.nearest false M (P + 54))) w := fun t w => by
    refine run_float_arith w .mul t .f64 _ _ _ ?_
    rw [mul_p2 x false m i 54 hr (by decide) (by decide), hnear 54]
  have kP := power_any 54 (by decide) (by decide)
  generalize p2 54 = PP at *
  obtain ⟨y, hy⟩ : ∃ y, y = Ieee.double.nearest false M (P + 54) := ⟨_, rfl⟩
  obtain ⟨hyl, hd, hand, hor⟩ := parts_arith M (P + 54) y h1 h2 (by omega) (by omega) hy
  rw [← hy] at hmul
  have kB := nbits_any y (pos_num y hyl)
  have kM := fun w => fromBits_any ((Ieee.double.nearest false M (-53) : Nat) : Int) w
  rw [Int.toNat_natCast] at kM
  generalize ((M - 2 ^ 52 : Nat) : Int) = F at *
  clear hnear hr h hy hs
  obtain ⟨T, hT⟩ : ∃ T, P + 54 + 1075 = T := ⟨_, rfl⟩
  rw [hT] at hd
  by_cases hlt : (-53 : Int) < qs M
  · have hq : qs M = -52 := by unfold qs at hlt ⊢; split at hlt <;> simp_all
    rw [hq]
    have ho : FloatKind.f64.format.order (Ieee.double.nearest false M (-53)) 4604544271217802189 = some .lt := by rw [pos_order _ _ (half_cmp M (-53) h1 h2 (by decide)).2.2 (by decide), Nat.compare_eq_lt.2 ((half_cmp M (-53) h1 h2 (by decide)).1.2 hlt)]
    have hm2 : ∀ t w, (binOp .mul t (.float .f64 (Ieee.double.nearest false M (-53))) (.float .f64 4611686018427387904)).run Tryz.prog w = .ok (.float .f64 (Ieee.double.nearest false M (-52))) w := fun t w => by
      refine run_float_arith w .mul t .f64 _ _ _ ?_
      rw [← p2_1]
      exact mul_near false M (-53) 1 h2 (by decide) (.inl (by decide)) (by decide) (by decide)
    clear hlt hq
    generalize Ieee.double.nearest false M (-53) = Z at *
    generalize Ieee.double.nearest false M (-52) = Z2 at *
    go_enter Tryz.func168, Tryz.ntmps168
    go_wp2_with fail
    go_fit (kL _)
    rintro r w ⟨rfl, rfl⟩
    go_wp2_with fail
    go_fit (kP _)
    rintro r w ⟨rfl, rfl⟩
    go_wp2_with fail
    go_fit (kB _)
    rintro r w ⟨rfl, rfl⟩
    go_wp2_with fail
    go_fit (kM _)
    rintro r w ⟨rfl, rfl⟩
    go_wp2_with fail
    go_fit (kH _)
    rintro r w ⟨rfl, rfl⟩
    go_wp2
    go_ret2
    refine ⟨congrArg (fun z => Ending.returned (.tuple #[.float .f64 _, .float .f64 (iw z)])) ?_, rfl⟩
    omega
  · have hq : qs M = -53 := by unfold qs at hlt ⊢; split at hlt <;> simp_all
    rw [hq]
    have ho : (FloatKind.f64.format.order (Ieee.double.nearest false M (-53)) 4604544271217802189 == some .lt) = false := by
      have hge := (half_cmp M (-53) h1 h2 (by decide)).1
      rw [hq] at hge
      rw [pos_order _ _ (half_cmp M (-53) h1 h2 (by decide)).2.2 (by decide)]
      refine beq_eq_false_iff_ne.2 fun h => ?_
      have := hge.1 (Nat.compare_eq_lt.1 (Option.some.inj h))
      omega
    clear hlt hq
    generalize Ieee.double.nearest false M (-53) = Z at *
    go_enter Tryz.func168, Tryz.ntmps168
    go_wp2_with fail
    go_fit (kL _)
    rintro r w ⟨rfl, rfl⟩
    go_wp2_with fail
    go_fit (kP _)
    rintro r w ⟨rfl, rfl⟩
    go_wp2_with fail
    go_fit (kB _)
    rintro r w ⟨rfl, rfl⟩
    go_wp2_with fail
    go_fit (kM _)
    rintro r w ⟨rfl, rfl⟩
    go_wp2_with fail
    go_fit (kH _)
    rintro r w ⟨rfl, rfl⟩
    go_wp2
    go_ret2
    refine ⟨congrArg (fun z => Ending.returned (.tuple #[.float .f64 _, .float .f64 (iw z)])) ?_, rfl⟩
    omega
set_option maxHeartbeats 1000000 in
theorem parts_norm (x M : Nat) (P : Int) (hx : x < 0x7ff0000000000000) (h : Nm x M P) (hs : ¬ x < 4503599627370496) (hP : -1074 ≤ P) (hy : x = Ieee.double.nearest false M P) : ∀ w, Calls Tryz.prog 168 #[.float .f64 x] w fun r w' => r = .returned (.tuple #[.float .f64 (Ieee.double.nearest false M (qs M)), .float .f64 (iw (P - qs M))]) ∧ w' = w := by
  intro w
  have kL := fromBits_any 4503599627370496
  have kH := fromBits_any 4604544271217802189
  have hcn := cvN
  have h1 := h.1
  have h2 := h.2.1
  have hxo := pos_order x 4503599627370496 hx (by decide)
  have hxo' : (FloatKind.f64.format.order x 4503599627370496 == some .lt) = false := by
    rw [hxo]
    refine beq_eq_false_iff_ne.2 fun h => ?_
    exact hs (Nat.compare_eq_lt.1 (Option.some.inj h))
  clear hxo
  obtain ⟨hyl, hd, hand, hor⟩ := parts_arith M P x h1 h2 hP h.2.2.1 hy
  have kB := nbits_any x (pos_num x hyl)
  have kM := fun w => fromBits_any ((Ieee.double.nearest false M (-53) : Nat) : Int) w
  rw [Int.toNat_natCast] at kM
  generalize ((M - 2 ^ 52 : Nat) : Int) = F at *
  have hPhi := h.2.2.1
  clear h hy hs
  obtain ⟨T, hT⟩ : ∃ T, P + 1075 = T := ⟨_, rfl⟩
  rw [hT] at hd
  by_cases hlt : (-53 : Int) < qs M
  · have hq : qs M = -52 := by unfold qs at hlt ⊢; split at hlt <;> simp_all
    rw [hq]
    have ho : FloatKind.f64.format.order (Ieee.double.nearest false M (-53)) 4604544271217802189 = some .lt := by rw [pos_order _ _ (half_cmp M (-53) h1 h2 (by decide)).2.2 (by decide), Nat.compare_eq_lt.2 ((half_cmp M (-53) h1 h2 (by decide)).1.2 hlt)]
    have hm2 : ∀ t w, (binOp .mul t (.float .f64 (Ieee.double.nearest false M (-53))) (.float .f64 4611686018427387904)).run Tryz.prog w = .ok (.float .f64 (Ieee.double.nearest false M (-52))) w := fun t w => by
      refine run_float_arith w .mul t .f64 _ _ _ ?_
      rw [← p2_1]
      exact mul_near false M (-53) 1 h2 (by decide) (.inl (by decide)) (by decide) (by decide)
    clear hlt hq
    generalize Ieee.double.nearest false M (-53) = Z at *
    generalize Ieee.double.nearest false M (-52) = Z2 at *
    go_enter Tryz.func168, Tryz.ntmps168
    go_wp2_with fail
    go_fit (kL _)
    rintro r w ⟨rfl, rfl⟩
    go_wp2_with fail
    go_fit (kB _)
    rintro r w ⟨rfl, rfl⟩
    go_wp2_with fail
    go_fit (kM _)
    rintro r w ⟨rfl, rfl⟩
    go_wp2_with fail
    go_fit (kH _)
    rintro r w ⟨rfl, rfl⟩
    go_wp2
    go_ret2
    refine ⟨congrArg (fun z => Ending.returned (.tuple #[.float .f64 _, .float .f64 (iw z)])) ?_, rfl⟩
    omega
  · have hq : qs M = -53 := by unfold qs at hlt ⊢; split at hlt <;> simp_all
    rw [hq]
    have ho : (FloatKind.f64.format.order (Ieee.double.nearest false M (-53)) 4604544271217802189 == some .lt) = false := by
      have hge := (half_cmp M (-53) h1 h2 (by decide)).1
      rw [hq] at hge
      rw [pos_order _ _ (half_cmp M (-53) h1 h2 (by decide)).2.2 (by decide)]
      refine beq_eq_false_iff_ne.2 fun h => ?_
      have := hge.1 (Nat.compare_eq_lt.1 (Option.some.inj h))
      omega
    clear hlt hq
    generalize Ieee.double.nearest false M (-53) = Z at *
    go_enter Tryz.func168, Tryz.ntmps168
    go_wp2_with fail
    go_fit (kL _)
    rintro r w ⟨rfl, rfl⟩
    go_wp2_with fail
    go_fit (kB _)
    rintro r w ⟨rfl, rfl⟩
    go_wp2_with fail
    go_fit (kM _)
    rintro r w ⟨rfl, rfl⟩
    go_wp2_with fail
    go_fit (kH _)
    rintro r w ⟨rfl, rfl⟩
    go_wp2
    go_ret2
    refine ⟨congrArg (fun z => Ending.returned (.tuple #[.float .f64 _, .float .f64 (iw z)])) ?_, rfl⟩
    omega
end Go.Proofs.YtebjklppbkkinaaGreatDoor.F
/- The reference's parts of a float. -/
namespace Go.Proofs.YtebjklppbkkinaaGreatDoor.F
open Go.RowKit Ieee

theorem two_half : floatBits .mul .f64 4611686018427387904 4604544271217802189 = some 4609047870845172685 := by decide +kernel
/-- A number's word out of its parts. -/
theorem near_back (x m : Nat) (i : Int) (hx : x < 0x7ff0000000000000) (hr : Ieee.double.read x = .number false m i) (h0 : m ≠ 0) : Ieee.double.nearest false m i = x := by
  obtain ⟨hi, hm⟩ := read_place x false m i hr
  have hx2 : x % 2 ^ 63 = x := Nat.mod_eq_of_lt (by omega)
  have htop : i ≤ 971 := by
    obtain ⟨s', m', i', hr', hle⟩ := read_top x (by rw [hx2]; exact hx)
    rw [hr] at hr'
    cases hr'
    exact hle
  have hlog : m.log2 ≤ 52 := by
    have := (Nat.log2_lt h0).2 hm
    omega
  obtain ⟨k, hk, hr2, hlt⟩ := read_near false m i h0 hm hi (by omega)
  have e1 := read_uv x _ _ _ hr
  have e2 := read_uv _ _ _ _ hr2
  have hy : Ieee.double.nearest false m i % 2 ^ 63 = Ieee.double.nearest false m i := by
    rw [nearest_rung _ _ _ h0, word_pos] at hlt ⊢
    have hle : rung m i ≤ 0x7ff0000000000000 := by rw [rung_eq]; exact Nat.min_le_right _ _
    exact Nat.mod_eq_of_lt (by omega)
  rw [hy] at e2 hlt
  rw [hx2] at e1
  have e3 : m <<< k * 2 ^ (i - (k : Int) + 1074).toNat = m * 2 ^ (i + 1074).toNat := by
    rw [Nat.shiftLeft_eq, Nat.mul_assoc, ← Nat.pow_add]
    congr 2
    omega
  rw [e3, e1] at e2
  rcases Nat.lt_trichotomy (Ieee.double.nearest false m i) x with h | h | h
  · have := uv_strict _ _ h; omega
  · exact h
  · have := uv_strict _ _ h; omega
set_option maxHeartbeats 1000000 in
theorem rparts_any (x M : Nat) (P : Int) (hx : x < 0x7ff0000000000000) (h : Nm x M P) (w : World) : Calls Tryz.prog 179 #[.float .f64 x] w fun r w' => r = .returned (.tuple #[.float .f64 (Ieee.double.nearest false M (qs M)), .int .i64 (P - qs M)]) ∧ w' = w := by
  have kH := rhalf_any
  have h1 := h.1
  have h2 := h.2.1
  have hP1 := h.2.2.1
  have hP2 := h.2.2.2.1
  obtain ⟨m, i, hr, hm0, hm53, hi, hnear⟩ := h.near
  have hx0 : x = Ieee.double.nearest false M P := by
    have := hnear 0
    rw [Int.add_zero, Int.add_zero, near_back x m i hx hr hm0] at this
    exact this
  have hqb : qs M = -52 ∨ qs M = -53 := by unfold qs; split <;> simp
  have hHf : Hid (∀ Q, Q ≤ 971 → (Ieee.double.nearest false M Q < 4604544271217802189 ↔ Q < qs M) ∧ (Ieee.double.nearest false M Q < 4609047870845172685 ↔ Q < qs M + 1) ∧ Ieee.double.nearest false M Q < 0x7ff0000000000000) := fun Q hQ => half_cmp M Q h1 h2 hQ
  have hUp : Hid (∀ j : Int, 0 ≤ j → floatBits .mul .f64 (Ieee.double.nearest false M (P + j)) 4611686018427387904 = some (Ieee.double.nearest false M (P + (j + 1)))) := fun j hj => by
    rw [← hnear j, ← hnear (j + 1), ← p2_1]
    have := mul_near false m (i + j) 1 hm53 (by omega) (.inl (by decide)) (by decide) (by decide)
    rw [this]
    congr 2
    omega
  have hDn : Hid (∀ Q : Int, -1000 ≤ Q → Q ≤ 971 → floatBits .quo .f64 (Ieee.double.nearest false M Q) 4611686018427387904 = some (Ieee.double.nearest false M (Q - 1))) := fun Q hQ hQ2 => by
    obtain ⟨k, hk, hr2, _⟩ := read_near false M Q (by omega) h2 (by omega) (by rw [log2_52 M h1 h2]; omega)
    rw [quo_two _ _ _ _ hr2 (read_place _ _ _ _ hr2).2, nearest_shift]
    congr 2
    omega
  clear hnear hr h
  generalize hN : Ieee.double.nearest false M = N at *
  clear hN
  generalize hq : qs M = q at *
  clear hq
  have hM2 : ∀ t w, (binOp .mul t (.float .f64 4611686018427387904) (.float .f64 4604544271217802189)).run Tryz.prog w = .ok (.float .f64 4609047870845172685) w := fun t w => run_float_arith w .mul t .f64 _ _ _ two_half
  have HX : Hid (x = N P) := hx0
  clear hx0
  go_enter Tryz.func179, Tryz.ntmps179
  go_wp2
  go_loopw [0, 4] (fun zv ev w' => ∃ (j : Int), zv = .float .f64 (N (P + j)) ∧ ev = .int .i64 (-j) ∧ w' = w ∧ 0 ≤ j ∧ (j = 0 ∨ P + j ≤ q)) (fun _ ev _ => (q - P + RowKit.intOf ev).toNat)
  case atStart => exact ⟨0, by rw [Int.add_zero, ← HX.out], rfl, rfl, by omega, .inl rfl⟩
  case round =>
    obtain ⟨j, rfl, rfl, rfl, hj0, hj⟩ := hrel
    have hc := hHf.out (P + j) (by omega)
    have ho := pos_order (N (P + j)) 4604544271217802189 hc.2.2 (by decide)
    by_cases hlt : P + j < q
    · rw [Nat.compare_eq_lt.2 (hc.1.2 hlt)] at ho
      have hmm : ∀ t w, (binOp .mul t (.float .f64 (N (P + j))) (.float .f64 4611686018427387904)).run Tryz.prog w = .ok (.float .f64 (N (P + (j + 1)))) w := fun t w => run_float_arith w .mul t .f64 _ _ _ (hUp.out j hj0)
      clear hc
      generalize N (P + j) = Z at *
      go_wp2_with fail
      go_fit (kH _)
      rintro r w ⟨rfl, rfl⟩
      go_wp2
      refine ⟨⟨j + 1, rfl, by congr 1; omega, trivial, by omega, by omega⟩, by simp [RowKit.intOf]; omega⟩
    · have ho' : (FloatKind.f64.format.order (N (P + j)) 4604544271217802189 == some .lt) = false := by
        rw [ho]
        refine beq_eq_false_iff_ne.2 fun h => hlt ?_
        exact hc.1.1 (Nat.compare_eq_lt.1 (Option.some.inj h))
      clear ho
      have hjj : -1200 ≤ P + j ∧ P + j ≤ 971 ∧ q ≤ P + j := by omega
      clear hc
      obtain ⟨Z, hZ⟩ : ∃ Z, Z = N (P + j) := ⟨_, rfl⟩
      rw [← hZ] at ho'
      have HZ : Hid (Z = N (P + j)) := hZ
      rw [← hZ]
      clear hZ
      go_wp2_with fail
      go_fit (kH _)
      rintro r w ⟨rfl, rfl⟩
      go_wp2
      go_loopw [0, 4] (fun zv ev w' => ∃ (Q : Int), zv = .float .f64 (N Q) ∧ ev = .int .i64 (P - Q) ∧ w' = w ∧ q ≤ Q ∧ Q ≤ 971) (fun _ ev _ => (P - RowKit.intOf ev - q).toNat)
      case atStart => exact ⟨P + j, by rw [HZ.out], by congr 1; omega, rfl, by omega, by omega⟩
      case round =>
        obtain ⟨Q, rfl, rfl, rfl, hQ1, hQ2⟩ := hrel
        have hc := hHf.out Q (by omega)
        have ho := pos_order (N Q) 4609047870845172685 hc.2.2 (by decide)
        by_cases hge : Q = q
        · subst hge
          rw [Nat.compare_eq_lt.2 (hc.2.1.2 (by omega))] at ho
          clear hc
          obtain ⟨Y, hY⟩ : ∃ Y, N Q = Y := ⟨_, rfl⟩
          have HY : Hid (N Q = Y) := hY
          rw [hY] at ho ⊢
          clear hY
          go_wp2_with fail
          go_fit (kH _)
          rintro r w ⟨rfl, rfl⟩
          go_wp2
          go_ret2
          exact ⟨by rw [HY.out]; rfl, rfl⟩
        · have hnl : ¬ N Q < 4609047870845172685 := fun h => by have := hc.2.1.1 h; omega
          have hmm : ∀ t w, (binOp .quo t (.float .f64 (N Q)) (.float .f64 4611686018427387904)).run Tryz.prog w = .ok (.float .f64 (N (Q - 1))) w := fun t w => run_float_arith w .quo t .f64 _ _ _ (hDn.out Q (by omega) (by omega))
          have hoo : compare (N Q) 4609047870845172685 = .gt ∨ compare (N Q) 4609047870845172685 = .eq := by
            rcases Nat.lt_trichotomy (N Q) 4609047870845172685 with h | h | h
            · exact absurd h hnl
            · exact .inr (Nat.compare_eq_eq.2 h)
            · exact .inl (Nat.compare_eq_gt.2 h)
          clear hc hnl
          rcases hoo with hoo | hoo <;>
          · rw [hoo] at ho
            clear hoo
            generalize N Q = Z at *
            go_wp2_with fail
            go_fit (kH _)
            rintro r w ⟨rfl, rfl⟩
            go_wp2
            refine ⟨⟨Q - 1, rfl, by congr 1; omega, trivial, by omega, by omega⟩, by simp [RowKit.intOf]; omega⟩
end Go.Proofs.YtebjklppbkkinaaGreatDoor.F
/- The series of the logarithm, on both sides. -/
namespace Go.Proofs.YtebjklppbkkinaaGreatDoor.F
open Go.RowKit Ieee

/-- The series: behind n of its twelve steps. -/
def lnP (z : Option Nat) : Nat → Option Nat
  | 0 => some 0
  | n + 1 => fb .mul z (fb .add (fb .quo (some 4607182418800017408) (some (iw (2 * (12 - (n : Int)) + 1)))) (lnP z n))
def lnT (m : Option Nat) : Option Nat := fb .sub m (some 4607182418800017408)
def lnS (m : Option Nat) : Option Nat := fb .quo (lnT m) (fb .add (some 4611686018427387904) (lnT m))
def lnF (m : Option Nat) : Option Nat := fb .add (fb .mul (some 4611686018427387904) (lnS m)) (fb .mul (fb .mul (some 4611686018427387904) (lnS m)) (lnP (fb .mul (lnS m) (lnS m)) 12))

set_option maxHeartbeats 1000000 in
set_option maxRecDepth 100000 in
theorem ln1_any (m : Nat) (w : World) : Calls Tryz.prog 169 #[.float .f64 m] w (RF w (lnF (cl m))) := by
  have ha := @run_fadd Tryz.prog
  have hs := @run_fsub Tryz.prog
  have hm := @run_fmul Tryz.prog
  have hq := @run_fquo Tryz.prog
  have hcn := cvN
  obtain ⟨X, hX⟩ : ∃ X, X = lnP (fb .mul (lnS (cl m)) (lnS (cl m))) := ⟨_, rfl⟩
  have X0 : Hid (X 0 = some 0) := by show _ = _; rw [hX]; rfl
  have XS : Hid (∀ n, X (n + 1) = fb .mul (fb .mul (lnS (cl m)) (lnS (cl m))) (fb .add (fb .quo (some 4607182418800017408) (some (iw (2 * (12 - (n : Int)) + 1)))) (X n))) := fun n => by rw [hX]; rfl
  have HX : Hid _ := hX
  clear hX
  go_enter Tryz.func169, Tryz.ntmps169
  go_wp2
  go_loopw [6, 7] (fun pv iv w' => ∃ (j p k : Nat), iv = .int .i64 (12 - (j : Int)) ∧ j ≤ 12 ∧ pv = .float .f64 p ∧ p < 18446744073709551616 ∧ Hid (cl p = X j) ∧ w' = w.drewN k) (fun _ iv _ => (RowKit.intOf iv).toNat)
  case atStart => exact ⟨0, _, _, rfl, by omega, rfl, by decide, by show _ = _; rw [X0.out]; exact cl_lit _ (by decide), rfl⟩
  case round =>
    obtain ⟨j, p, k, rfl, hj, rfl, hpl, hst, rfl⟩ := hrel
    by_cases hlt : j < 12
    · have hii : (1 : Int) ≤ 12 - (j : Int) := by omega
      go_wp2
      refine ⟨⟨j + 1, _, _, by go_num, by omega, rfl, fz_lt _ _ _ _, ?_, rfl⟩, by simp [RowKit.intOf]; omega⟩
      show _ = _
      rw [XS.out]
      simp only [cl_fz]
      rw [cl_lit 4607182418800017408 (by decide), cl_lit 4611686018427387904 (by decide), hst.out, iw_num]
      rfl
    · have hii : ¬ (1 : Int) ≤ 12 - (j : Int) := by omega
      obtain rfl : j = 12 := by omega
      go_wp2
      go_ret
      refine ⟨_, _, rfl, rfl, fz_lt _ _ _ _, ?_⟩
      simp only [cl_fz]
      rw [cl_lit 4607182418800017408 (by decide), cl_lit 4611686018427387904 (by decide), hst.out, HX.out]
      rfl

set_option maxHeartbeats 1000000 in
set_option maxRecDepth 100000 in
theorem rseries_any (m : Nat) (w : World) : Calls Tryz.prog 180 #[.float .f64 m] w (RF w (lnF (cl m))) := by
  have ha := @run_fadd Tryz.prog
  have hs := @run_fsub Tryz.prog
  have hm := @run_fmul Tryz.prog
  have hq := @run_fquo Tryz.prog
  have hcn := cvN
  obtain ⟨X, hX⟩ : ∃ X, X = lnP (fb .mul (lnS (cl m)) (lnS (cl m))) := ⟨_, rfl⟩
  have X0 : Hid (X 0 = some 0) := by show _ = _; rw [hX]; rfl
  have XS : Hid (∀ n, X (n + 1) = fb .mul (fb .mul (lnS (cl m)) (lnS (cl m))) (fb .add (fb .quo (some 4607182418800017408) (some (iw (2 * (12 - (n : Int)) + 1)))) (X n))) := fun n => by rw [hX]; rfl
  have HX : Hid _ := hX
  clear hX
  go_enter Tryz.func180, Tryz.ntmps180
  go_wp2
  go_loopw [6, 7] (fun pv iv w' => ∃ (j p k : Nat), iv = .int .i64 (12 - (j : Int)) ∧ j ≤ 12 ∧ pv = .float .f64 p ∧ p < 18446744073709551616 ∧ Hid (cl p = X j) ∧ w' = w.drewN k) (fun _ iv _ => (RowKit.intOf iv).toNat)
  case atStart => exact ⟨0, _, _, rfl, by omega, rfl, by decide, by show _ = _; rw [X0.out]; exact cl_lit _ (by decide), rfl⟩
  case round =>
    obtain ⟨j, p, k, rfl, hj, rfl, hpl, hst, rfl⟩ := hrel
    by_cases hlt : j < 12
    · have hii : (1 : Int) ≤ 12 - (j : Int) := by omega
      go_wp2
      refine ⟨⟨j + 1, _, _, by go_num, by omega, rfl, fz_lt _ _ _ _, ?_, rfl⟩, by simp [RowKit.intOf]; omega⟩
      show _ = _
      rw [XS.out]
      simp only [cl_fz]
      rw [cl_lit 4607182418800017408 (by decide), cl_lit 4611686018427387904 (by decide), hst.out, iw_num]
      rfl
    · have hii : ¬ (1 : Int) ≤ 12 - (j : Int) := by omega
      obtain rfl : j = 12 := by omega
      go_wp2
      go_ret
      refine ⟨_, _, rfl, rfl, fz_lt _ _ _ _, ?_⟩
      simp only [cl_fz]
      rw [cl_lit 4607182418800017408 (by decide), cl_lit 4611686018427387904 (by decide), hst.out, HX.out]
      rfl
end Go.Proofs.YtebjklppbkkinaaGreatDoor.F
/- The logarithms, on both sides. -/
namespace Go.Proofs.YtebjklppbkkinaaGreatDoor.F
open Go.RowKit Ieee

/-- What has no parts, and its logarithm. -/
def End (x : Nat) (c : Option Nat) : Prop := (nanB x = true ∧ c = none) ∨ (nanB x = false ∧ FloatKind.f64.format.order x 0 = some .lt ∧ c = none) ∨ (nanB x = false ∧ FloatKind.f64.format.order x 0 = some .eq ∧ c = some 18442240474082181120) ∨ (x = 9218868437227405312 ∧ c = some 9218868437227405312)
theorem rd0 : Ieee.double.read 0 = .number false 0 (-1074) := by decide
theorem ends_or (x : Nat) (hx : x < 18446744073709551616) : (∃ c, End x c) ∨ (x ≠ 0 ∧ x < 0x7ff0000000000000) := by
  cases hn : nanB x with
  | true => exact .inl ⟨none, .inl ⟨hn, rfl⟩⟩
  | false =>
    by_cases h1 : x < 2 ^ 63
    · by_cases h0 : x = 0
      · subst h0
        exact .inl ⟨_, .inr (.inr (.inl ⟨hn, by decide, rfl⟩))⟩
      · by_cases h2 : x < 0x7ff0000000000000
        · exact .inr ⟨h0, h2⟩
        · by_cases h3 : x = 9218868437227405312
          · exact .inl ⟨_, .inr (.inr (.inr ⟨h3, rfl⟩))⟩
          · exfalso
            have hi : Ieee.double.infRung = 0x7ff0000000000000 := by decide
            have hb : Ieee.double.binade = 2 ^ 52 := rfl
            have hsw : Ieee.double.signWeight = 2 ^ 63 := rfl
            unfold nanB Format.read at hn
            simp only [hi, hsw, hb] at hn
            rw [Nat.mod_eq_of_lt h1, if_neg (by omega), if_neg (by omega), if_neg (by omega)] at hn
            cases hn
    · left
      by_cases h0 : x = 9223372036854775808
      · subst h0
        exact ⟨_, .inr (.inr (.inl ⟨hn, by decide, rfl⟩))⟩
      · refine ⟨none, .inr (.inl ⟨hn, ?_, rfl⟩)⟩
        have e : FloatKind.f64.format.order x 0 = (Ieee.double.read x).order (Ieee.double.read 0) := rfl
        have hneg : (x / 2 ^ 63 % 2 == 1) = true := by
          have : x / 2 ^ 63 = 1 := by omega
          rw [this]; rfl
        cases hr : Ieee.double.read x with
        | nan s f => unfold nanB at hn; rw [hr] at hn; cases hn
        | infinity s =>
          have hs : s = true := by
            have hsw : Ieee.double.signWeight = 2 ^ 63 := rfl
            have hr' := hr
            unfold Format.read at hr'
            simp only [hsw, hneg] at hr'
            split at hr'
            · cases hr'
            · split at hr'
              · cases hr'
              · split at hr' <;> cases hr'
                rfl
          rw [e, hr, rd0, hs]; rfl
        | number s m i =>
          have hs : s = true := by
            have hsw : Ieee.double.signWeight = 2 ^ 63 := rfl
            have hr' := hr
            unfold Format.read at hr'
            simp only [hsw, hneg] at hr'
            split at hr'
            · cases hr'; rfl
            · split at hr'
              · cases hr'; rfl
              · split at hr' <;> cases hr'
          subst hs
          refine (ord_bd x 0 true m i false 0 (-1074) hr rd0).2.2 ?_
          have hu := read_uv x _ m i hr
          have hpos : uv 0 < uv (x % 2 ^ 63) := uv_strict _ _ (by omega)
          have h00 : uv 0 = 0 := rfl
          have z0 : un false 0 (-1074) = 0 := by unfold un; rw [signed_eq, Nat.zero_mul]; rfl
          rw [z0]
          unfold un
          rw [signed_eq, if_pos rfl, hu]
          omega
theorem pos_gt (x : Nat) (h0 : x ≠ 0) (hx : x < 0x7ff0000000000000) : FloatKind.f64.format.order x 0 = some .gt := by
  rw [pos_order x 0 hx (by decide), Nat.compare_eq_gt.2 (by omega)]
theorem ord_nan0 (x : Nat) (h : nanB x = true) : FloatKind.f64.format.order x 0 = none := by
  rw [fo_cl, cl_nan h]; rfl
theorem infB_pos (x : Nat) (hx : x < 0x7ff0000000000000) : infB (cl x) = false := by
  unfold infB
  have hn := pos_num x hx
  rw [cl_num hn]
  have e : fo (ab (some x)) (some 9218868437227405311) = FloatKind.f64.format.order x 9218868437227405311 := by
    rw [fo_cl, cl_num hn, cl_lit 9218868437227405311 (by decide)]
    have e2 := cl_ab x
    rw [cl_num hn, Nat.mod_eq_of_lt (show x < 9223372036854775808 by omega), cl_num hn] at e2
    rw [← e2]
  rw [e, pos_order x _ hx (by decide)]
  refine beq_eq_false_iff_ne.2 fun h => ?_
  have := Nat.compare_eq_gt.1 (Option.some.inj h)
  omega

set_option maxHeartbeats 400000 in
theorem hasParts_yes (x : Nat) (h0 : x ≠ 0) (hx : x < 0x7ff0000000000000) (w : World) : Calls Tryz.prog 166 #[.float .f64 x] w fun r w' => r = .returned (.bool true) ∧ w' = w := by
  have k1 := isInf_any x (by omega)
  rw [infB_pos x hx] at k1
  have ho := pos_gt x h0 hx
  go_enter Tryz.func166, Tryz.ntmps166
  go_wp2_with fail
  go_fit (k1 _)
  rintro r w ⟨rfl, rfl⟩
  go_wp2
  go_ret
  exact ⟨rfl, rfl⟩
set_option maxHeartbeats 400000 in
theorem hasParts_no (x : Nat) (c : Option Nat) (h : End x c) (w : World) : Calls Tryz.prog 166 #[.float .f64 x] w fun r w' => r = .returned (.bool false) ∧ w' = w := by
  rcases h with ⟨hn, -⟩ | ⟨-, ho, -⟩ | ⟨-, ho, -⟩ | ⟨rfl, -⟩
  · have ho := ord_nan0 x hn
    go_enter Tryz.func166, Tryz.ntmps166
    go_wp2
    go_ret
    exact ⟨rfl, rfl⟩
  · go_enter Tryz.func166, Tryz.ntmps166
    go_wp2
    go_ret
    exact ⟨rfl, rfl⟩
  · go_enter Tryz.func166, Tryz.ntmps166
    go_wp2
    go_ret
    exact ⟨rfl, rfl⟩
  · have k1 := isInf_any 9218868437227405312 (by decide)
    rw [show infB (cl 9218868437227405312) = true by decide] at k1
    have ho : FloatKind.f64.format.order 9218868437227405312 0 = some .gt := by decide
    go_enter Tryz.func166, Tryz.ntmps166
    go_wp2_with fail
    go_fit (k1 _)
    rintro r w ⟨rfl, rfl⟩
    go_wp2
    go_ret
    exact ⟨rfl, rfl⟩
set_option maxHeartbeats 400000 in
theorem logOfEnd_any (x : Nat) (c : Option Nat) (h : End x c) (w : World) : Calls Tryz.prog 167 #[.float .f64 x] w (RF w c) := by
  have kN := nan_any
  have kI := infm_any
  rcases h with ⟨hn, rfl⟩ | ⟨-, ho, rfl⟩ | ⟨-, ho, rfl⟩ | ⟨rfl, rfl⟩
  · have ho := ord_nan0 x hn
    go_enter Tryz.func167, Tryz.ntmps167
    go_wp2_with fail
    go_fit (kN _)
    rintro r w ⟨rfl, rfl⟩
    go_wp2
    go_ret
    exact ⟨_, 0, rfl, rfl, by decide, cl_theNaN⟩
  · go_enter Tryz.func167, Tryz.ntmps167
    go_wp2_with fail
    go_fit (kN _)
    rintro r w ⟨rfl, rfl⟩
    go_wp2
    go_ret
    exact ⟨_, 0, rfl, rfl, by decide, cl_theNaN⟩
  · go_enter Tryz.func167, Tryz.ntmps167
    go_wp2_with fail
    go_fit (kI _)
    rintro r w ⟨rfl, rfl⟩
    go_wp2
    go_ret
    exact ⟨_, 0, rfl, rfl, by decide, cl_lit _ (by decide)⟩
  · have ho : FloatKind.f64.format.order 9218868437227405312 0 = some .gt := by decide
    go_enter Tryz.func167, Tryz.ntmps167
    go_wp2
    go_ret
    exact ⟨_, 0, rfl, rfl, by decide, cl_lit _ (by decide)⟩
set_option maxHeartbeats 400000 in
theorem special_no (x : Nat) (c : Option Nat) (h : End x c) (w : World) : Calls Tryz.prog 178 #[.float .f64 x] w fun r w' => ∃ z, r = .returned (.tuple #[.float .f64 z, .bool true]) ∧ w' = w ∧ z < 18446744073709551616 ∧ cl z = c := by
  have kN := rnan_any
  have kI := rinfm_any
  have kP := rinf1_any
  have kB := bad_any x
  rcases h with ⟨hn, rfl⟩ | ⟨hn, ho, rfl⟩ | ⟨hn, ho, rfl⟩ | ⟨rfl, rfl⟩
  · rw [hn] at kB
    go_enter Tryz.func178, Tryz.ntmps178
    go_wp2_with fail
    go_fit (kB _)
    rintro r w ⟨rfl, rfl⟩
    go_wp2_with fail
    go_fit (kN _)
    rintro r w ⟨rfl, rfl⟩
    go_wp2
    go_ret2
    exact ⟨_, rfl, rfl, by decide, cl_theNaN⟩
  · rw [hn] at kB
    go_enter Tryz.func178, Tryz.ntmps178
    go_wp2_with fail
    go_fit (kB _)
    rintro r w ⟨rfl, rfl⟩
    go_wp2_with fail
    go_fit (kN _)
    rintro r w ⟨rfl, rfl⟩
    go_wp2
    go_ret2
    exact ⟨_, rfl, rfl, by decide, cl_theNaN⟩
  · rw [hn] at kB
    go_enter Tryz.func178, Tryz.ntmps178
    go_wp2_with fail
    go_fit (kB _)
    rintro r w ⟨rfl, rfl⟩
    go_wp2_with fail
    go_fit (kI _)
    rintro r w ⟨rfl, rfl⟩
    go_wp2
    go_ret2
    exact ⟨_, rfl, rfl, by decide, cl_lit _ (by decide)⟩
  · rw [show nanB 9218868437227405312 = false by decide] at kB
    have k1 := endless_any 9218868437227405312 (by decide)
    rw [show infB (cl 9218868437227405312) = true by decide] at k1
    have ho : FloatKind.f64.format.order 9218868437227405312 0 = some .gt := by decide
    go_enter Tryz.func178, Tryz.ntmps178
    go_wp2_with fail
    go_fit (kB _)
    rintro r w ⟨rfl, rfl⟩
    go_wp2_with fail
    go_fit (k1 _)
    rintro r w ⟨rfl, rfl⟩
    go_wp2_with fail
    go_fit (kP _)
    rintro r w ⟨rfl, rfl⟩
    go_wp2
    go_ret2
    exact ⟨_, rfl, rfl, by decide, cl_lit _ (by decide)⟩
set_option maxHeartbeats 400000 in
theorem special_yes (x : Nat) (h0 : x ≠ 0) (hx : x < 0x7ff0000000000000) (w : World) : Calls Tryz.prog 178 #[.float .f64 x] w fun r w' => r = .returned (.tuple #[.float .f64 0, .bool false]) ∧ w' = w := by
  have kB := bad_any x
  rw [pos_num x hx] at kB
  have k1 := endless_any x (by omega)
  rw [infB_pos x hx] at k1
  have ho := pos_gt x h0 hx
  go_enter Tryz.func178, Tryz.ntmps178
  go_wp2_with fail
  go_fit (kB _)
  rintro r w ⟨rfl, rfl⟩
  go_wp2_with fail
  go_fit (k1 _)
  rintro r w ⟨rfl, rfl⟩
  go_wp2
  go_ret2
  exact ⟨rfl, rfl⟩
end Go.Proofs.YtebjklppbkkinaaGreatDoor.F
