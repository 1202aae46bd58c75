/- A bundle of texts. -/
import Derived.Test.YtebjklppbkkinaaGreatDoorBp18
/- math.Mod: the loop. -/
namespace Go.Proofs.YtebjklppbkkinaaGreatDoor.F
open Go.RowKit Ieee

/-- What one round needs of a number r that y goes into. -/
def Rd (y M : Nat) (P : Int) (r : Nat) : Prop := ∃ (N : Nat) (Q : Int) (k : Nat), r ≠ 0 ∧ r < 0x7ff0000000000000 ∧ (∀ w, Calls Tryz.prog 199 #[.float .f64 r] w fun e w' => e = .returned (.tuple #[.float .f64 (Ieee.double.nearest false N (-53)), .int .i64 (Q + 53)]) ∧ w' = w) ∧ (N < M ↔ Ieee.double.nearest false N (-53) < Ieee.double.nearest false M (-53)) ∧
  (if N < M then Q - P - 1 else Q - P) = (k : Int) ∧ -1126 ≤ Q ∧ Q ≤ 971 ∧ Ieee.double.nearest false N (-53) < 0x7ff0000000000000 ∧ (∀ w, Calls Tryz.prog 200 #[.float .f64 y, .int .i64 (k : Int)] w fun e w' => e = .returned (.float .f64 (vw (uv y * 2 ^ k))) ∧ w' = w) ∧
  ∃ z, floatBits .sub .f64 r (vw (uv y * 2 ^ k)) = some z ∧ z < r ∧ uv z % uv y = uv r % uv y
theorem rd_ex (y M : Nat) (P : Int) (r : Nat) (h0 : y ≠ 0) (hy : y < 0x7ff0000000000000) (hN : Nz y M P) (hr : r < 0x7ff0000000000000) (hle : y ≤ r) : Rd y M P r := by
  have hr0 : r ≠ 0 := by omega
  obtain ⟨N, Q, hNr⟩ := nz_ex r hr0 hr
  obtain ⟨k, hk, hg1, hg2⟩ := goes r y N M Q P hr hy hNr.1 hN.1 hle
  have hM1 := hN.1.1
  have hM2 := hN.1.2.1
  have hN1 := hNr.1.1
  have hN2 := hNr.1.2.1
  have hQ1 := hNr.1.2.2.1
  have hQ2 := hNr.1.2.2.2.1
  have hP2 := hN.1.2.2.2.1
  have hPk : P + k ≤ Q := by
    have hkk : kk N M Q P = k := hk
    unfold kk at hkk
    split at hkk <;> omega
  have e2 := nm_scaled y M P hy hN.1
  have hYk : Rp (uv y * 2 ^ k) := by
    by_cases hc : -1074 ≤ P + k
    · refine ⟨M, (P + k + 1074).toNat, ?_, hM2, by omega⟩
      refine Nat.eq_of_mul_eq_mul_right (show 0 < 2 ^ 52 by decide) ?_
      rw [Nat.mul_right_comm, e2, Nat.mul_assoc, Nat.mul_assoc, ← Nat.pow_add, ← Nat.pow_add]
      congr 2
      omega
    · refine ⟨uv y, k, rfl, ?_, by omega⟩
      refine Nat.lt_of_mul_lt_mul_right (a := 2 ^ 52) ?_
      rw [e2]
      calc M * 2 ^ (P + 1126).toNat < 2 ^ 53 * 2 ^ (P + 1126).toNat := Nat.mul_lt_mul_of_pos_right hM2 (Nat.two_pow_pos _)
        _ ≤ 2 ^ 53 * 2 ^ 52 := Nat.mul_le_mul_left _ (Nat.pow_le_pow_right (by decide) (by omega))
  obtain ⟨hv1, hv2⟩ := vw_ok _ hYk
  have hvr : vw (uv y * 2 ^ k) ≤ r := (uv_le_iff _ _).1 (by rw [hv2]; exact hg1)
  have hsub := sub_words r (vw (uv y * 2 ^ k)) hr hvr
  rw [hv2] at hsub
  have hex := sub_exact r (vw (uv y * 2 ^ k)) hr hvr (by rw [hv2]; exact hg2)
  rw [hv2] at hex
  obtain ⟨hz1, hz2⟩ := vw_ok _ hex
  have hpos : 0 < uv y * 2 ^ k := Nat.mul_pos (Nat.pos_of_ne_zero (uv_zero y h0)) (Nat.two_pow_pos _)
  have hn1 := near_norm N (-53) hN1 hN2 (by decide) (by decide)
  have hn2 := near_norm M (-53) hM1 hM2 (by decide) (by decide)
  refine ⟨N, Q, k, hr0, hr, frexp_any r N Q hr0 hr hNr, ?_, hk, hQ2, hQ1, by rw [hn1]; omega, ldexp_any y M P k h0 hy hN (by omega), _, hsub, ?_, ?_⟩
  · rw [hn1, hn2]; omega
  · refine Decidable.byContradiction fun hc => ?_
    have := uv_mono r (vw (uv r - uv y * 2 ^ k)) (by omega)
    omega
  · rw [hz2]
    exact round_mod _ _ _ hg1
/-- The loop ends at the remainder. -/
theorem md_end (y r X : Nat) (hr : r < 0x7ff0000000000000) (hlt : r < y) (h : uv r % uv y = X % uv y) : r = vw (X % uv y) := by
  have h2 := uv_strict r y hlt
  rw [← h, Nat.mod_eq_of_lt h2, vw_uv r hr]
set_option maxRecDepth 100000 in
set_option maxHeartbeats 2000000 in
theorem mod_pos (x y y0 : Nat) (hx0 : x ≠ 0) (hx : x < 0x7ff0000000000000) (h0 : y ≠ 0) (hy : y < 0x7ff0000000000000) (hy0 : y0 < 18446744073709551616) (hyn : nanB y0 = false) (hyy : y0 % 9223372036854775808 = y) (w : World) :
    Calls Tryz.prog 161 #[.float .f64 x, .float .f64 y0] w fun r w' => r = .returned (.float .f64 (vw (uv x % uv y))) ∧ w' = w := by
  obtain ⟨M, P, hN⟩ := nz_ex y h0 hy
  have kF := frexp_any y M P h0 hy hN
  have kA := abs_any y0 hy0
  rw [hyy] at kA
  have kI := isInf_any x (by omega)
  rw [infB_pos x hx] at kI
  have kX := isNaN_any x
  rw [pos_num x hx] at kX
  have kY := isNaN_any y0
  rw [hyn] at kY
  have he : (FloatKind.f64.format.order y0 0 == some .eq) = false := by
    rw [ord0 y0 hy0 hyn, if_neg (by omega)]
    split <;> rfl
  have hxo : (FloatKind.f64.format.order x 0 == some .lt) = false := by rw [pos_gt x hx0 hx]; rfl
  have hR : Hid (∀ r, r < 0x7ff0000000000000 → y ≤ r → Rd y M P r) := fun r hr hle => rd_ex y M P r h0 hy hN hr hle
  have hE : Hid (∀ r, r < 0x7ff0000000000000 → r < y → uv r % uv y = uv x % uv y → r = vw (uv x % uv y)) := fun r hr hlt h => md_end y r _ hr hlt h
  have hP1 := hN.1.2.2.1
  have hP2 := hN.1.2.2.2.1
  have hb2 : Ieee.double.nearest false M (-53) < 0x7ff0000000000000 := by
    rw [near_norm M (-53) hN.1.1 hN.1.2.1 (by decide) (by decide)]
    have := hN.1.2.1
    omega
  clear hN
  generalize hZ : Ieee.double.nearest false M (-53) = Z at kF hb2
  generalize hV : vw (uv x % uv y) = V at *
  go_enter Tryz.func161, Tryz.ntmps161
  go_wp2_with fail
  go_fit (kI _)
  rintro r w ⟨rfl, rfl⟩
  go_wp2_with fail
  go_fit (kX _)
  rintro r w ⟨rfl, rfl⟩
  go_wp2_with fail
  go_fit (kY _)
  rintro r w ⟨rfl, rfl⟩
  go_wp2_with fail
  go_fit (kA _)
  rintro r w ⟨rfl, rfl⟩
  go_wp2_with fail
  go_fit (kF _)
  rintro r w ⟨rfl, rfl⟩
  go_wp2
  go_loopw [7] (fun rv w' => ∃ r, rv = .float .f64 r ∧ w' = w ∧ r < 0x7ff0000000000000 ∧ Hid (uv r % uv y = uv x % uv y)) (fun rv _ => match rv with | .float _ r => r | _ => 0)
  case atStart => exact ⟨x, rfl, rfl, hx, rfl⟩
  case round =>
    obtain ⟨r, rfl, rfl, hr, HM⟩ := hrel
    have ho := pos_order r y hr hy
    by_cases hle : y ≤ r
    · obtain ⟨N, Q, k, hr0, -, kFr, hcmp, hk, hQ1, hQ2, hNb, kL, z, hz, hzr, hzm⟩ := hR.out r hr hle
      have hzr' : ∀ t w, (binOp .sub t (.float .f64 r) (.float .f64 (vw (uv y * 2 ^ k)))).run Tryz.prog w = .ok (.float .f64 z) w := fun t w => run_float_arith w .sub t .f64 _ _ _ hz
      generalize vw (uv y * 2 ^ k) = L at *
      have hN2 : N < M ∨ ¬ N < M := Decidable.em _
      have HZ : Hid (uv z % uv y = uv x % uv y) := hzm.trans HM.out
      have hb1 : Ieee.double.nearest false N (-53) < 0x7ff0000000000000 := hNb
      have ho2 := pos_order (Ieee.double.nearest false N (-53)) Z hb1 hb2
      rw [hZ] at hcmp
      generalize Ieee.double.nearest false N (-53) = ZN at *
      have hge : FloatKind.f64.format.order r y = some .gt ∨ FloatKind.f64.format.order r y = some .eq := by
        rw [ho]
        rcases Nat.lt_or_ge y r with h | h
        · left; rw [Nat.compare_eq_gt.2 h]
        · right; rw [show r = y by omega, Nat.compare_eq_eq.2 rfl]
      clear ho hz hzm
      by_cases hc : N < M
      · rw [if_pos hc] at hk
        have hk1 : Q + 53 - 1 - (P + 53) = (k : Int) := by omega
        rw [Nat.compare_eq_lt.2 (hcmp.1 hc)] at ho2
        clear hcmp hc hN2
        rcases hge with hge | hge
        · go_wp2_with fail
          go_fit (kFr _)
          rintro e w ⟨rfl, rfl⟩
          go_wp2_with fail
          go_fit (kL _)
          rintro e w ⟨rfl, rfl⟩
          go_wp2
          exact ⟨⟨z, rfl, trivial, by omega, HZ⟩, hzr⟩
        · go_wp2_with fail
          go_fit (kFr _)
          rintro e w ⟨rfl, rfl⟩
          go_wp2_with fail
          go_fit (kL _)
          rintro e w ⟨rfl, rfl⟩
          go_wp2
          exact ⟨⟨z, rfl, trivial, by omega, HZ⟩, hzr⟩
      · rw [if_neg hc] at hk
        have hk1 : Q + 53 - (P + 53) = (k : Int) := by omega
        have ho3 : (FloatKind.f64.format.order ZN Z == some .lt) = false := by
          rw [ho2]
          refine beq_eq_false_iff_ne.2 fun h => hc (hcmp.2 (Nat.compare_eq_lt.1 (Option.some.inj h)))
        clear hcmp hc hN2 ho2
        rcases hge with hge | hge
        · go_wp2_with fail
          go_fit (kFr _)
          rintro e w ⟨rfl, rfl⟩
          go_wp2_with fail
          go_fit (kL _)
          rintro e w ⟨rfl, rfl⟩
          go_wp2
          exact ⟨⟨z, rfl, trivial, by omega, HZ⟩, hzr⟩
        · go_wp2_with fail
          go_fit (kFr _)
          rintro e w ⟨rfl, rfl⟩
          go_wp2_with fail
          go_fit (kL _)
          rintro e w ⟨rfl, rfl⟩
          go_wp2
          exact ⟨⟨z, rfl, trivial, by omega, HZ⟩, hzr⟩
    · have ho' : FloatKind.f64.format.order r y = some .lt := by rw [ho, Nat.compare_eq_lt.2 (by omega)]
      have hrv := hE.out r hr (by omega) HM.out
      subst hrv
      clear ho
      go_wp2
      go_ret
      exact ⟨rfl, rfl⟩
set_option maxRecDepth 100000 in
set_option maxHeartbeats 2000000 in
theorem mod_neg (x y y0 : Nat) (hx0 : x ≠ 0) (hx : x < 0x7ff0000000000000) (h0 : y ≠ 0) (hy : y < 0x7ff0000000000000) (hy0 : y0 < 18446744073709551616) (hyn : nanB y0 = false) (hyy : y0 % 9223372036854775808 = y) (w : World) :
    Calls Tryz.prog 161 #[.float .f64 (x + 2 ^ 63), .float .f64 y0] w fun r w' => r = .returned (.float .f64 (vw (uv x % uv y) + 2 ^ 63)) ∧ w' = w := by
  obtain ⟨M, P, hN⟩ := nz_ex y h0 hy
  have kF := frexp_any y M P h0 hy hN
  have kA := abs_any y0 hy0
  rw [hyy] at kA
  have hxm : (x + 2 ^ 63) % 9223372036854775808 = x := by omega
  have hxn : nanB (x + 2 ^ 63) = false := by
    rw [nanB_eq]
    exact decide_eq_false (by omega)
  have kI := isInf_any (x + 2 ^ 63) (by omega)
  rw [infB_mod _ hxn, hxm, infB_pos x hx] at kI
  have kX := isNaN_any (x + 2 ^ 63)
  rw [hxn] at kX
  have kY := isNaN_any y0
  rw [hyn] at kY
  have he : (FloatKind.f64.format.order y0 0 == some .eq) = false := by
    rw [ord0 y0 hy0 hyn, if_neg (by omega)]
    split <;> rfl
  have hxo : FloatKind.f64.format.order (x + 2 ^ 63) 0 = some .lt := by
    rw [ord0 _ (by omega) hxn, if_neg (by omega), if_neg (by omega)]
  have hng : ∀ w, (Op.unary .neg (.float .f64 (x + 2 ^ 63))).run Tryz.prog w = .ok (.float .f64 x) w := run_neg2 _ _ (by rw [← neg_pos x (by omega), neg_neg])
  have hR : Hid (∀ r, r < 0x7ff0000000000000 → y ≤ r → Rd y M P r) := fun r hr hle => rd_ex y M P r h0 hy hN hr hle
  have hE : Hid (∀ r, r < 0x7ff0000000000000 → r < y → uv r % uv y = uv x % uv y → r = vw (uv x % uv y)) := fun r hr hlt h => md_end y r _ hr hlt h
  have hP1 := hN.1.2.2.1
  have hP2 := hN.1.2.2.2.1
  have hb2 : Ieee.double.nearest false M (-53) < 0x7ff0000000000000 := by
    rw [near_norm M (-53) hN.1.1 hN.1.2.1 (by decide) (by decide)]
    have := hN.1.2.1
    omega
  clear hN
  generalize hZ : Ieee.double.nearest false M (-53) = Z at kF hb2
  have hng2 : ∀ w, (Op.unary .neg (.float .f64 (vw (uv x % uv y)))).run Tryz.prog w = .ok (.float .f64 (vw (uv x % uv y) + 2 ^ 63)) w := run_neg2 _ _ (neg_pos _ (near_pos _ _))
  generalize hV : vw (uv x % uv y) + 2 ^ 63 = V at *
  generalize hV2 : vw (uv x % uv y) = V2 at *
  generalize hX : x + 2 ^ 63 = X at *
  go_enter Tryz.func161, Tryz.ntmps161
  go_wp2_with fail
  go_fit (kI _)
  rintro r w ⟨rfl, rfl⟩
  go_wp2_with fail
  go_fit (kX _)
  rintro r w ⟨rfl, rfl⟩
  go_wp2_with fail
  go_fit (kY _)
  rintro r w ⟨rfl, rfl⟩
  go_wp2_with fail
  go_fit (kA _)
  rintro r w ⟨rfl, rfl⟩
  go_wp2_with fail
  go_fit (kF _)
  rintro r w ⟨rfl, rfl⟩
  go_wp2
  go_loopw [7] (fun rv w' => ∃ r, rv = .float .f64 r ∧ w' = w ∧ r < 0x7ff0000000000000 ∧ Hid (uv r % uv y = uv x % uv y)) (fun rv _ => match rv with | .float _ r => r | _ => 0)
  case atStart => exact ⟨x, rfl, rfl, hx, rfl⟩
  case round =>
    obtain ⟨r, rfl, rfl, hr, HM⟩ := hrel
    have ho := pos_order r y hr hy
    by_cases hle : y ≤ r
    · obtain ⟨N, Q, k, hr0, -, kFr, hcmp, hk, hQ1, hQ2, hNb, kL, z, hz, hzr, hzm⟩ := hR.out r hr hle
      have hzr' : ∀ t w, (binOp .sub t (.float .f64 r) (.float .f64 (vw (uv y * 2 ^ k)))).run Tryz.prog w = .ok (.float .f64 z) w := fun t w => run_float_arith w .sub t .f64 _ _ _ hz
      generalize vw (uv y * 2 ^ k) = L at *
      have hN2 : N < M ∨ ¬ N < M := Decidable.em _
      have HZ : Hid (uv z % uv y = uv x % uv y) := hzm.trans HM.out
      have hb1 : Ieee.double.nearest false N (-53) < 0x7ff0000000000000 := hNb
      have ho2 := pos_order (Ieee.double.nearest false N (-53)) Z hb1 hb2
      rw [hZ] at hcmp
      generalize Ieee.double.nearest false N (-53) = ZN at *
      have hge : FloatKind.f64.format.order r y = some .gt ∨ FloatKind.f64.format.order r y = some .eq := by
        rw [ho]
        rcases Nat.lt_or_ge y r with h | h
        · left; rw [Nat.compare_eq_gt.2 h]
        · right; rw [show r = y by omega, Nat.compare_eq_eq.2 rfl]
      clear ho hz hzm
      by_cases hc : N < M
      · rw [if_pos hc] at hk
        have hk1 : Q + 53 - 1 - (P + 53) = (k : Int) := by omega
        rw [Nat.compare_eq_lt.2 (hcmp.1 hc)] at ho2
        clear hcmp hc hN2
        rcases hge with hge | hge
        · go_wp2_with fail
          go_fit (kFr _)
          rintro e w ⟨rfl, rfl⟩
          go_wp2_with fail
          go_fit (kL _)
          rintro e w ⟨rfl, rfl⟩
          go_wp2
          exact ⟨⟨z, rfl, trivial, by omega, HZ⟩, hzr⟩
        · go_wp2_with fail
          go_fit (kFr _)
          rintro e w ⟨rfl, rfl⟩
          go_wp2_with fail
          go_fit (kL _)
          rintro e w ⟨rfl, rfl⟩
          go_wp2
          exact ⟨⟨z, rfl, trivial, by omega, HZ⟩, hzr⟩
      · rw [if_neg hc] at hk
        have hk1 : Q + 53 - (P + 53) = (k : Int) := by omega
        have ho3 : (FloatKind.f64.format.order ZN Z == some .lt) = false := by
          rw [ho2]
          refine beq_eq_false_iff_ne.2 fun h => hc (hcmp.2 (Nat.compare_eq_lt.1 (Option.some.inj h)))
        clear hcmp hc hN2 ho2
        rcases hge with hge | hge
        · go_wp2_with fail
          go_fit (kFr _)
          rintro e w ⟨rfl, rfl⟩
          go_wp2_with fail
          go_fit (kL _)
          rintro e w ⟨rfl, rfl⟩
          go_wp2
          exact ⟨⟨z, rfl, trivial, by omega, HZ⟩, hzr⟩
        · go_wp2_with fail
          go_fit (kFr _)
          rintro e w ⟨rfl, rfl⟩
          go_wp2_with fail
          go_fit (kL _)
          rintro e w ⟨rfl, rfl⟩
          go_wp2
          exact ⟨⟨z, rfl, trivial, by omega, HZ⟩, hzr⟩
    · have ho' : FloatKind.f64.format.order r y = some .lt := by rw [ho, Nat.compare_eq_lt.2 (by omega)]
      have hrv := hE.out r hr (by omega) HM.out
      subst hrv
      clear ho
      go_wp2
      go_ret
      exact ⟨rfl, rfl⟩
end Go.Proofs.YtebjklppbkkinaaGreatDoor.F
/- math.Mod, any floats. -/
namespace Go.Proofs.YtebjklppbkkinaaGreatDoor.F
open Go.RowKit Ieee

theorem rdInf : Ieee.double.read 9218868437227405312 = .infinity false := by decide
theorem rdNz : Ieee.double.read 9223372036854775808 = .number true 0 (-1074) := by decide
theorem ord_inf (x : Nat) (h : x % 9223372036854775808 < 9218868437227405312) : FloatKind.f64.format.order x 9218868437227405312 = some .lt := by
  have e : FloatKind.f64.format.order x 9218868437227405312 = (Ieee.double.read x).order (Ieee.double.read 9218868437227405312) := rfl
  obtain ⟨s, m, i, hr⟩ := read_fin x h
  rw [e, rdInf, hr]
  rfl
theorem ord_nz (x y : Nat) (hx : x < 18446744073709551616) (hx0 : x % 9223372036854775808 = 0) (h0 : y ≠ 0) (hy : y < 0x7ff0000000000000) : FloatKind.f64.format.order x y = some .lt := by
  obtain ⟨m, i, hr, hu⟩ := read_pos y hy
  have hz := uv_zero y h0
  have : x = 0 ∨ x = 9223372036854775808 := by omega
  rcases this with rfl | rfl
  · refine (ord_bd _ _ _ _ _ _ _ _ rd0 hr).2.2 ?_
    have z0 : un false 0 (-1074) = 0 := by unfold un; rw [signed_eq, Nat.zero_mul]; rfl
    rw [z0, hu]; omega
  · refine (ord_bd _ _ _ _ _ _ _ _ rdNz hr).2.2 ?_
    have z0 : un true 0 (-1074) = 0 := by unfold un; rw [signed_eq, Nat.zero_mul]; rfl
    rw [z0, hu]; omega
theorem nanB_near (V : Nat) : nanB (vw V) = false := by
  unfold vw
  by_cases h : V = 0
  · subst h
    rw [nearest_zero, word_pos]; decide
  · rw [nearest_rung false V _ h]
    refine nanB_word false _ ?_
    unfold rung
    exact Nat.min_le_right _ _
theorem mdC_none (x y : Nat) (h : nanB x = true ∨ nanB y = true ∨ y % 9223372036854775808 = 0 ∨ x % 9223372036854775808 = 9218868437227405312) : mdC x y = none := by
  unfold mdC
  rw [if_pos h]
theorem eq0_nan (y : Nat) (h : nanB y = true) : (FloatKind.f64.format.order y 0 == some .eq) = false := by
  rw [ord_nan0 y h]; rfl
theorem eq0_not (y : Nat) (hy : y < 18446744073709551616) (h : ¬ y % 9223372036854775808 = 0) : (FloatKind.f64.format.order y 0 == some .eq) = false := by
  cases hn : nanB y
  · rw [ord0 y hy hn, if_neg h]
    split <;> rfl
  · exact eq0_nan y hn
theorem inf_mod (x : Nat) (hx : x < 18446744073709551616) (h : infB (cl x) = true) : nanB x = false ∧ x % 9223372036854775808 = 9218868437227405312 := by
  cases hn : nanB x
  · rw [infB_iff x hn hx] at h
    exact ⟨rfl, of_decide_eq_true h⟩
  · rw [cl_nan hn] at h
    cases h
set_option maxRecDepth 100000 in
set_option maxHeartbeats 2000000 in
theorem mod_any (x y : Nat) (hx : x < 18446744073709551616) (hy : y < 18446744073709551616) (w : World) : Calls Tryz.prog 161 #[.float .f64 x, .float .f64 y] w (RF w (mdC x y)) := by
  have kN := nan_any
  have kI := isInf_any x hx
  have kX := isNaN_any x
  have kY := isNaN_any y
  by_cases hy0 : y % 9223372036854775808 = 0
  · have hyn : nanB y = false := by
      rw [nanB_eq]; exact decide_eq_false (by rw [show (2 : Nat) ^ 63 = 9223372036854775808 from rfl]; omega)
    have he : FloatKind.f64.format.order y 0 = some .eq := by rw [ord0 y hy hyn, if_pos hy0]
    rw [mdC_none x y (.inr (.inr (.inl hy0)))]
    go_enter Tryz.func161, Tryz.ntmps161
    go_wp2_with fail
    go_fit (kN _)
    rintro r w ⟨rfl, rfl⟩
    go_wp2
    go_ret
    exact ⟨_, 0, rfl, rfl, by decide, cl_theNaN⟩
  · have he := eq0_not y hy hy0
    cases hi : infB (cl x)
    · cases hxn : nanB x
      · cases hyn : nanB y
        · rw [hi] at kI
          rw [hxn] at kX
          rw [hyn] at kY
          have hxf : x % 9223372036854775808 < 9218868437227405312 := by
            rcases kinds x hx hxn with h | h
            · exact h
            · rw [infB_iff x hxn hx, decide_eq_true h] at hi; cases hi
          have kA := abs_any y hy
          rcases kinds y hy hyn with hyf | hyi
          · have hE : mdC x y = some (sg x + vw (uv (x % 9223372036854775808) % uv (y % 9223372036854775808))) := by
              unfold mdC
              rw [if_neg (by rw [hxn, hyn]; rintro (h | h | h | h) <;> first | cases h | omega), if_neg (by omega)]
            rw [hE]
            by_cases hx0 : x % 9223372036854775808 = 0
            · obtain ⟨M, P, hN⟩ := nz_ex _ hy0 hyf
              have kF := frexp_any _ M P hy0 hyf hN
              have ho := ord_nz x _ hx hx0 hy0 hyf
              have hxo : (FloatKind.f64.format.order x 0 == some .lt) = false := by rw [ord0 x hx hxn, if_pos hx0]; rfl
              have hv : Hid (some x = some (sg x + vw (uv (x % 9223372036854775808) % uv (y % 9223372036854775808)))) := by
                show _ = _
                rw [hx0]
                have e0 : uv 0 = 0 := rfl
                rw [e0, Nat.zero_mod]
                have e1 : vw 0 = 0 := by unfold vw; rw [nearest_zero, word_pos]
                rw [e1]
                unfold sg
                congr 1
                omega
              have hc : Hid (cl x = some x) := cl_num hxn
              clear hE
              generalize some (sg x + vw (uv (x % 9223372036854775808) % uv (y % 9223372036854775808))) = V at *
              generalize y % 9223372036854775808 = y' at *
              generalize Ieee.double.nearest false M (-53) = Z at *
              go_enter Tryz.func161, Tryz.ntmps161
              go_wp2_with fail
              go_fit (kI _)
              rintro r w ⟨rfl, rfl⟩
              go_wp2_with fail
              go_fit (kX _)
              rintro r w ⟨rfl, rfl⟩
              go_wp2_with fail
              go_fit (kY _)
              rintro r w ⟨rfl, rfl⟩
              go_wp2_with fail
              go_fit (kA _)
              rintro r w ⟨rfl, rfl⟩
              go_wp2_with fail
              go_fit (kF _)
              rintro r w ⟨rfl, rfl⟩
              go_wp2
              go_loopw [7] (fun rv w' => rv = .float .f64 x ∧ w' = w) (fun _ _ => 0)
              case atStart => exact ⟨rfl, rfl⟩
              case round =>
                obtain ⟨rfl, rfl⟩ := hrel
                go_wp2
                go_ret
                exact ⟨_, 0, rfl, rfl, hx, hc.out.trans hv.out⟩
            · by_cases hs : x < 9223372036854775808
              · rw [Nat.mod_eq_of_lt hs] at hx0 hxf ⊢
                refine (mod_pos x _ y hx0 hxf hy0 hyf hy hyn rfl w).mono ?_
                rintro r w' ⟨rfl, rfl⟩
                have hs0 : sg x = 0 := by unfold sg; omega
                have hb := near_pos (uv x % uv (y % 9223372036854775808)) (-1074)
                have hbn : nanB (vw (uv x % uv (y % 9223372036854775808))) = false := nanB_near _
                rw [hs0, Nat.zero_add]
                exact ⟨_, 0, rfl, rfl, by unfold vw; omega, cl_num hbn⟩
              · obtain ⟨x', rfl⟩ : ∃ x', x = x' + 2 ^ 63 := ⟨x - 2 ^ 63, by omega⟩
                have hm : (x' + 2 ^ 63) % 9223372036854775808 = x' := by omega
                rw [hm] at hx0 hxf ⊢
                refine (mod_neg x' _ y hx0 hxf hy0 hyf hy hyn rfl w).mono ?_
                rintro r w' ⟨rfl, rfl⟩
                have hs0 : sg (x' + 2 ^ 63) = 2 ^ 63 := by unfold sg; omega
                have hb : vw (uv x' % uv (y % 9223372036854775808)) < 2 ^ 63 := near_pos _ _
                have hbn : nanB (vw (uv x' % uv (y % 9223372036854775808)) + 2 ^ 63) = false := by
                  have h0 : nanB (vw (uv x' % uv (y % 9223372036854775808))) = false := nanB_near _
                  rw [nanB_eq] at h0 ⊢
                  have h1 := of_decide_eq_false h0
                  exact decide_eq_false (by omega)
                rw [hs0, Nat.add_comm (2 ^ 63)]
                exact ⟨_, 0, rfl, rfl, by omega, cl_num hbn⟩
          · have hE : mdC x y = some x := by
              unfold mdC
              rw [if_neg (by rw [hxn, hyn]; rintro (h | h | h | h) <;> first | cases h | omega), if_pos hyi]
            rw [hE]
            have hc : Hid (cl x = some x) := cl_num hxn
            rw [hyi] at kA
            have kF := frexp_inf
            by_cases hs : FloatKind.f64.format.order x 0 = some .lt
            · have hng := @run_neg Tryz.prog x
              have hng2 := @run_neg2 Tryz.prog (Op.negFloat .f64 x) x (neg_neg x)
              have ho : FloatKind.f64.format.order (Op.negFloat .f64 x) 9218868437227405312 = some .lt := by
                apply ord_inf
                rw [neg_eq, show (9223372036854775808 : Nat) = 2 ^ 63 from rfl, Nat.xor_mod_two_pow, Nat.mod_self, Nat.xor_zero]
                exact hxf
              generalize Op.negFloat .f64 x = x' at *
              clear hE
              go_enter Tryz.func161, Tryz.ntmps161
              go_wp2_with fail
              go_fit (kI _)
              rintro r w ⟨rfl, rfl⟩
              go_wp2_with fail
              go_fit (kX _)
              rintro r w ⟨rfl, rfl⟩
              go_wp2_with fail
              go_fit (kY _)
              rintro r w ⟨rfl, rfl⟩
              go_wp2_with fail
              go_fit (kA _)
              rintro r w ⟨rfl, rfl⟩
              go_wp2_with fail
              go_fit (kF _)
              rintro r w ⟨rfl, rfl⟩
              go_wp2
              go_loopw [7] (fun rv w' => rv = .float .f64 x' ∧ w' = w) (fun _ _ => 0)
              case atStart => exact ⟨rfl, rfl⟩
              case round =>
                obtain ⟨rfl, rfl⟩ := hrel
                go_wp2
                go_ret
                exact ⟨_, 0, rfl, rfl, hx, hc.out⟩
            · have ho := ord_inf x hxf
              have hs' : (FloatKind.f64.format.order x 0 == some .lt) = false := beq_eq_false_iff_ne.2 hs
              clear hE hs
              go_enter Tryz.func161, Tryz.ntmps161
              go_wp2_with fail
              go_fit (kI _)
              rintro r w ⟨rfl, rfl⟩
              go_wp2_with fail
              go_fit (kX _)
              rintro r w ⟨rfl, rfl⟩
              go_wp2_with fail
              go_fit (kY _)
              rintro r w ⟨rfl, rfl⟩
              go_wp2_with fail
              go_fit (kA _)
              rintro r w ⟨rfl, rfl⟩
              go_wp2_with fail
              go_fit (kF _)
              rintro r w ⟨rfl, rfl⟩
              go_wp2
              go_loopw [7] (fun rv w' => rv = .float .f64 x ∧ w' = w) (fun _ _ => 0)
              case atStart => exact ⟨rfl, rfl⟩
              case round =>
                obtain ⟨rfl, rfl⟩ := hrel
                go_wp2
                go_ret
                exact ⟨_, 0, rfl, rfl, hx, hc.out⟩
        · rw [mdC_none x y (.inr (.inl hyn))]
          rw [hi] at kI
          rw [hxn] at kX
          rw [hyn] at kY
          go_enter Tryz.func161, Tryz.ntmps161
          go_wp2_with fail
          go_fit (kI _)
          rintro r w ⟨rfl, rfl⟩
          go_wp2_with fail
          go_fit (kX _)
          rintro r w ⟨rfl, rfl⟩
          go_wp2_with fail
          go_fit (kY _)
          rintro r w ⟨rfl, rfl⟩
          go_wp2_with fail
          go_fit (kN _)
          rintro r w ⟨rfl, rfl⟩
          go_wp2
          go_ret
          exact ⟨_, 0, rfl, rfl, by decide, cl_theNaN⟩
      · rw [mdC_none x y (.inl hxn)]
        rw [hi] at kI
        rw [hxn] at kX
        go_enter Tryz.func161, Tryz.ntmps161
        go_wp2_with fail
        go_fit (kI _)
        rintro r w ⟨rfl, rfl⟩
        go_wp2_with fail
        go_fit (kX _)
        rintro r w ⟨rfl, rfl⟩
        go_wp2_with fail
        go_fit (kN _)
        rintro r w ⟨rfl, rfl⟩
        go_wp2
        go_ret
        exact ⟨_, 0, rfl, rfl, by decide, cl_theNaN⟩
    · obtain ⟨-, hxi⟩ := inf_mod x hx hi
      rw [mdC_none x y (.inr (.inr (.inr hxi)))]
      rw [hi] at kI
      go_enter Tryz.func161, Tryz.ntmps161
      go_wp2_with fail
      go_fit (kI _)
      rintro r w ⟨rfl, rfl⟩
      go_wp2_with fail
      go_fit (kN _)
      rintro r w ⟨rfl, rfl⟩
      go_wp2
      go_ret
      exact ⟨_, 0, rfl, rfl, by decide, cl_theNaN⟩
set_option maxHeartbeats 400000 in
theorem mathMod_any (x y : Nat) (hx : x < 18446744073709551616) (hy : y < 18446744073709551616) (w : World) : Calls Tryz.prog 116 #[.float .f64 x, .float .f64 y] w (RF w (mdC x y)) := by
  have kM := mod_any x y hx hy
  generalize mdC x y = C at *
  go_enter Tryz.func116, Tryz.ntmps116
  go_wp2_with fail
  go_fit (kM _)
  rintro r w2 ⟨z, k, rfl, rfl, hzl, hzc⟩
  have HZ : Hid (cl z = C) := hzc
  clear hzc
  go_wp2
  go_ret
  exact ⟨_, _, rfl, rfl, hzl, HZ.out⟩
set_option maxHeartbeats 400000 in
theorem calcMod_any (x y : Nat) (hx : x < 18446744073709551616) (hy : y < 18446744073709551616) (w : World) : Calls Tryz.prog 79 #[.float .f64 x, .float .f64 y] w (RF w (mdC x y)) := by
  have kM := mathMod_any x y hx hy
  generalize mdC x y = C at *
  go_enter Tryz.func79, Tryz.ntmps79
  go_wp2_with fail
  go_fit (kM _)
  rintro r w2 ⟨z, k, rfl, rfl, hzl, hzc⟩
  have HZ : Hid (cl z = C) := hzc
  clear hzc
  go_wp2
  go_ret
  exact ⟨_, _, rfl, rfl, hzl, HZ.out⟩
end Go.Proofs.YtebjklppbkkinaaGreatDoor.F
