/- A bundle of texts. -/
import Derived.Test.YtebjklppbkkinaaGreatDoorBp17
/- Remainders of floats: words of whole numbers of units. -/
namespace Go.Proofs.YtebjklppbkkinaaGreatDoor.F
open Go.RowKit Ieee

/-- The word of V units. -/
def vw (V : Nat) : Nat := Ieee.double.nearest false V (-1074)
/-- V units are a float. -/
def Rp (V : Nat) : Prop := ∃ m e, V = m * 2 ^ e ∧ m < 2 ^ 53 ∧ e ≤ 2045
theorem near_pos (m : Nat) (p : Int) : Ieee.double.nearest false m p < 2 ^ 63 := by
  by_cases h : m = 0
  · subst h
    rw [nearest_zero, word_pos]; decide
  · rw [nearest_rung false m p h, word_pos, rung_eq]
    exact Nat.lt_of_le_of_lt (Nat.min_le_right _ _) (by decide)
theorem vw_shift (m e : Nat) : vw (m * 2 ^ e) = Ieee.double.nearest false m (-1074 + e) := by
  unfold vw
  rw [← Nat.shiftLeft_eq, nearest_shift]
theorem log2_le52 (m : Nat) (h : m < 2 ^ 53) : m.log2 ≤ 52 := by
  by_cases h0 : m = 0
  · subst h0; decide
  · have := (Nat.log2_lt h0).2 h
    omega
theorem vw_ok (V : Nat) (h : Rp V) : vw V < 0x7ff0000000000000 ∧ uv (vw V) = V := by
  obtain ⟨m, e, hV, hm, he⟩ := h
  by_cases h0 : m = 0
  · have : V = 0 := by rw [hV, h0, Nat.zero_mul]
    subst this
    unfold vw
    rw [nearest_zero, word_pos]
    exact ⟨by decide, rfl⟩
  · have hlog := log2_le52 m hm
    obtain ⟨k, hk, hr, hl⟩ := read_near false m (-1074 + e) h0 hm (by omega) (by omega)
    have hp := near_pos m (-1074 + e)
    rw [hV, vw_shift]
    generalize Ieee.double.nearest false m (-1074 + (e : Int)) = x at *
    rw [Nat.mod_eq_of_lt hp] at hl
    refine ⟨hl, ?_⟩
    have hu := read_uv x _ _ _ hr
    rw [Nat.mod_eq_of_lt hp] at hu
    rw [← hu, Nat.shiftLeft_eq, Nat.mul_assoc, ← Nat.pow_add]
    congr 2
    omega
def um (r : Nat) : Nat := if r < 2 ^ 52 then r else 2 ^ 52 + r % 2 ^ 52
def ue (r : Nat) : Nat := r / 2 ^ 52 - 1
theorem uv_parts (r : Nat) : uv r = um r * 2 ^ ue r := by
  unfold uv um ue
  by_cases h : r < 2 ^ 52
  · rw [if_pos h, if_pos h, Nat.div_eq_of_lt h]
    simp
  · rw [if_neg h, if_neg h]
theorem um_lt (r : Nat) : um r < 2 ^ 53 := by
  unfold um
  split
  · omega
  · have := Nat.mod_lt r (show 2 ^ 52 > 0 by decide)
    omega
theorem um_ge (r : Nat) (h : ue r ≠ 0) : 2 ^ 52 ≤ um r := by
  unfold um
  unfold ue at h
  split
  · rename_i hl
    rw [Nat.div_eq_of_lt hl] at h
    omega
  · omega
theorem ue_le (r : Nat) (h : r < 0x7ff0000000000000) : ue r ≤ 2045 := by
  unfold ue
  omega
theorem uv_rp (x : Nat) (h : x < 0x7ff0000000000000) : Rp (uv x) := ⟨um x, ue x, uv_parts x, um_lt x, ue_le x h⟩
theorem uv_inj (a b : Nat) (h : uv a = uv b) : a = b := by
  rcases Nat.lt_trichotomy a b with c | c | c
  · have := uv_strict _ _ c; omega
  · exact c
  · have := uv_strict _ _ c; omega
theorem vw_uv (x : Nat) (h : x < 0x7ff0000000000000) : vw (uv x) = x := uv_inj _ _ (vw_ok _ (uv_rp x h)).2
theorem uv_le_iff (a b : Nat) : uv a ≤ uv b ↔ a ≤ b := by
  constructor
  · intro h
    by_cases c : a ≤ b
    · exact c
    · have := uv_strict b a (by omega); omega
  · exact uv_mono a b
theorem uv_zero (x : Nat) (h : x ≠ 0) : uv x ≠ 0 := by
  have := uv_strict 0 x (by omega)
  omega
/-- Of two that stand near together the difference is exact. -/
theorem sub_exact (a b : Nat) (ha : a < 0x7ff0000000000000) (hle : b ≤ a) (h2 : uv a < 2 * uv b) : Rp (uv a - uv b) := by
  have hb : b < 0x7ff0000000000000 := by omega
  have hEa := ue_le a ha
  have hmono : ue b ≤ ue a := by unfold ue; omega
  have pa := uv_parts a
  have pb := uv_parts b
  obtain ⟨d, hd⟩ : ∃ d, ue a = d + ue b := ⟨ue a - ue b, by omega⟩
  have e : uv a - uv b = (um a * 2 ^ d - um b) * 2 ^ ue b := by
    rw [pa, pb, hd, Nat.pow_add, ← Nat.mul_assoc, Nat.sub_mul]
  refine ⟨_, _, e, ?_, by omega⟩
  have hb53 := um_lt b
  have hlt : (um a * 2 ^ d - um b) * 2 ^ ue b < um b * 2 ^ ue b := by
    rw [← e, ← pb]; omega
  have := Nat.lt_of_mul_lt_mul_right hlt
  omega
theorem sub_words (a b : Nat) (ha : a < 0x7ff0000000000000) (hle : b ≤ a) : floatBits .sub .f64 a b = some (vw (uv a - uv b)) := by
  have hb : b < 0x7ff0000000000000 := by omega
  obtain ⟨m, i, hr, hu⟩ := read_pos a ha
  obtain ⟨n, j, hr2, hu2⟩ := read_pos b hb
  rw [sub_fin a b false false m n i j hr hr2, hu, hu2]
  have hm := uv_mono b a hle
  have e : ((uv a : Int) - (uv b : Int)) = ((uv a - uv b : Nat) : Int) := by omega
  rw [e]
  unfold wr vw
  congr 1
  by_cases h0 : ((uv a - uv b : Nat) : Int) = 0
  · rw [if_pos h0]
    rfl
  · rw [if_neg h0, decide_eq_false (show ¬ ((uv a - uv b : Nat) : Int) < 0 by omega)]
    rfl
/-- Scaled up to 53 digits. -/
theorem nm_scaled (x M : Nat) (P : Int) (hx : x < 0x7ff0000000000000) (h : Nm x M P) : uv x * 2 ^ 52 = M * 2 ^ (P + 1126).toNat := by
  obtain ⟨h1, h2, h3, h4, m, i, k, hr, hm, hM, hP, hi⟩ := h
  have hu := read_uv x _ _ _ hr
  rw [Nat.mod_eq_of_lt (show x < 2 ^ 63 by omega)] at hu
  rw [← hu, hM, Nat.shiftLeft_eq, Nat.mul_assoc, Nat.mul_assoc, ← Nat.pow_add, ← Nat.pow_add]
  congr 2
  omega
theorem nm_up (x M : Nat) (P : Int) (hx : x < 0x7ff0000000000000) (h : Nm x M P) (k : Nat) : Ieee.double.nearest false M (P + k) = vw (uv x * 2 ^ k) := by
  obtain ⟨m, i, hr, hm0, hm, hi, hn⟩ := h.near
  have hu := read_uv x _ _ _ hr
  rw [Nat.mod_eq_of_lt (show x < 2 ^ 63 by omega)] at hu
  rw [← hn, ← hu, Nat.mul_assoc, ← Nat.pow_add, vw_shift]
  congr 1
  omega
theorem nm_ex (x : Nat) (h0 : x ≠ 0) (hx : x < 0x7ff0000000000000) : ∃ M P, Nm x M P := by
  by_cases h : x < 2 ^ 52
  · obtain ⟨M, P, h, _⟩ := nm_sub x h0 h
    exact ⟨M, P, h⟩
  · exact ⟨_, _, nm_normal x (by omega) hx⟩
/-- How often y goes, by the parts. -/
def kk (M N : Nat) (P Q : Int) : Int := if M < N then P - Q - 1 else P - Q
theorem goes (x y M N : Nat) (P Q : Int) (hx : x < 0x7ff0000000000000) (hy : y < 0x7ff0000000000000) (h : Nm x M P) (h' : Nm y N Q) (hle : y ≤ x) :
    ∃ k : Nat, kk M N P Q = k ∧ uv y * 2 ^ k ≤ uv x ∧ uv x < 2 * (uv y * 2 ^ k) := by
  have e1 := nm_scaled x M P hx h
  have e2 := nm_scaled y N Q hy h'
  have hv := uv_mono y x hle
  have hM1 := h.1
  have hM2 := h.2.1
  have hN1 := h'.1
  have hN2 := h'.2.1
  have hP := h.2.2.2.1
  have hQ := h'.2.2.2.1
  obtain ⟨a, ha⟩ : ∃ a, (P + 1126).toNat = a := ⟨_, rfl⟩
  obtain ⟨b, hb⟩ : ∃ b, (Q + 1126).toNat = b := ⟨_, rfl⟩
  rw [ha] at e1
  rw [hb] at e2
  generalize uv x = X at *
  generalize uv y = Y at *
  have hlow : ∀ s, M * 2 ^ a < 2 ^ 52 * 2 ^ (a + 1) * 2 ^ s := fun s => by
    have p1 : 0 < 2 ^ a := Nat.two_pow_pos _
    have p2 : 1 ≤ 2 ^ s := Nat.two_pow_pos _
    calc M * 2 ^ a < 2 ^ 53 * 2 ^ a := Nat.mul_lt_mul_of_pos_right hM2 p1
      _ = 2 ^ 52 * 2 ^ (a + 1) := by rw [Nat.pow_succ]; omega
      _ ≤ _ := Nat.le_mul_of_pos_right _ p2
  have hab : b ≤ a := by
    refine Decidable.byContradiction fun hc => ?_
    obtain ⟨s, hs⟩ : ∃ s, b = a + 1 + s := ⟨b - a - 1, by omega⟩
    have h3 := hlow s
    have h4 : 2 ^ 52 * 2 ^ b ≤ N * 2 ^ b := Nat.mul_le_mul_right _ hN1
    rw [hs, Nat.pow_add, ← Nat.mul_assoc] at h4
    rw [hs, Nat.pow_add] at e2
    rw [← Nat.mul_assoc] at e2
    have h5 : N * 2 ^ (a + 1) * 2 ^ s ≤ M * 2 ^ a := by rw [← e1, ← e2]; exact Nat.mul_le_mul_right _ hv
    rw [← Nat.mul_assoc] at h4
    omega
  unfold kk
  by_cases hc : M < N
  · rw [if_pos hc]
    have hne : b ≠ a := by
      intro he
      rw [he] at e2
      have : M * 2 ^ a < N * 2 ^ a := Nat.mul_lt_mul_of_pos_right hc (Nat.two_pow_pos _)
      omega
    obtain ⟨k, hk⟩ : ∃ k, a = b + k + 1 := ⟨a - b - 1, by omega⟩
    refine ⟨k, by omega, ?_, ?_⟩
    · refine Nat.le_of_mul_le_mul_right (c := 2 ^ 52) ?_ (by decide)
      rw [Nat.mul_right_comm, e2, e1, hk, Nat.mul_assoc, ← Nat.pow_add, Nat.pow_succ]
      have : N * 2 ^ (b + k) < 2 ^ 53 * 2 ^ (b + k) := Nat.mul_lt_mul_of_pos_right hN2 (Nat.two_pow_pos _)
      have h6 : 2 ^ 52 * 2 ^ (b + k) ≤ M * 2 ^ (b + k) := Nat.mul_le_mul_right _ hM1
      rw [← Nat.mul_assoc]
      omega
    · refine Nat.lt_of_mul_lt_mul_right (a := 2 ^ 52) ?_
      rw [Nat.mul_assoc, Nat.mul_right_comm, e2, e1, hk, Nat.mul_assoc N, ← Nat.pow_add, Nat.pow_succ, ← Nat.mul_assoc M]
      have : M * 2 ^ (b + k) < N * 2 ^ (b + k) := Nat.mul_lt_mul_of_pos_right hc (Nat.two_pow_pos _)
      omega
  · rw [if_neg hc]
    obtain ⟨k, hk⟩ : ∃ k, a = b + k := ⟨a - b, by omega⟩
    refine ⟨k, by omega, ?_, ?_⟩
    · refine Nat.le_of_mul_le_mul_right (c := 2 ^ 52) ?_ (by decide)
      rw [Nat.mul_right_comm, e2, e1, hk, Nat.mul_assoc, ← Nat.pow_add]
      exact Nat.mul_le_mul_right _ (by omega)
    · refine Nat.lt_of_mul_lt_mul_right (a := 2 ^ 52) ?_
      rw [Nat.mul_assoc, Nat.mul_right_comm, e2, e1, hk, Nat.mul_assoc N, ← Nat.pow_add]
      have h7 : M * 2 ^ (b + k) < 2 ^ 53 * 2 ^ (b + k) := Nat.mul_lt_mul_of_pos_right hM2 (Nat.two_pow_pos _)
      have h8 : 2 ^ 52 * 2 ^ (b + k) ≤ N * 2 ^ (b + k) := Nat.mul_le_mul_right _ hN1
      omega
/-- One round. -/
theorem round_mod (X Y k : Nat) (h : Y * 2 ^ k ≤ X) : (X - Y * 2 ^ k) % Y = X % Y := by
  conv => rhs; rw [show X = X - Y * 2 ^ k + Y * 2 ^ k by omega]
  rw [Nat.add_mul_mod_self_left]
end Go.Proofs.YtebjklppbkkinaaGreatDoor.F
/- math.Frexp and math.Ldexp of positive numbers. -/
namespace Go.Proofs.YtebjklppbkkinaaGreatDoor.F
open Go.RowKit Ieee

theorem p2_52 : p2 52 = 4841369599423283200 := by decide
theorem p2_m53 : p2 (-53) = 4368491638549381120 := by decide
theorem p2_0 : p2 0 = 4607182418800017408 := by decide
theorem and_exp (T : Int) (h0 : 0 ≤ T) (h : T < 2048) : bits .and .u64 T 2047 = T := by
  obtain ⟨t, rfl⟩ : ∃ t : Nat, T = t := ⟨T.toNat, by omega⟩
  have h' := u64_and_nat t 2047 (by omega) (by decide)
  rw [show ((2047 : Nat) : Int) = 2047 from rfl] at h'
  rw [h']
  have e : t &&& 2047 = t % 2 ^ 11 := Nat.and_two_pow_sub_one_eq_mod t 11
  rw [e]
  omega
theorem not_exp (y u F : Nat) (hy : y = u * 2 ^ 52 + F) (hF : F < 2 ^ 52) (hu : u < 2048) : bits .andNot .u64 (y : Int) 9218868437227405312 = (F : Int) := by
  have h := u64_andNot_nat y 9218868437227405312 (by omega) (by decide)
  rw [show ((9218868437227405312 : Nat) : Int) = 9218868437227405312 from rfl] at h
  rw [h]
  have e : (18446744073709551615 - 9218868437227405312 : Nat) = 2 ^ 63 ||| (2 ^ 52 - 1) := by decide
  have hz : y &&& 2 ^ 63 = 0 := by
    apply Nat.eq_of_testBit_eq
    intro i
    rw [Nat.testBit_and, Nat.testBit_two_pow, Nat.zero_testBit]
    by_cases hi : 63 = i
    · subst hi
      rw [Nat.testBit_lt_two_pow (show y < 2 ^ 63 by omega)]; rfl
    · simp [hi]
  rw [e, Nat.and_or_distrib_left, Nat.and_two_pow_sub_one_eq_mod, hz, Nat.zero_or]
  omega
theorem or_exp (F u : Nat) (hF : F < 2 ^ 52) (hu : u < 2048) : bits .or .u64 (F : Int) ((u : Int) * 4503599627370496) = ((u * 2 ^ 52 + F : Nat) : Int) := by
  have h := u64_or_nat F (u * 4503599627370496) (by omega) (by omega)
  rw [show ((u * 4503599627370496 : Nat) : Int) = (u : Int) * 4503599627370496 by omega] at h
  rw [h]
  have e : F ||| u * 4503599627370496 = u * 2 ^ 52 + F := by
    rw [Nat.or_comm]
    have := Nat.two_pow_add_eq_or_of_lt (i := 52) (b := F) hF u
    rw [Nat.mul_comm] at this
    exact this.symm
  rw [e]

/-- A number's parts, and how normalize answers. -/
def Nz (x M : Nat) (P : Int) : Prop := Nm x M P ∧ ∃ (y : Nat) (d : Int), y = Ieee.double.nearest false M (P - d) ∧ -1074 ≤ P - d ∧ P - d ≤ 971 ∧ -52 ≤ d ∧ d ≤ 0 ∧ ∀ w, Calls Tryz.prog 234 #[.float .f64 x] w fun r w' => r = .returned (.tuple #[.float .f64 y, .int .i64 d]) ∧ w' = w
set_option maxHeartbeats 400000 in
theorem nz_ex (x : Nat) (h0 : x ≠ 0) (hx : x < 0x7ff0000000000000) : ∃ M P, Nz x M P := by
  have kA := abs_any x (by omega)
  rw [Nat.mod_eq_of_lt (show x < 9223372036854775808 by omega)] at kA
  have hxo := pos_order x 4503599627370496 hx (by decide)
  by_cases hs : x < 2 ^ 52
  · obtain ⟨M, P, h, hP⟩ := nm_sub x h0 hs
    have hP2 := h.2.2.2.1
    refine ⟨M, P, h, _, -52, rfl, by omega, by omega, by decide, by decide, fun w => ?_⟩
    rw [Nat.compare_eq_lt.2 hs] at hxo
    obtain ⟨m, i, hr, hm0, hm53, hi, hnear⟩ := h.near
    have hmul : ∀ t w, (binOp .mul t (.float .f64 x) (.float .f64 4841369599423283200)).run Tryz.prog w = .ok (.float .f64 (Ieee.double.nearest false M (P - (-52)))) w := fun t w => by
      refine run_float_arith w .mul t .f64 _ _ _ ?_
      rw [← p2_52, mul_p2 x false m i 52 hr (by decide) (by decide), hnear 52]
      rfl
    generalize Ieee.double.nearest false M (P - (-52)) = Y at *
    clear hnear
    go_enter Tryz.func234, Tryz.ntmps234
    go_wp2_with fail
    go_fit (kA _)
    rintro r w ⟨rfl, rfl⟩
    go_wp2
    go_ret2
    exact ⟨rfl, rfl⟩
  · have h := nm_normal x (by omega) hx
    have hnb := near_norm (2 ^ 52 + x % 2 ^ 52) (((x / 2 ^ 52 : Nat) : Int) - 1075) h.1 h.2.1 (by omega) h.2.2.1
    refine ⟨_, _, h, x, 0, ?_, by omega, by have := h.2.2.1; omega, by decide, by decide, fun w => ?_⟩
    · rw [Int.sub_zero, hnb]
      omega
    · have hxo' : (FloatKind.f64.format.order x 4503599627370496 == some .lt) = false := by
        rw [hxo]
        refine beq_eq_false_iff_ne.2 fun h => ?_
        have := Nat.compare_eq_lt.1 (Option.some.inj h)
        omega
      clear hxo h hnb
      go_enter Tryz.func234, Tryz.ntmps234
      go_wp2_with fail
      go_fit (kA _)
      rintro r w ⟨rfl, rfl⟩
      go_wp2
      go_ret2
      exact ⟨rfl, rfl⟩
theorem eq0_no (x : Nat) (h0 : x ≠ 0) (hx : x < 0x7ff0000000000000) : (FloatKind.f64.format.order x 0 == some .eq) = false := by
  rw [pos_gt x h0 hx]; rfl
set_option maxHeartbeats 1000000 in
theorem frexp_any (x M : Nat) (P : Int) (h0 : x ≠ 0) (hx : x < 0x7ff0000000000000) (h : Nz x M P) (w : World) : Calls Tryz.prog 199 #[.float .f64 x] w fun r w' => r = .returned (.tuple #[.float .f64 (Ieee.double.nearest false M (-53)), .int .i64 (P + 53)]) ∧ w' = w := by
  have kf : ∀ w, Calls Tryz.prog 217 #[.float .f64 x] w fun r w' => r = .returned (.tuple #[.float .f64 (Ieee.double.nearest false M (-53)), .int .i64 (P + 53)]) ∧ w' = w := by
    intro w
    obtain ⟨hN, y, d, hy, hQ1, hQ2, hd1, hd2, kN⟩ := h
    have h1 := hN.1
    have h2 := hN.2.1
    have he := eq0_no x h0 hx
    have kI := isInf_any x (by omega)
    rw [infB_pos x hx] at kI
    have kB := isNaN_any x
    rw [pos_num x hx] at kB
    obtain ⟨hyl, hdv, -, hor⟩ := parts_arith M (P - d) y h1 h2 hQ1 hQ2 hy
    obtain ⟨T, hT⟩ : ∃ T, P - d + 1075 = T := ⟨_, rfl⟩
    rw [hT] at hdv
    have hand := and_exp T (by omega) (by omega)
    have hnot : bits .andNot .u64 (y : Int) 9218868437227405312 = ((M - 2 ^ 52 : Nat) : Int) := by
      rw [near_norm M (P - d) h1 h2 hQ1 hQ2] at hy
      exact not_exp y _ _ hy (by omega) (by omega)
    have hb := callBits
    have hf := callFrom
    generalize ((M - 2 ^ 52 : Nat) : Int) = F at *
    generalize hZ : Ieee.double.nearest false M (-53) = Z at *
    clear hZ hy hN
    go_enter Tryz.func217, Tryz.ntmps217
    go_wp2_with fail
    go_fit (kI _)
    rintro r w ⟨rfl, rfl⟩
    go_wp2_with fail
    go_fit (kB _)
    rintro r w ⟨rfl, rfl⟩
    go_wp2_with fail
    go_fit (kN _)
    rintro r w ⟨rfl, rfl⟩
    go_wp2
    go_ret2
    exact ⟨congrArg (fun z => Ending.returned (.tuple #[.float .f64 Z, .int .i64 z])) (show d + (T - 1023 + 1) = P + 53 by omega), rfl⟩
  generalize Ieee.double.nearest false M (-53) = Z at *
  go_enter Tryz.func199, Tryz.ntmps199
  go_wp2_with fail
  go_fit (kf _)
  rintro r w ⟨rfl, rfl⟩
  go_wp2
  go_ret2
  exact ⟨rfl, rfl⟩

theorem and_expI (T : Int) (h0 : 0 ≤ T) (h : T < 2048) : bits .and .i64 T 2047 = T := by
  have hm : (BitVec.ofInt 64 2047).toNat = 2 ^ 11 - 1 := by decide
  have key : (BitVec.ofInt 64 T &&& BitVec.ofInt 64 2047).toNat = (T % ((2 ^ 64 : Nat) : Int)).toNat % 2 ^ 11 := by
    rw [BitVec.toNat_and, BitVec.toNat_ofInt, hm, Nat.and_two_pow_sub_one_eq_mod]
  show IntKind.i64.wrap ((BitVec.ofInt 64 T &&& BitVec.ofInt 64 2047).toNat : Nat) = T
  rw [key, IntKind.wrap_i64]
  omega
theorem mul_turn (x y : Nat) (s t : Bool) (m n : Nat) (i j : Int) (hx : Ieee.double.read x = .number s m i) (hy : Ieee.double.read y = .number t n j) : floatBits .mul .f64 x y = floatBits .mul .f64 y x := by
  show ((Ieee.double.read x).product (Ieee.double.read y)).map Ieee.double.write = ((Ieee.double.read y).product (Ieee.double.read x)).map Ieee.double.write
  rw [hx, hy]
  show some (Ieee.double.nearest (s ^^ t) (m * n) (i + j)) = some (Ieee.double.nearest (t ^^ s) (n * m) (j + i))
  rw [Bool.xor_comm, Nat.mul_comm, Int.add_comm]
/-- What stands at the end of Ldexp. -/
theorem ldexp_mul (M : Nat) (Q a : Int) (h1 : 2 ^ 52 ≤ M) (h2 : M < 2 ^ 53) (hQ : -1074 ≤ Q) (hQ2 : Q ≤ 971) (ha : -1022 ≤ a) (ha2 : a ≤ 0) : floatBits .mul .f64 (p2 a) (Ieee.double.nearest false M Q) = some (Ieee.double.nearest false M (Q + a)) := by
  have hl := log2_52 M h1 h2
  obtain ⟨k, hk, hr, _⟩ := read_near false M Q (by omega) h2 hQ (by omega)
  rw [mul_turn _ _ _ _ _ _ _ _ (read_p2 a ha (by omega)) hr]
  exact mul_near false M Q a h2 hQ (.inr (by omega)) ha (by omega)
set_option maxRecDepth 100000 in
set_option maxHeartbeats 1000000 in
theorem ldexp_any (x M : Nat) (P : Int) (k : Nat) (h0 : x ≠ 0) (hx : x < 0x7ff0000000000000) (h : Nz x M P) (hk : P + 52 + k ≤ 1023) (w : World) : Calls Tryz.prog 200 #[.float .f64 x, .int .i64 (k : Int)] w fun r w' => r = .returned (.float .f64 (vw (uv x * 2 ^ k))) ∧ w' = w := by
  have kf : ∀ w, Calls Tryz.prog 219 #[.float .f64 x, .int .i64 (k : Int)] w fun r w' => r = .returned (.float .f64 (vw (uv x * 2 ^ k))) ∧ w' = w := by
    intro w
    rw [← nm_up x M P hx h.1 k]
    obtain ⟨hN, y, d, hy, hQ1, hQ2, hd1, hd2, kN⟩ := h
    have h1 := hN.1
    have h2 := hN.2.1
    have hlow := hN.2.2.2.1
    have he := eq0_no x h0 hx
    have kI := isInf_any x (by omega)
    rw [infB_pos x hx] at kI
    have kB := isNaN_any x
    rw [pos_num x hx] at kB
    obtain ⟨hyl, hdv, -, -⟩ := parts_arith M (P - d) y h1 h2 hQ1 hQ2 hy
    obtain ⟨T, hT⟩ : ∃ T, P - d + 1075 = T := ⟨_, rfl⟩
    rw [hT] at hdv
    have hand := and_expI T (by omega) (by omega)
    have hnot : bits .andNot .u64 (y : Int) 9218868437227405312 = ((M - 2 ^ 52 : Nat) : Int) := by
      rw [near_norm M (P - d) h1 h2 hQ1 hQ2] at hy
      exact not_exp y _ _ hy (by omega) (by omega)
    have hb := callBits
    have hf := callFrom
    have c1 : ¬ (k : Int) + d + (T - 1023) < -1075 := by omega
    have c2 : ¬ (1023 : Int) < (k : Int) + d + (T - 1023) := by omega
    clear hN
    by_cases c3 : (k : Int) + d + (T - 1023) < -1022
    · obtain ⟨u, hu⟩ : ∃ u : Nat, (k : Int) + d + (T - 1023) + 53 + 1023 = u := ⟨((k : Int) + d + (T - 1023) + 53 + 1023).toNat, by omega⟩
      have hor := or_exp (M - 2 ^ 52) u (by omega) (by omega)
      have hw : u * 2 ^ 52 + (M - 2 ^ 52) = Ieee.double.nearest false M ((u : Int) - 1075) := by
        rw [near_norm M _ h1 h2 (by omega) (by omega)]
        omega
      rw [hw] at hor
      have hmul : ∀ t w, (binOp .mul t (.float .f64 4368491638549381120) (.float .f64 (Ieee.double.nearest false M ((u : Int) - 1075)))).run Tryz.prog w = .ok (.float .f64 (Ieee.double.nearest false M (P + k))) w := fun t w => by
        refine run_float_arith w .mul t .f64 _ _ _ ?_
        rw [← p2_m53, ldexp_mul M _ (-53) h1 h2 (by omega) (by omega) (by decide) (by decide)]
        refine congrArg (fun z => some (Ieee.double.nearest false M z)) ?_
        omega
      generalize ((M - 2 ^ 52 : Nat) : Int) = F at *
      generalize Ieee.double.nearest false M ((u : Int) - 1075) = Z at *
      generalize Ieee.double.nearest false M (P + k) = Z2 at *
      clear hw hy
      go_enter Tryz.func219, Tryz.ntmps219
      go_wp2_with fail
      go_fit (kI _)
      rintro r w ⟨rfl, rfl⟩
      go_wp2_with fail
      go_fit (kB _)
      rintro r w ⟨rfl, rfl⟩
      go_wp2_with fail
      go_fit (kN _)
      rintro r w ⟨rfl, rfl⟩
      go_wp2
      go_ret
      exact ⟨rfl, rfl⟩
    · obtain ⟨u, hu⟩ : ∃ u : Nat, (k : Int) + d + (T - 1023) + 1023 = u := ⟨((k : Int) + d + (T - 1023) + 1023).toNat, by omega⟩
      have hor := or_exp (M - 2 ^ 52) u (by omega) (by omega)
      have hw : u * 2 ^ 52 + (M - 2 ^ 52) = Ieee.double.nearest false M ((u : Int) - 1075) := by
        rw [near_norm M _ h1 h2 (by omega) (by omega)]
        omega
      rw [hw] at hor
      have hmul : ∀ t w, (binOp .mul t (.float .f64 4607182418800017408) (.float .f64 (Ieee.double.nearest false M ((u : Int) - 1075)))).run Tryz.prog w = .ok (.float .f64 (Ieee.double.nearest false M (P + k))) w := fun t w => by
        refine run_float_arith w .mul t .f64 _ _ _ ?_
        rw [← p2_0, ldexp_mul M _ 0 h1 h2 (by omega) (by omega) (by decide) (by decide)]
        refine congrArg (fun z => some (Ieee.double.nearest false M z)) ?_
        omega
      generalize ((M - 2 ^ 52 : Nat) : Int) = F at *
      generalize Ieee.double.nearest false M ((u : Int) - 1075) = Z at *
      generalize Ieee.double.nearest false M (P + k) = Z2 at *
      clear hw hy
      go_enter Tryz.func219, Tryz.ntmps219
      go_wp2_with fail
      go_fit (kI _)
      rintro r w ⟨rfl, rfl⟩
      go_wp2_with fail
      go_fit (kB _)
      rintro r w ⟨rfl, rfl⟩
      go_wp2_with fail
      go_fit (kN _)
      rintro r w ⟨rfl, rfl⟩
      go_wp2
      go_ret
      exact ⟨rfl, rfl⟩
  generalize vw (uv x * 2 ^ k) = Z at *
  go_enter Tryz.func200, Tryz.ntmps200
  go_wp2_with fail
  go_fit (kf _)
  rintro r w ⟨rfl, rfl⟩
  go_wp2
  go_ret
  exact ⟨rfl, rfl⟩
end Go.Proofs.YtebjklppbkkinaaGreatDoor.F
/- math.Mod. -/
namespace Go.Proofs.YtebjklppbkkinaaGreatDoor.F
open Go.RowKit Ieee

/-- The sign's weight. -/
def sg (x : Nat) : Nat := x / 9223372036854775808 * 9223372036854775808
/-- The remainder's class. -/
def mdC (x y : Nat) : Option Nat :=
  if nanB x = true ∨ nanB y = true ∨ y % 9223372036854775808 = 0 ∨ x % 9223372036854775808 = 9218868437227405312 then none
  else if y % 9223372036854775808 = 9218868437227405312 then some x
  else some (sg x + vw (uv (x % 9223372036854775808) % uv (y % 9223372036854775808)))
theorem neg_eq (x : Nat) : Op.negFloat .f64 x = x ^^^ 2 ^ 63 := rfl
theorem neg_pos (x : Nat) (h : x < 2 ^ 63) : Op.negFloat .f64 x = x + 2 ^ 63 := by
  rw [neg_eq]
  have := Nat.two_pow_add_eq_or_of_lt (i := 63) (b := x) h 1
  rw [Nat.mul_one] at this
  rw [Nat.add_comm, this]
  apply Nat.eq_of_testBit_eq
  intro i
  rw [Nat.testBit_xor, Nat.testBit_or, Nat.testBit_two_pow]
  by_cases hi : 63 = i
  · subst hi
    rw [Nat.testBit_lt_two_pow h]; rfl
  · simp [hi]
theorem neg_neg (x : Nat) : Op.negFloat .f64 (Op.negFloat .f64 x) = x := by
  rw [neg_eq, neg_eq, Nat.xor_assoc, Nat.xor_self, Nat.xor_zero]
theorem run_neg {P : Program} (x : Nat) (w : World) : (Op.unary .neg (.float .f64 x)).run P w = .ok (.float .f64 (Op.negFloat .f64 x)) w := rfl
theorem run_neg2 {P : Program} (x y : Nat) (h : Op.negFloat .f64 x = y) (w : World) : (Op.unary .neg (.float .f64 x)).run P w = .ok (.float .f64 y) w := by rw [run_neg, h]
/-- What a word is. -/
theorem kinds (x : Nat) (_hx : x < 18446744073709551616) (hn : nanB x = false) : x % 9223372036854775808 < 9218868437227405312 ∨ x % 9223372036854775808 = 9218868437227405312 := by
  rw [nanB_eq] at hn
  have := of_decide_eq_false hn
  rw [show (2 : Nat) ^ 63 = 9223372036854775808 from rfl] at this
  omega
theorem infB_mod (x : Nat) (hn : nanB x = false) : infB (cl x) = infB (cl (x % 9223372036854775808)) := by
  have h2 : nanB (x % 9223372036854775808) = false := by
    rw [nanB_eq] at hn ⊢
    rw [show (2 : Nat) ^ 63 = 9223372036854775808 from rfl] at hn ⊢
    rw [Nat.mod_mod]; exact hn
  unfold infB
  rw [cl_num hn, cl_num h2]
  unfold ab
  simp only [Option.map_some, Nat.mod_mod]
theorem infB_iff (x : Nat) (hn : nanB x = false) (hx : x < 18446744073709551616) : infB (cl x) = decide (x % 9223372036854775808 = 9218868437227405312) := by
  rw [infB_mod x hn]
  rcases kinds x hx hn with h | h
  · rw [infB_pos _ h, decide_eq_false (by omega)]
  · rw [h]; decide
/-- How it stands to 0. -/
theorem ord0 (x : Nat) (hx : x < 18446744073709551616) (hn : nanB x = false) : FloatKind.f64.format.order x 0 = some (if x % 9223372036854775808 = 0 then .eq else if x < 9223372036854775808 then .gt else .lt) := by
  rcases ends_or x hx with ⟨c, h⟩ | ⟨h0, h⟩
  · rcases h with ⟨h, -⟩ | ⟨-, ho, -⟩ | ⟨-, ho, -⟩ | ⟨rfl, -⟩
    · rw [hn] at h; cases h
    · by_cases hz : x % 9223372036854775808 = 0
      · exfalso
        have : x = 0 ∨ x = 9223372036854775808 := by omega
        rcases this with rfl | rfl <;> revert ho <;> decide
      · by_cases hp : x < 9223372036854775808
        · exfalso
          rw [Nat.mod_eq_of_lt hp] at hz
          rcases kinds x hx hn with h | h
          · rw [Nat.mod_eq_of_lt hp] at h
            rw [pos_gt x hz h] at ho; cases ho
          · rw [Nat.mod_eq_of_lt hp] at h
            subst h
            revert ho; decide
        · rw [ho, if_neg hz, if_neg hp]
    · by_cases hz : x % 9223372036854775808 = 0
      · rw [ho, if_pos hz]
      · exfalso
        by_cases hp : x < 9223372036854775808
        · rw [Nat.mod_eq_of_lt hp] at hz
          rcases kinds x hx hn with h | h
          · rw [Nat.mod_eq_of_lt hp] at h
            rw [pos_gt x hz h] at ho; cases ho
          · rw [Nat.mod_eq_of_lt hp] at h
            subst h
            revert ho; decide
        · have hk := kinds x hx hn
          cases hr : Ieee.double.read x with
          | nan s f => unfold nanB at hn; rw [hr] at hn; cases hn
          | infinity s =>
            have e : FloatKind.f64.format.order x 0 = (Ieee.double.read x).order (Ieee.double.read 0) := rfl
            rw [e, hr, rd0] at ho
            cases s <;> cases ho
          | number s m i =>
            have hb := ord_bd x 0 s m i false 0 (-1074) hr rd0
            have hu := read_uv x _ m i hr
            have hpos : uv 0 < uv (x % 2 ^ 63) := uv_strict _ _ (by omega)
            have h00 : uv 0 = 0 := rfl
            have z0 : un false 0 (-1074) = 0 := by unfold un; rw [signed_eq, Nat.zero_mul]; rfl
            rw [z0] at hb
            have ha := un_abs s m i
            have h1 : ¬ 0 < un s m i := fun hc => by have := hb.1.2 hc; rw [ho] at this; cases this
            have h2 : ¬ un s m i < 0 := fun hc => by have := hb.2.2 hc; rw [ho] at this; cases this
            omega
    · decide
  · rw [pos_gt x h0 h, if_neg (by omega), if_pos (by omega)]
theorem frexp_inf (w : World) : Calls Tryz.prog 199 #[.float .f64 9218868437227405312] w fun r w' => r = .returned (.tuple #[.float .f64 9218868437227405312, .int .i64 0]) ∧ w' = w := by
  have kf : ∀ w, Calls Tryz.prog 217 #[.float .f64 9218868437227405312] w fun r w' => r = .returned (.tuple #[.float .f64 9218868437227405312, .int .i64 0]) ∧ w' = w := by
    intro w
    have kI := isInf_any 9218868437227405312 (by decide)
    rw [show infB (cl 9218868437227405312) = true by decide] at kI
    have he : (FloatKind.f64.format.order 9218868437227405312 0 == some .eq) = false := by decide
    go_enter Tryz.func217, Tryz.ntmps217
    go_wp2_with fail
    go_fit (kI _)
    rintro r w ⟨rfl, rfl⟩
    go_wp2
    go_ret2
    exact ⟨rfl, rfl⟩
  go_enter Tryz.func199, Tryz.ntmps199
  go_wp2_with fail
  go_fit (kf _)
  rintro r w ⟨rfl, rfl⟩
  go_wp2
  go_ret2
  exact ⟨rfl, rfl⟩
end Go.Proofs.YtebjklppbkkinaaGreatDoor.F
