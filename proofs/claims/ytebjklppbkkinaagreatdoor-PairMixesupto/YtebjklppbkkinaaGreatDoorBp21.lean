/- A bundle of texts. -/
import Derived.Test.YtebjklppbkkinaaGreatDoorBp20
import Derived.Test.YtebjklppbkkinaaGreatDoorBp17
/- Floor of any float; Round on both sides. -/
namespace Go.Proofs.YtebjklppbkkinaaGreatDoor.F
open Go.RowKit Ieee

theorem nanB_of (n : Nat) (h : 0x7ff0000000000000 < n % 2 ^ 63) : nanB n = true := by
  rw [nanB_eq]; exact decide_eq_true h
theorem read_nan_lt (n : Nat) (s : Bool) (f : Nat) (h : Ieee.double.read n = .nan s f) : f < 2 ^ 52 := by
  unfold Ieee.Format.read at h
  have h1 : Ieee.double.binade = 2 ^ 52 := rfl
  have h2 : Ieee.double.infRung = 0x7ff0000000000000 := by decide
  have h3 : Ieee.double.signWeight = 2 ^ 63 := rfl
  simp only [h1, h2, h3] at h
  split at h
  · cases h
  · split at h
    · cases h
    · split at h
      · cases h
      · cases h
        have := Nat.mod_lt n (show 2 ^ 63 > 0 by decide)
        omega
theorem quiet_nan (s : Bool) (t : Nat) (ht : t < 2 ^ 52) : nanB (FloatKind.f64.encode (.nan s (FloatKind.f64.format.quiet t))) = true ∧ FloatKind.f64.encode (.nan s (FloatKind.f64.format.quiet t)) < 18446744073709551616 := by
  have h1 : FloatKind.f64.format.quiet t = t ||| 2 ^ 51 := rfl
  have h2 : t ||| 2 ^ 51 < 2 ^ 52 := Nat.or_lt_two_pow ht (by decide)
  have h3 : 2 ^ 51 ≤ t ||| 2 ^ 51 := Nat.right_le_or
  rw [h1]
  generalize t ||| 2 ^ 51 = q at *
  have h4 : FloatKind.f64.encode (.nan s q) = Ieee.double.word s (0x7ff0000000000000 + q % 2 ^ 52) := rfl
  rw [h4]
  have h5 : Ieee.double.signWeight = 2 ^ 63 := rfl
  constructor
  · apply nanB_of
    unfold Ieee.Format.word
    rw [h5]
    cases s <;> simp <;> omega
  · unfold Ieee.Format.word
    rw [h5]
    cases s <;> simp <;> omega
theorem ti_nan (y : Nat) (hy : y < 18446744073709551616) (n : String) (h : nanB y = true) (w : World) : ∃ z k, (Extern.MathFloor.toIntegral n .down #[.float .f64 y]).run Tryz.prog w = .ok (.float .f64 z) (w.drewN k) ∧ nanB z = true ∧ z < 18446744073709551616 := by
  obtain ⟨s, t, hr⟩ : ∃ s t, Ieee.double.read y = .nan s t := by
    unfold nanB at h
    cases hr : Ieee.double.read y with
    | nan s f => exact ⟨s, f, rfl⟩
    | infinity s => rw [hr] at h; cases h
    | number s m i => rw [hr] at h; cases h
  have ht := read_nan_lt y s t hr
  have e : FloatKind.f64.decode y = Ieee.double.read y := rfl
  suffices H : ∀ X : Sem Value, X = Extern.MathFloor.toIntegral n .down #[.float .f64 y] → ∃ z k, X.run Tryz.prog w = .ok (.float .f64 z) (w.drewN k) ∧ nanB z = true ∧ z < 18446744073709551616 from H _ rfl
  intro X hX
  conv at hX => rhs; whnf
  rw [e, hr] at hX
  dsimp only at hX
  subst hX
  split
  · exact ⟨y, 0, by simp; rfl, h, hy⟩
  · simp only [Sem.run_bind, run_choose_drew, Question.forced]
    simp only [Nat.reduceEqDiff, decide_false, Bool.false_eq_true, if_false, Result.andThen, Sem.run_pure]
    split
    · exact ⟨_, 1, rfl, h, hy⟩
    · exact ⟨_, 1, rfl, quiet_nan s t ht⟩
theorem flr_lt (y : Nat) : flr y < 18446744073709551616 := FloatKind.f64.format.write_lt _
/-- A class made whole. -/
def flrC (c : Option Nat) : Option Nat := c.map flr
set_option maxRecDepth 100000 in
set_option maxHeartbeats 400000 in
theorem floor_any (y : Nat) (hy : y < 18446744073709551616) (w : World) : Calls Tryz.prog 163 #[.float .f64 y] w (RF w (flrC (cl y))) := by
  cases hn : nanB y
  · refine (floor_num y hn w).mono ?_
    rintro r w' ⟨rfl, rfl⟩
    refine ⟨_, 0, rfl, rfl, flr_lt y, ?_⟩
    rw [cl_num hn, cl_num (flr_num y hn)]; rfl
  · obtain ⟨z, k, hz, hzn, hzl⟩ := ti_nan y hy "math.archFloor" hn w
    have hc : (callFunc 201 #[.float .f64 y]).run Tryz.prog w = .ok (.value (.float .f64 z)) (w.drewN k) := by rw [callFloor0, hz]; rfl
    go_enter Tryz.func163, Tryz.ntmps163
    go_wp2
    go_ret
    exact ⟨z, k, rfl, rfl, hzl, by rw [cl_nan hn, cl_nan hzn]; rfl⟩
/-- Round's class. -/
def rdC (x t : Option Nat) : Option Nat := fb .quo (flrC (fb .add (fb .mul x (fb .quo (some 4607182418800017408) t)) (some 4602678819172646912))) (fb .quo (some 4607182418800017408) t)
end Go.Proofs.YtebjklppbkkinaaGreatDoor.F
/- The order of floats, on both sides. -/
namespace Go.Proofs.YtebjklppbkkinaaGreatDoor.F
open Go.RowKit Ieee

def sv (s : Bool) (m : Nat) : Int := if s = true then -(m : Int) else (m : Int)
def sgn (x : Nat) : Bool := x / 2 ^ 63 % 2 == 1
/-- The place of a float where numbers are sorted. -/
def ky (x : Nat) : Int := if nanB x = true then -9223372036854775808 else sv (sgn x) (x % 2 ^ 63)
def cmS (a b : Int) : Int := if a < b then -1 else if b < a then 1 else 0

theorem sv_uv (s t : Bool) (a b : Nat) : sv s (uv a) < sv t (uv b) ↔ sv s a < sv t b := by
  have h0 : uv 0 = 0 := rfl
  have z : ∀ a, 0 < a → 0 < uv a := fun a h => by have := uv_strict 0 a h; omega
  have za := Nat.eq_zero_or_pos a
  have zb := Nat.eq_zero_or_pos b
  have ha : a = 0 → uv a = 0 := fun h => by rw [h]; rfl
  have hb : b = 0 → uv b = 0 := fun h => by rw [h]; rfl
  have ha2 := z a
  have hb2 := z b
  have m1 := uv_strict a b
  have m2 := uv_strict b a
  have m3 : a = b → uv a = uv b := fun h => by rw [h]
  have tri := Nat.lt_trichotomy a b
  unfold sv
  generalize uv a = x at *
  generalize uv b = y at *
  cases s <;> cases t
  · simp only [Bool.false_eq_true, if_false]; omega
  · simp only [Bool.false_eq_true, if_false, if_true]; omega
  · simp only [Bool.false_eq_true, if_false, if_true]; omega
  · simp only [if_true]; omega

theorem read_sign (x : Nat) : (∀ s m i, Ieee.double.read x = .number s m i → s = sgn x ∧ un s m i = sv (sgn x) (uv (x % 2 ^ 63)) ∧ x % 2 ^ 63 < 0x7ff0000000000000) ∧ (∀ s, Ieee.double.read x = .infinity s → s = sgn x ∧ x % 2 ^ 63 = 0x7ff0000000000000) := by
  have hb : Ieee.double.binade = 2 ^ 52 := rfl
  have hl : Ieee.double.leastPlace = -1074 := by decide
  have hi : Ieee.double.infRung = 0x7ff0000000000000 := by decide
  have hsw : Ieee.double.signWeight = 2 ^ 63 := rfl
  constructor
  · intro s m i hr
    have hu := read_uv x s m i hr
    have hr' := hr
    unfold Format.read at hr'
    simp only [hb, hl, hi, hsw] at hr'
    have hs : s = sgn x ∧ x % 2 ^ 63 < 0x7ff0000000000000 := by
      split at hr'
      · cases hr'; exact ⟨rfl, by omega⟩
      · split at hr'
        · cases hr'; exact ⟨rfl, by omega⟩
        · split at hr' <;> cases hr'
    refine ⟨hs.1, ?_, hs.2⟩
    unfold un
    rw [signed_eq, hu, hs.1]
    unfold sv
    cases sgn x <;> simp
  · intro s hr
    unfold Format.read at hr
    simp only [hb, hl, hi, hsw] at hr
    split at hr
    · cases hr
    · split at hr
      · cases hr
      · split at hr
        · rename_i h
          cases hr
          exact ⟨rfl, h⟩
        · cases hr
theorem key_order (x y : Nat) (hx : nanB x = false) (hy : nanB y = false) : FloatKind.f64.format.order x y = some (compare (ky x) (ky y)) := by
  have e : FloatKind.f64.format.order x y = (Ieee.double.read x).order (Ieee.double.read y) := rfl
  have kx : ky x = sv (sgn x) (x % 2 ^ 63) := if_neg (by rw [hx]; decide)
  have kyy : ky y = sv (sgn y) (y % 2 ^ 63) := if_neg (by rw [hy]; decide)
  rw [kx, kyy]
  have rx := read_sign x
  have ry := read_sign y
  cases hrx : Ieee.double.read x with
  | nan s f => unfold nanB at hx; rw [hrx] at hx; cases hx
  | infinity s =>
    obtain ⟨h1, h2⟩ := rx.2 s hrx
    rw [← h1, h2]
    cases hry : Ieee.double.read y with
    | nan t f => unfold nanB at hy; rw [hry] at hy; cases hy
    | infinity t =>
      obtain ⟨h3, h4⟩ := ry.2 t hry
      rw [e, hrx, hry, ← h3, h4]
      cases s <;> cases t <;> rfl
    | number t m i =>
      obtain ⟨h3, _, h4⟩ := ry.1 t m i hry
      rw [e, hrx, hry, ← h3]
      generalize y % 2 ^ 63 = r at *
      cases s
      · show some Ordering.gt = _
        congr 1
        refine (Int.compare_eq_gt.2 ?_).symm
        unfold sv; cases t <;> simp <;> omega
      · show some Ordering.lt = _
        congr 1
        refine (Int.compare_eq_lt.2 ?_).symm
        unfold sv; cases t <;> simp <;> omega
  | number s m i =>
    obtain ⟨h1, h1u, h2⟩ := rx.1 s m i hrx
    cases hry : Ieee.double.read y with
    | nan t f => unfold nanB at hy; rw [hry] at hy; cases hy
    | infinity t =>
      obtain ⟨h3, h4⟩ := ry.2 t hry
      rw [e, hrx, hry, ← h3, h4, ← h1]
      generalize x % 2 ^ 63 = r at *
      cases t
      · show some Ordering.lt = _
        congr 1
        refine (Int.compare_eq_lt.2 ?_).symm
        unfold sv; cases s <;> simp <;> omega
      · show some Ordering.gt = _
        congr 1
        refine (Int.compare_eq_gt.2 ?_).symm
        unfold sv; cases s <;> simp <;> omega
    | number t n j =>
      obtain ⟨h3, h3u, h4⟩ := ry.1 t n j hry
      have k := ord_bd x y s m i t n j hrx hry
      rw [h1u, h3u, sv_uv, sv_uv] at k
      obtain ⟨o, ho⟩ : ∃ o, FloatKind.f64.format.order x y = some o := by
        rw [e, hrx, hry]; exact ⟨_, rfl⟩
      rw [ho]
      rw [ho] at k
      congr 1
      generalize sv (sgn x) (x % 2 ^ 63) = u at *
      generalize sv (sgn y) (y % 2 ^ 63) = v at *
      rcases Int.lt_trichotomy u v with h | h | h
      · rw [Option.some.inj (k.2.2 h)]; exact (Int.compare_eq_lt.2 h).symm
      · subst h
        cases o with
        | lt => exact absurd (k.2.1 rfl) (Int.lt_irrefl _)
        | gt => exact absurd (k.1.1 rfl) (Int.lt_irrefl _)
        | eq => exact (Int.compare_eq_eq.2 rfl).symm
      · rw [Option.some.inj (k.1.2 h)]; exact (Int.compare_eq_gt.2 h).symm
theorem ky_num (x : Nat) (hx : nanB x = false) : -9223372036854775808 < ky x := by
  unfold ky
  rw [if_neg (by rw [hx]; decide)]
  unfold sv
  have : x % 2 ^ 63 < 2 ^ 63 := Nat.mod_lt _ (by decide)
  split <;> omega
theorem ky_nan (x : Nat) (hx : nanB x = true) : ky x = -9223372036854775808 := if_pos hx

end Go.Proofs.YtebjklppbkkinaaGreatDoor.F
/- Whole numbers and odd ones, on both sides. -/
namespace Go.Proofs.YtebjklppbkkinaaGreatDoor.F
open Go.RowKit Ieee

/-- A finite word. -/
def Fi (y : Nat) : Prop := y < 18446744073709551616 ∧ nanB y = false ∧ y % 9223372036854775808 < 0x7ff0000000000000
theorem Fi.inf {y : Nat} (h : Fi y) : infB (cl y) = false := by
  rw [infB_mod y h.2.1, infB_pos _ h.2.2]
/-- Is it whole? -/
def whB (y : Nat) : Bool := FloatKind.f64.format.order y (flr y) == some .eq
theorem whB_turn (y : Nat) (h : nanB y = false) : (FloatKind.f64.format.order (flr y) y == some .eq) = whB y := by
  unfold whB
  rw [key_order _ _ h (flr_num y h), key_order _ _ (flr_num y h) h]
  generalize ky y = a
  generalize ky (flr y) = b
  rcases Int.lt_trichotomy a b with c | c | c
  · rw [Int.compare_eq_lt.2 c, Int.compare_eq_gt.2 c]; rfl
  · subst c; rfl
  · rw [Int.compare_eq_gt.2 c, Int.compare_eq_lt.2 c]; rfl
/-- A number of at most N, made an integer. -/
theorem toInt_bd (x N : Nat) (hx : x % 2 ^ 63 < 0x7ff0000000000000) (hb : uv (x % 2 ^ 63) ≤ N * U) (hN : N < 2 ^ 62) : ∃ K, floatToIntVal .f64 x .i64 = some K ∧ -(N : Int) ≤ K ∧ K ≤ (N : Int) ∧ (x < 2 ^ 63 → 0 ≤ K) := by
  obtain ⟨s, m, i, hr⟩ := read_fin x hx
  have hi := (read_place x s m i hr).1
  have hu := read_uv x s m i hr
  rw [← hu] at hb
  obtain ⟨c, hc⟩ : ∃ c, Toward.zero.cut s (m <<< i.toNat) (-i).toNat = c := ⟨_, rfl⟩
  have hs := ((read_sign x).1 s m i hr).1
  have hcN : c ≤ N := by
    rw [zero_form] at hc
    have h0 : (m <<< i.toNat) / 2 ^ (-i).toNat ≤ N := by
      refine Nat.div_le_of_le_mul ?_
      rw [Nat.shiftLeft_eq]
      have hp : 0 < 2 ^ (min i 0 + 1074).toNat := Nat.two_pow_pos _
      refine Nat.le_of_mul_le_mul_right ?_ hp
      have e1 : m * 2 ^ i.toNat * 2 ^ (min i 0 + 1074).toNat = m * 2 ^ (i + 1074).toNat := by
        rw [Nat.mul_assoc, ← Nat.pow_add]
        congr 2
        omega
      have e2 : 2 ^ (-i).toNat * N * 2 ^ (min i 0 + 1074).toNat = N * U := by
        rw [Nat.mul_comm (2 ^ (-i).toNat) N, Nat.mul_assoc, ← Nat.pow_add, U_eq]
        congr 2
        omega
      rw [e1, e2]
      exact hb
    rw [← hc]
    generalize m <<< i.toNat = n at *
    generalize (-i).toNat = d at *
    by_cases h : d ≤ n.log2 + 2
    · rw [Nat.min_eq_left h, Nat.shiftLeft_eq, Nat.one_mul]
      exact h0
    · have e : (1 : Nat) <<< min d (n.log2 + 2) = 2 ^ (n.log2 + 2) := by rw [Nat.min_eq_right (by omega), Nat.shiftLeft_eq, Nat.one_mul]
      have h1 := Nat.lt_log2_self (n := n)
      have h2 : 2 ^ (n.log2 + 1) ≤ 2 ^ (n.log2 + 2) := pow_le _ _ (by omega)
      rw [e, Nat.div_eq_of_lt (show n < 2 ^ (n.log2 + 2) by omega)]
      exact Nat.zero_le _
  have key : (FloatKind.f64.decode x).toInt .zero = some (Ieee.signed s c 0) := by
    show (Ieee.double.read x).toInt .zero = _
    rw [hr]
    simp only [Datum.toInt, Datum.integral]
    rw [hc]
  refine ⟨Ieee.signed s c 0, ?_, ?_, ?_, ?_⟩
  · unfold floatToIntVal
    rw [key]
    have hx : IntKind.i64.min = -9223372036854775808 := by decide
    have hy : IntKind.i64.max = 9223372036854775807 := by decide
    simp only [hx, hy]
    refine if_pos ?_
    rw [signed_eq]
    cases s <;> simp <;> omega
  · rw [signed_eq]
    cases s <;> simp <;> omega
  · rw [signed_eq]
    cases s <;> simp <;> omega
  · intro hp
    have : s = false := by
      rw [hs]
      unfold sgn
      rw [Nat.div_eq_of_lt hp]; rfl
    rw [this, signed_eq]
    simp
/-- Its whole number, cut. -/
def kInt (y : Nat) : Int := (floatToIntVal .f64 y .i64).getD 0
/-- Is it odd? -/
def odB (y : Nat) : Bool := whB y && (FloatKind.f64.format.order (y % 9223372036854775808) 4845873199050653696 == some .lt) && ((kInt y).tmod 2 != 0)
set_option maxHeartbeats 400000 in
theorem isWhole_any (y : Nat) (h : Fi y) (w : World) : Calls Tryz.prog 122 #[.float .f64 y] w fun r w' => r = .returned (.bool (whB y)) ∧ w' = w := by
  have kF := floor_num y h.2.1
  have kI := isInf_any y h.1
  rw [h.inf] at kI
  cases hw : whB y
  · unfold whB at hw
    go_enter Tryz.func122, Tryz.ntmps122
    go_wp2_with fail
    go_fit (kF _)
    rintro r w ⟨rfl, rfl⟩
    go_wp2
    go_ret
    exact ⟨rfl, rfl⟩
  · unfold whB at hw
    go_enter Tryz.func122, Tryz.ntmps122
    go_wp2_with fail
    go_fit (kF _)
    rintro r w ⟨rfl, rfl⟩
    go_wp2_with fail
    go_fit (kI _)
    rintro r w ⟨rfl, rfl⟩
    go_wp2
    go_ret
    exact ⟨rfl, rfl⟩
set_option maxHeartbeats 400000 in
theorem whole_ref (y : Nat) (h : Fi y) (w : World) : Calls Tryz.prog 139 #[.float .f64 y] w fun r w' => r = .returned (.bool (whB y)) ∧ w' = w := by
  have kF := floor_num y h.2.1
  have kI := endless_any y h.1
  rw [h.inf] at kI
  have kB := bad_any y
  rw [h.2.1] at kB
  have ht := whB_turn y h.2.1
  generalize whB y = B at *
  go_enter Tryz.func139, Tryz.ntmps139
  go_wp2_with fail
  go_fit (kB _)
  rintro r w ⟨rfl, rfl⟩
  go_wp2_with fail
  go_fit (kI _)
  rintro r w ⟨rfl, rfl⟩
  go_wp2_with fail
  go_fit (kF _)
  rintro r w ⟨rfl, rfl⟩
  go_wp2
  go_ret
  exact ⟨rfl, rfl⟩
theorem gen53 (e f C A B : Nat) (he : e = f + 1) (hC : C = 4503599627370496) (hA : A = 2 ^ e) (hB : B = 2 ^ f) : C * A = 9007199254740992 * B := by
  subst he hC hA hB
  rw [Nat.pow_succ]
  omega
theorem rd53 : Ieee.double.read 4845873199050653696 = .number false (2 ^ 52) 1 := by decide
theorem uv_53 : uv 4845873199050653696 = 9007199254740992 * U := by
  have h := read_uv 4845873199050653696 _ _ _ rd53
  rw [show 4845873199050653696 % 2 ^ 63 = 4845873199050653696 by decide] at h
  rw [← h]
  exact gen53 _ 1074 (2 ^ 52) _ U (by decide) rfl rfl U_eq
theorem small_int (y : Nat) (h : Fi y) (hl : (FloatKind.f64.format.order (y % 9223372036854775808) 4845873199050653696 == some .lt) = true) : ∃ K, floatToIntVal .f64 y .i64 = some K ∧ -9007199254740992 ≤ K ∧ K ≤ 9007199254740992 := by
  rw [pos_order _ _ h.2.2 (by decide)] at hl
  have hlt := Nat.compare_eq_lt.1 (Option.some.inj (eq_of_beq hl))
  have hu := uv_mono _ _ (Nat.le_of_lt hlt)
  rw [uv_53] at hu
  obtain ⟨K, h1, h2, h3, _⟩ := toInt_bd y 9007199254740992 h.2.2 hu (by decide)
  exact ⟨K, h1, h2, h3⟩
set_option maxHeartbeats 1000000 in
theorem isOdd_any (y : Nat) (h : Fi y) (w : World) : Calls Tryz.prog 127 #[.float .f64 y] w fun r w' => r = .returned (.bool (odB y)) ∧ w' = w := by
  have kW := isWhole_any y h
  have kA := abs_any y h.1
  cases hw : whB y
  · have e : odB y = false := by unfold odB; rw [hw]; rfl
    rw [hw] at kW
    rw [e]
    go_enter Tryz.func127, Tryz.ntmps127
    go_wp2_with fail
    go_fit (kW _)
    rintro r w ⟨rfl, rfl⟩
    go_wp2
    go_ret
    exact ⟨rfl, rfl⟩
  · rw [hw] at kW
    cases hl : (FloatKind.f64.format.order (y % 9223372036854775808) 4845873199050653696 == some .lt)
    · have e : odB y = false := by unfold odB; rw [hw, hl]; rfl
      rw [e]
      generalize y % 9223372036854775808 = y' at *
      go_enter Tryz.func127, Tryz.ntmps127
      go_wp2_with fail
      go_fit (kW _)
      rintro r w ⟨rfl, rfl⟩
      go_wp2_with fail
      go_fit (kA _)
      rintro r w ⟨rfl, rfl⟩
      go_wp2
      go_ret
      exact ⟨rfl, rfl⟩
    · have e : odB y = ((kInt y).tmod 2 != 0) := by unfold odB; rw [hw, hl]; rfl
      rw [e]
      obtain ⟨K, hK, hK1, hK2⟩ := small_int y h hl
      have hcv : ∀ w, (convert 23 2 (.float .f64 y)).run Tryz.prog w = .ok (.int .i64 K) w := fun w => run_convert_float_int w 23 2 .f64 .i64 y K (by rw [Tryz.underlying23]; rfl) Tryz.underlying2 hK
      have e2 : kInt y = K := by unfold kInt; rw [hK]; rfl
      rw [e2]
      generalize y % 9223372036854775808 = y' at *
      clear hK e e2
      go_enter Tryz.func127, Tryz.ntmps127
      go_wp2_with fail
      go_fit (kW _)
      rintro r w ⟨rfl, rfl⟩
      go_wp2_with fail
      go_fit (kA _)
      rintro r w ⟨rfl, rfl⟩
      go_wp2
      go_ret
      exact ⟨rfl, rfl⟩
set_option maxHeartbeats 1000000 in
theorem odd_ref (y : Nat) (h : Fi y) (w : World) : Calls Tryz.prog 142 #[.float .f64 y] w fun r w' => r = .returned (.bool (odB y)) ∧ w' = w := by
  have kW := whole_ref y h
  have kA := abs_any y h.1
  cases hw : whB y
  · have e : odB y = false := by unfold odB; rw [hw]; rfl
    rw [hw] at kW
    rw [e]
    go_enter Tryz.func142, Tryz.ntmps142
    go_wp2_with fail
    go_fit (kW _)
    rintro r w ⟨rfl, rfl⟩
    go_wp2
    go_ret
    exact ⟨rfl, rfl⟩
  · rw [hw] at kW
    cases hl : (FloatKind.f64.format.order (y % 9223372036854775808) 4845873199050653696 == some .lt)
    · have e : odB y = false := by unfold odB; rw [hw, hl]; rfl
      rw [e]
      generalize y % 9223372036854775808 = y' at *
      go_enter Tryz.func142, Tryz.ntmps142
      go_wp2_with fail
      go_fit (kW _)
      rintro r w ⟨rfl, rfl⟩
      go_wp2_with fail
      go_fit (kA _)
      rintro r w ⟨rfl, rfl⟩
      go_wp2
      go_ret
      exact ⟨rfl, rfl⟩
    · have e : odB y = ((kInt y).tmod 2 != 0) := by unfold odB; rw [hw, hl]; rfl
      rw [e]
      obtain ⟨K, hK, hK1, hK2⟩ := small_int y h hl
      have hcv : ∀ w, (convert 23 2 (.float .f64 y)).run Tryz.prog w = .ok (.int .i64 K) w := fun w => run_convert_float_int w 23 2 .f64 .i64 y K (by rw [Tryz.underlying23]; rfl) Tryz.underlying2 hK
      have e2 : kInt y = K := by unfold kInt; rw [hK]; rfl
      rw [e2]
      generalize y % 9223372036854775808 = y' at *
      clear hK e e2
      go_enter Tryz.func142, Tryz.ntmps142
      go_wp2_with fail
      go_fit (kW _)
      rintro r w ⟨rfl, rfl⟩
      go_wp2_with fail
      go_fit (kA _)
      rintro r w ⟨rfl, rfl⟩
      go_wp2
      go_ret
      exact ⟨rfl, rfl⟩
end Go.Proofs.YtebjklppbkkinaaGreatDoor.F
/- The logarithms, on both sides. -/
namespace Go.Proofs.YtebjklppbkkinaaGreatDoor.F
open Go.RowKit Ieee

/-- Both sides answer alike. -/
def Both (f g : FuncId) (x : Nat) : Prop := ∃ c, (∀ w, Calls Tryz.prog f #[.float .f64 x] w (RF w c)) ∧ (∀ w, Calls Tryz.prog g #[.float .f64 x] w (RF w c))
/-- A number's parts: how the functions of both sides answer. -/
def Prt (x mw : Nat) (e : Int) : Prop := mw < 18446744073709551616 ∧ (∀ w, Calls Tryz.prog 168 #[.float .f64 x] w fun r w' => r = .returned (.tuple #[.float .f64 mw, .float .f64 (iw e)]) ∧ w' = w) ∧ (∀ w, Calls Tryz.prog 179 #[.float .f64 x] w fun r w' => r = .returned (.tuple #[.float .f64 mw, .int .i64 e]) ∧ w' = w)
theorem prt_ex (x : Nat) (h0 : x ≠ 0) (hx : x < 0x7ff0000000000000) : ∃ mw e, Prt x mw e := by
  by_cases hs : x < 4503599627370496
  · obtain ⟨M, P, h, hP⟩ := nm_sub x h0 hs
    have hl := (half_cmp M (qs M) h.1 h.2.1 (by unfold qs; split <;> decide)).2.2
    exact ⟨_, _, by omega, parts_sub x M P hx h hs hP, rparts_any x M P hx h⟩
  · have h := nm_normal x (by omega) hx
    generalize hM : 2 ^ 52 + x % 2 ^ 52 = M at h
    generalize hP : ((x / 2 ^ 52 : Nat) : Int) - 1075 = P at h
    have hl := (half_cmp M (qs M) h.1 h.2.1 (by unfold qs; split <;> decide)).2.2
    refine ⟨_, _, by omega, parts_norm x M P hx h hs (by omega) ?_, rparts_any x M P hx h⟩
    rw [near_norm M P h.1 h.2.1 (by omega) h.2.2.1]
    omega
def lnC (mw : Nat) (e : Int) : Option Nat := fb .add (fb .mul (some (iw e)) (some 4604418534312771584)) (fb .add (lnF (cl mw)) (fb .mul (some (iw e)) (some 4455313330490472685)))
def l2C (mw : Nat) (e : Int) : Option Nat := fb .add (some (iw e)) (fb .mul (lnF (cl mw)) (some 4609176140021203710))
set_option maxHeartbeats 400000 in
theorem ln_end (x : Nat) (c : Option Nat) (h : End x c) (w : World) : Calls Tryz.prog 126 #[.float .f64 x] w (RF w c) := by
  have kA := hasParts_no x c h
  have kB := logOfEnd_any x c h
  go_enter Tryz.func126, Tryz.ntmps126
  go_wp2_with fail
  go_fit (kA _)
  rintro r w ⟨rfl, rfl⟩
  go_wp2_with fail
  go_fit (kB _)
  rintro r w2 ⟨z, k, rfl, rfl, hzl, hzc⟩
  have HZ : Hid (cl z = c) := hzc
  clear hzc
  go_wp2
  go_ret
  exact ⟨_, _, rfl, rfl, hzl, HZ.out⟩
set_option maxHeartbeats 400000 in
theorem rln_end (x : Nat) (c : Option Nat) (h : End x c) (w : World) : Calls Tryz.prog 141 #[.float .f64 x] w (RF w c) := by
  have kA := special_no x c h
  go_enter Tryz.func141, Tryz.ntmps141
  go_wp2_with fail
  go_fit (kA _)
  rintro r w2 ⟨z, rfl, rfl, hzl, hzc⟩
  have HZ : Hid (cl z = c) := hzc
  clear hzc
  go_wp2
  go_ret
  exact ⟨_, 0, rfl, rfl, hzl, HZ.out⟩
set_option maxHeartbeats 1000000 in
theorem ln_val (x mw : Nat) (e : Int) (h0 : x ≠ 0) (hx : x < 0x7ff0000000000000) (h : Prt x mw e) (w : World) : Calls Tryz.prog 126 #[.float .f64 x] w (RF w (lnC mw e)) := by
  have ha := @run_fadd Tryz.prog
  have hm := @run_fmul Tryz.prog
  have hcn := cvN
  go_enter Tryz.func126, Tryz.ntmps126
  go_wp2_with fail
  go_fit (hasParts_yes x h0 hx _)
  rintro r w ⟨rfl, rfl⟩
  go_wp2_with fail
  go_fit (h.2.1 _)
  rintro r w ⟨rfl, rfl⟩
  go_wp2_with fail
  go_fit (fromBits_any 4604418534312771584 _)
  rintro r w ⟨rfl, rfl⟩
  go_wp2_with fail
  go_fit (ln1_any mw _)
  rintro r w2 ⟨z, k, rfl, rfl, hzl, hzc⟩
  have HZ : Hid _ := hzc
  clear hzc
  go_wp2_with fail
  go_fit (fromBits_any 4455313330490472685 _)
  rintro r w ⟨rfl, rfl⟩
  go_wp2
  go_ret
  refine ⟨_, _, rfl, rfl, fz_lt _ _ _ _, ?_⟩
  simp only [cl_fz]
  rw [cl_lit 4604418534312771584 (by decide), cl_lit 4455313330490472685 (by decide), HZ.out, iw_num]
  rfl
set_option maxHeartbeats 1000000 in
theorem rln_val (x mw : Nat) (e : Int) (h0 : x ≠ 0) (hx : x < 0x7ff0000000000000) (h : Prt x mw e) (w : World) : Calls Tryz.prog 141 #[.float .f64 x] w (RF w (lnC mw e)) := by
  have ha := @run_fadd Tryz.prog
  have hm := @run_fmul Tryz.prog
  have hcn := cvN
  go_enter Tryz.func141, Tryz.ntmps141
  go_wp2_with fail
  go_fit (special_yes x h0 hx _)
  rintro r w ⟨rfl, rfl⟩
  go_wp2_with fail
  go_fit (h.2.2 _)
  rintro r w ⟨rfl, rfl⟩
  go_wp2_with fail
  go_fit (rseries_any mw _)
  rintro r w2 ⟨z, k, rfl, rfl, hzl, hzc⟩
  have HZ : Hid _ := hzc
  clear hzc
  go_wp2_with fail
  go_fit (rc81_any _)
  rintro r w ⟨rfl, rfl⟩
  go_wp2_with fail
  go_fit (rc82_any _)
  rintro r w ⟨rfl, rfl⟩
  go_wp2
  go_ret
  refine ⟨_, _, rfl, rfl, fz_lt _ _ _ _, ?_⟩
  simp only [cl_fz]
  rw [cl_lit 4604418534312771584 (by decide), cl_lit 4455313330490472685 (by decide), HZ.out, iw_num]
  rfl
theorem ln_both (x : Nat) (hx : x < 18446744073709551616) : Both 126 141 x := by
  rcases ends_or x hx with ⟨c, h⟩ | ⟨h0, hl⟩
  · exact ⟨c, ln_end x c h, rln_end x c h⟩
  · obtain ⟨mw, e, h⟩ := prt_ex x h0 hl
    exact ⟨_, ln_val x mw e h0 hl h, rln_val x mw e h0 hl h⟩
theorem exp_both (x : Nat) : Both 125 140 x := ⟨_, exp_any x, rexp_any x⟩
end Go.Proofs.YtebjklppbkkinaaGreatDoor.F
/- Powers by squaring, on both sides. -/
namespace Go.Proofs.YtebjklppbkkinaaGreatDoor.F
open Go.RowKit Ieee

/-- By squaring, from the lowest bit on. -/
def pwC : Nat → Nat → Option Nat → Option Nat → Option Nat
  | 0, _, _, r => r
  | f + 1, n, a, r => if n = 0 then r else pwC f (n / 2) (if n / 2 = 0 then a else fb .mul a a) (if n % 2 = 1 then fb .mul r a else r)
theorem pwC_end (f : Nat) (a r : Option Nat) : pwC f 0 a r = r := by
  cases f
  · rfl
  · unfold pwC; rw [if_pos rfl]
/-- What is still to be done. -/
def Pw (n : Nat) (a r C : Option Nat) : Prop := ∃ f, n ≤ f ∧ pwC f n a r = C
theorem Pw.end {a r C : Option Nat} (h : Pw 0 a r C) : r = C := by
  obtain ⟨f, -, h⟩ := h
  rw [pwC_end] at h
  exact h
theorem Pw.step {n : Nat} {a r C : Option Nat} (h : Pw n a r C) (hn : n ≠ 0) : Pw (n / 2) (if n / 2 = 0 then a else fb .mul a a) (if n % 2 = 1 then fb .mul r a else r) C := by
  obtain ⟨f, hf, h⟩ := h
  cases f with
  | zero => exact absurd (by omega) hn
  | succ f =>
    unfold pwC at h
    rw [if_neg hn] at h
    exact ⟨f, by omega, h⟩
theorem abs_int (y : Nat) (hl : y ≤ 4652218415073722368) : ∃ K : Nat, floatToIntVal .f64 y .i64 = some (K : Int) ∧ K ≤ 9007199254740992 := by
  have hu := uv_mono y 4845873199050653696 (by omega)
  rw [uv_53] at hu
  have e : y % 2 ^ 63 = y := Nat.mod_eq_of_lt (by omega)
  obtain ⟨K, h1, h2, h3, h4⟩ := toInt_bd y 9007199254740992 (by rw [e]; omega) (by rw [e]; exact hu) (by decide)
  obtain ⟨k, rfl⟩ : ∃ k : Nat, K = k := ⟨K.toNat, by have := h4 (by omega); omega⟩
  exact ⟨k, h1, by omega⟩
/-- The answer, of the power by squaring. -/
def pwR (y : Nat) (C : Option Nat) : Option Nat := if FloatKind.f64.format.order y 0 = some .lt then fb .quo (some 4607182418800017408) C else C
set_option maxRecDepth 100000 in
set_option maxHeartbeats 2000000 in
theorem powWhole_any (x y K : Nat) (hy : y < 18446744073709551616) (hK : floatToIntVal .f64 (y % 9223372036854775808) .i64 = some (K : Int)) (hK2 : K ≤ 9007199254740992) (w : World) :
    Calls Tryz.prog 124 #[.float .f64 x, .float .f64 y] w (RF w (pwR y (pwC K K (cl x) (some 4607182418800017408)))) := by
  have kA := abs_any y hy
  have hcv : ∀ w, (convert 23 3 (.float .f64 (y % 9223372036854775808))).run Tryz.prog w = .ok (.int .i64 (K : Int)) w := fun w => run_convert_float_int w 23 3 .f64 .i64 _ K (by rw [Tryz.underlying23]; rfl) (by rw [Tryz.underlying3]) hK
  have hm := @run_fmul Tryz.prog
  have hq := @run_fquo Tryz.prog
  have HC : Hid (Pw K (cl x) (cl 4607182418800017408) (pwC K K (cl x) (some 4607182418800017408))) := ⟨K, by omega, by rw [cl_lit 4607182418800017408 (by decide)]⟩
  generalize hC : pwC K K (cl x) (some 4607182418800017408) = C at *
  generalize y % 9223372036854775808 = y' at *
  clear hK hC
  generalize hR : pwR y C = R
  have HR : Hid (pwR y C = R) := hR
  clear hR
  go_enter Tryz.func124, Tryz.ntmps124
  go_wp2_with fail
  go_fit (kA _)
  rintro r w ⟨rfl, rfl⟩
  go_wp2
  go_loopw [5, 6, 7] (fun av rv nv w' => ∃ (a r n k : Nat), av = .float .f64 a ∧ rv = .float .f64 r ∧ nv = .int .i64 (n : Int) ∧ w' = w.drewN k ∧ n ≤ 9007199254740992 ∧ r < 18446744073709551616 ∧ Hid (Pw n (cl a) (cl r) C)) (fun _ _ nv _ => (RowKit.intOf nv).toNat)
  case atStart => exact ⟨x, _, K, 0, rfl, rfl, rfl, rfl, hK2, by decide, HC⟩
  case round =>
    obtain ⟨a, r, n, k, rfl, rfl, rfl, rfl, hn, hrl, HP⟩ := hrel
    by_cases hn0 : n = 0
    · subst hn0
      have hrC := HP.out.end
      have hz : ¬ (0 : Int) < ((0 : Nat) : Int) := by decide
      by_cases hs : FloatKind.f64.format.order y 0 = some .lt
      · have HR2 : Hid (fb .quo (some 4607182418800017408) C = R) := by
          have := HR.out
          unfold pwR at this
          rw [if_pos hs] at this
          exact this
        have HrC : Hid (cl r = C) := hrC
        clear hrC
        go_wp2
        go_ret
        refine ⟨_, _, rfl, rfl, fz_lt _ _ _ _, ?_⟩
        rw [cl_fz, cl_lit 4607182418800017408 (by decide), HrC.out]
        exact HR2.out
      · have hs' : (FloatKind.f64.format.order y 0 == some .lt) = false := beq_eq_false_iff_ne.2 hs
        have HR2 : Hid (C = R) := by
          have := HR.out
          unfold pwR at this
          rw [if_neg hs] at this
          exact this
        have HrC : Hid (cl r = C) := hrC
        clear hrC hs
        go_wp2
        go_ret
        exact ⟨_, _, rfl, rfl, hrl, HrC.out.trans HR2.out⟩
    · have hgt : (0 : Int) < (n : Int) := by omega
      obtain ⟨q, hq⟩ : ∃ q, n / 2 = q := ⟨_, rfl⟩
      have hst := HP.out.step hn0
      rw [hq] at hst
      have hd1 : (n : Int).tdiv 2 = (q : Int) := by rw [Int.tdiv_eq_ediv_of_nonneg (by omega)]; omega
      have hd2 : (n : Int) / 2 = (q : Int) := by omega
      have hqn : q < n := by omega
      clear hq
      by_cases ho : n % 2 = 1
      · rw [if_pos ho] at hst
        have hr1 : (n : Int).tmod 2 = 1 := by rw [Int.tmod_eq_emod_of_nonneg (by omega)]; omega
        have hr2 : (n : Int) % 2 = 1 := by omega
        by_cases hq0 : q = 0
        · rw [if_pos hq0] at hst
          subst hq0
          have hz : ¬ (0 : Int) < ((0 : Nat) : Int) := by decide
          have HS : Hid _ := hst
          clear hst ho
          go_wp2
          refine ⟨⟨a, _, 0, _, rfl, rfl, rfl, rfl, by omega, fz_lt _ _ _ _, ?_⟩, by simp only [RowKit.intOf]; omega⟩
          show Pw _ _ _ _
          rw [cl_fz]
          exact HS.out
        · rw [if_neg hq0] at hst
          have hz : (0 : Int) < (q : Int) := by omega
          have HS : Hid _ := hst
          clear hst ho
          go_wp2
          refine ⟨⟨_, _, q, _, rfl, rfl, rfl, rfl, by omega, fz_lt _ _ _ _, ?_⟩, by simp only [RowKit.intOf]; omega⟩
          show Pw _ _ _ _
          rw [cl_fz, cl_fz]
          exact HS.out
      · rw [if_neg ho] at hst
        have hr1 : (n : Int).tmod 2 = 0 := by rw [Int.tmod_eq_emod_of_nonneg (by omega)]; omega
        have hr2 : (n : Int) % 2 = 0 := by omega
        by_cases hq0 : q = 0
        · exfalso; omega
        · rw [if_neg hq0] at hst
          have hz : (0 : Int) < (q : Int) := by omega
          have HS : Hid _ := hst
          clear hst ho
          go_wp2
          refine ⟨⟨_, r, q, _, rfl, rfl, rfl, rfl, by omega, hrl, ?_⟩, by simp only [RowKit.intOf]; omega⟩
          show Pw _ _ _ _
          rw [cl_fz]
          exact HS.out
end Go.Proofs.YtebjklppbkkinaaGreatDoor.F
