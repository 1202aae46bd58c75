/- A bundle of texts. -/
import Derived.Test.YtmjenemjbpimcaaBk11
import Derived.Test.YtmjenemjbpimcaaBk12
import Derived.Test.YtmjenemjbpimcaaBk04
/- The parts of a float: words of positive numbers stand as their values do. -/
namespace Go.Proofs.Ytmjenemjbpimcaa
open Ieee

theorem log2_52 (M : Nat) (h1 : 2 ^ 52 ≤ M) (h2 : M < 2 ^ 53) : M.log2 = 52 := (Nat.log2_eq_iff (by omega)).2 ⟨h1, h2⟩
theorem near_norm (M : Nat) (Q : Int) (h1 : 2 ^ 52 ≤ M) (h2 : M < 2 ^ 53) (hQ : -1074 ≤ Q) (hQ2 : Q ≤ 971) : Ieee.double.nearest false M Q = (Q + 1075).toNat * 2 ^ 52 + (M - 2 ^ 52) := by
  rw [nearest_rung _ _ _ (by omega), word_pos, rung_eq]
  have hl := lst_eq M Q
  rw [log2_52 M h1 h2] at hl
  have hlQ : lst M Q = Q := by omega
  rw [hlQ, Int.sub_self]
  have hrn : rn (M <<< (0 : Int).toNat) (0 : Int).toNat = M := by
    rw [show (0 : Int).toNat = 0 from rfl, Nat.shiftLeft_zero, ← cut_rn false, cut0]
  rw [hrn]
  obtain ⟨u, hu⟩ : ∃ u : Nat, (Q + 1074).toNat = u := ⟨_, rfl⟩
  rw [hu, show (Q + 1075).toNat = u + 1 by omega]
  have : u ≤ 2045 := by omega
  rw [Nat.min_eq_left (by omega)]
  omega
theorem uv_strict (a b : Nat) (h : a < b) : uv a < uv b := by
  unfold uv
  by_cases ha : a < 2 ^ 52
  · rw [if_pos ha]
    by_cases hb : b < 2 ^ 52
    · rw [if_pos hb]; exact h
    · rw [if_neg hb]
      have : (2 ^ 52 + b % 2 ^ 52) * 1 ≤ (2 ^ 52 + b % 2 ^ 52) * 2 ^ (b / 2 ^ 52 - 1) := Nat.mul_le_mul_left _ (Nat.two_pow_pos _)
      omega
  · rw [if_neg ha, if_neg (by omega)]
    by_cases he : a / 2 ^ 52 = b / 2 ^ 52
    · rw [he]
      exact Nat.mul_lt_mul_of_pos_right (by omega) (Nat.two_pow_pos _)
    · have h2 : (2 ^ 52 + a % 2 ^ 52) * 2 ^ (a / 2 ^ 52 - 1) < 2 ^ 53 * 2 ^ (a / 2 ^ 52 - 1) := Nat.mul_lt_mul_of_pos_right (by omega) (Nat.two_pow_pos _)
      have h3 : 2 ^ 52 * 2 ^ (b / 2 ^ 52 - 1) ≤ (2 ^ 52 + b % 2 ^ 52) * 2 ^ (b / 2 ^ 52 - 1) := Nat.mul_le_mul_right _ (by omega)
      have h4 : 2 ^ 53 * 2 ^ (a / 2 ^ 52 - 1) ≤ 2 ^ 52 * 2 ^ (b / 2 ^ 52 - 1) := by
        rw [← Nat.pow_add, ← Nat.pow_add]
        exact pow_le _ _ (by omega)
      exact Nat.lt_of_lt_of_le h2 (Nat.le_trans h4 h3)
/-- A positive word's number. -/
theorem read_pos (x : Nat) (h : x < 0x7ff0000000000000) : ∃ m i, Ieee.double.read x = .number false m i ∧ un false m i = (uv x : Int) := by
  have hx : x % 2 ^ 63 = x := Nat.mod_eq_of_lt (by omega)
  obtain ⟨s, m, i, hr⟩ := read_fin x (by rw [hx]; exact h)
  have hs : s = false := by
    have hsw : Ieee.double.signWeight = 2 ^ 63 := rfl
    have hneg : (x / 2 ^ 63 % 2 == 1) = false := by
      rw [Nat.div_eq_of_lt (by omega)]; rfl
    have hr' := hr
    unfold Format.read at hr'
    simp only [hsw, hneg] at hr'
    split at hr'
    · cases hr'; rfl
    · split at hr'
      · cases hr'; rfl
      · split at hr' <;> cases hr'
  subst hs
  refine ⟨m, i, hr, ?_⟩
  have := read_uv x _ m i hr
  rw [hx] at this
  rw [← this]
  unfold un
  rw [signed_eq, if_neg (by decide), Int.one_mul]
/-- Positive words stand as numbers do. -/
theorem pos_order (a b : Nat) (ha : a < 0x7ff0000000000000) (hb : b < 0x7ff0000000000000) : FloatKind.f64.format.order a b = some (compare a b) := by
  obtain ⟨ma, ia, hra, hua⟩ := read_pos a ha
  obtain ⟨mb, ib, hrb, hub⟩ := read_pos b hb
  have k := ord_bd a b false ma ia false mb ib hra hrb
  rw [hua, hub] at k
  rcases Nat.lt_trichotomy a b with h | h | h
  · have := uv_strict a b h
    rw [k.2.2 (by omega)]
    congr 1
    exact (Nat.compare_eq_lt.2 h).symm
  · subst h
    rw [fo_self, if_neg]
    · congr 1
      exact (Nat.compare_eq_eq.2 rfl).symm
    · unfold nanB
      rw [hra]
      exact Bool.false_ne_true
  · have := uv_strict b a h
    rw [k.1.2 (by omega)]
    congr 1
    exact (Nat.compare_eq_gt.2 h).symm

/-- A half of a number. -/
theorem rdTwo : Ieee.double.read 4611686018427387904 = .number false (2 ^ 52) (-51) := by decide +kernel
theorem quo_two (x : Nat) (s : Bool) (m : Nat) (i : Int) (hx : Ieee.double.read x = .number s m i) (hm : m < 2 ^ 53) : floatBits .quo .f64 x 4611686018427387904 = some (Ieee.double.nearest s m (i - 1)) := by
  have e : floatBits .quo .f64 x 4611686018427387904 = ((Ieee.double.read x).quotient 54 (Ieee.double.read 4611686018427387904)).map Ieee.double.write := rfl
  rw [e, hx, rdTwo]
  simp only [Datum.quotient]
  rw [if_neg (by decide)]
  have hl : (2 ^ 52 : Nat).log2 = 52 := by decide
  rw [hl]
  have hlm : m.log2 ≤ 52 := by
    by_cases h0 : m = 0
    · subst h0; decide
    · have := (Nat.log2_lt h0).2 hm
      omega
  obtain ⟨k, hk⟩ : ∃ k, 54 + 52 - m.log2 = k + 52 := ⟨54 - m.log2, by omega⟩
  rw [hk]
  have e1 : m <<< (k + 52) / 2 ^ 52 = m <<< k := by
    rw [Nat.shiftLeft_eq, Nat.shiftLeft_eq, Nat.pow_add, ← Nat.mul_assoc, Nat.mul_div_cancel _ (by decide)]
  have e2 : m <<< (k + 52) % 2 ^ 52 = 0 := by
    rw [Nat.shiftLeft_eq, Nat.pow_add, ← Nat.mul_assoc, Nat.mul_mod_left]
  rw [e1, e2]
  show some (Ieee.double.nearest (s ^^ false) (2 * m <<< k + 0) (i - -51 - ((k + 52 : Nat) : Int) - 1)) = _
  rw [Bool.xor_false, Nat.add_zero]
  have e3 : 2 * m <<< k = m <<< (k + 1) := by
    rw [Nat.shiftLeft_eq, Nat.shiftLeft_eq, Nat.pow_succ]
    rw [Nat.mul_comm 2, Nat.mul_assoc]
  rw [e3, nearest_shift]
  congr 2
  omega

/-- x is M times 2 ^ P, M of 53 digits. -/
def Nm (x M : Nat) (P : Int) : Prop := 2 ^ 52 ≤ M ∧ M < 2 ^ 53 ∧ P ≤ 971 ∧ -1126 ≤ P ∧ ∃ m i, ∃ k : Nat, Ieee.double.read x = .number false m i ∧ m < 2 ^ 53 ∧ M = m <<< k ∧ P = i - k ∧ -1074 ≤ i
theorem Nm.near {x M : Nat} {P : Int} (h : Nm x M P) : ∃ m i, Ieee.double.read x = .number false m i ∧ m ≠ 0 ∧ m < 2 ^ 53 ∧ -1074 ≤ i ∧ ∀ j : Int, Ieee.double.nearest false m (i + j) = Ieee.double.nearest false M (P + j) := by
  obtain ⟨h1, h2, _, _, m, i, k, hr, hm, hM, hP, hi⟩ := h
  refine ⟨m, i, hr, fun h0 => ?_, hm, hi, fun j => ?_⟩
  · rw [h0, Nat.zero_shiftLeft] at hM
    omega
  · rw [hM, nearest_shift]
    congr 1
    omega
/-- A normal word. -/
theorem nm_normal (x : Nat) (h1 : 2 ^ 52 ≤ x) (h2 : x < 0x7ff0000000000000) : Nm x (2 ^ 52 + x % 2 ^ 52) ((x / 2 ^ 52 : Nat) - 1075) := by
  have hb : Ieee.double.binade = 2 ^ 52 := rfl
  have hl : Ieee.double.leastPlace = -1074 := by decide
  have hi : Ieee.double.infRung = 0x7ff0000000000000 := by decide
  have hsw : Ieee.double.signWeight = 2 ^ 63 := rfl
  refine ⟨by omega, by omega, by omega, by omega, 2 ^ 52 + x % 2 ^ 52, ((x / 2 ^ 52 : Nat) : Int) - 1075, 0, ?_, by omega, by rw [Nat.shiftLeft_zero], by omega, by omega⟩
  unfold Format.read
  simp only [hb, hl, hi, hsw]
  rw [Nat.mod_eq_of_lt (show x < 2 ^ 63 by omega), Nat.div_eq_of_lt (show x < 2 ^ 63 by omega), if_neg (by omega), if_pos h2]
  rw [show (-1074 : Int) + ((x / 2 ^ 52 - 1 : Nat) : Int) = ((x / 2 ^ 52 : Nat) : Int) - 1075 by omega]
  rfl
/-- A subnormal word. -/
theorem nm_sub (x : Nat) (h0 : x ≠ 0) (h1 : x < 2 ^ 52) : ∃ M P, Nm x M P ∧ P < -1074 := by
  have hb : Ieee.double.binade = 2 ^ 52 := rfl
  have hl : Ieee.double.leastPlace = -1074 := by decide
  have hi : Ieee.double.infRung = 0x7ff0000000000000 := by decide
  have hsw : Ieee.double.signWeight = 2 ^ 63 := rfl
  have hlog : x.log2 ≤ 51 := by
    have := (Nat.log2_lt h0).2 h1
    omega
  have hr : Ieee.double.read x = .number false x (-1074) := by
    unfold Format.read
    simp only [hb, hl, hi, hsw]
    rw [Nat.mod_eq_of_lt (show x < 2 ^ 63 by omega), Nat.div_eq_of_lt (show x < 2 ^ 63 by omega), if_pos h1]
    rfl
  have hlk := log2_shl x (52 - x.log2) h0
  have hnz := nz_shl x (52 - x.log2) h0
  have g1 := Nat.log2_self_le hnz
  have g2 := Nat.lt_log2_self (n := x <<< (52 - x.log2))
  rw [hlk, show x.log2 + (52 - x.log2) = 52 by omega] at g1 g2
  exact ⟨x <<< (52 - x.log2), -1074 - ((52 - x.log2 : Nat) : Int), ⟨g1, g2, by omega, by omega, x, -1074, 52 - x.log2, hr, by omega, rfl, rfl, by decide⟩, by omega⟩

/-- The place of m's last digit. -/
def qs (M : Nat) : Int := if M < 6369051672525773 then -52 else -53
/-- How a word of 53 digits stands to the square root of a half, and to twice it. -/
theorem half_cmp (M : Nat) (Q : Int) (h1 : 2 ^ 52 ≤ M) (h2 : M < 2 ^ 53) (hQ2 : Q ≤ 971) :
    (Ieee.double.nearest false M Q < 4604544271217802189 ↔ Q < qs M) ∧ (Ieee.double.nearest false M Q < 4609047870845172685 ↔ Q < qs M + 1) ∧ Ieee.double.nearest false M Q < 0x7ff0000000000000 := by
  by_cases hQ : -1074 ≤ Q
  · rw [near_norm M Q h1 h2 hQ hQ2]
    obtain ⟨u, hu⟩ : ∃ u : Nat, (Q + 1075).toNat = u := ⟨_, rfl⟩
    have huQ : Q = (u : Int) - 1075 := by omega
    have hu2 : u ≤ 2046 := by omega
    rw [hu, huQ]
    unfold qs
    refine ⟨?_, ?_, by omega⟩
    · split <;> constructor <;> intro h <;> omega
    · split <;> constructor <;> intro h <;> omega
  · have hle : Ieee.double.nearest false M Q ≤ Ieee.double.nearest false M (-1074) := by
      rw [nearest_rung _ _ _ (by omega), nearest_rung _ _ _ (by omega), word_pos, word_pos]
      obtain ⟨k, hk⟩ : ∃ k : Nat, (-1074 : Int) = Q + k := ⟨(-1074 - Q).toNat, by omega⟩
      rw [hk, ← rung_shift M k Q (by omega)]
      refine rung_mono _ _ _ (by omega) ?_
      rw [Nat.shiftLeft_eq]
      exact Nat.le_mul_of_pos_right _ (Nat.two_pow_pos _)
    rw [near_norm M (-1074) h1 h2 (by decide) (by decide)] at hle
    unfold qs
    refine ⟨?_, ?_, by omega⟩
    · split <;> constructor <;> intro h <;> omega
    · split <;> constructor <;> intro h <;> omega
end Go.Proofs.Ytmjenemjbpimcaa
/- The order of floats, on both sides. -/
namespace Go.Proofs.Ytmjenemjbpimcaa
open Go.RowKit Ieee

def sv (s : Bool) (m : Nat) : Int := if s = true then -(m : Int) else (m : Int)
def sgn (x : Nat) : Bool := x / 2 ^ 63 % 2 == 1
/-- The place of a float where numbers are sorted. -/
def ky (x : Nat) : Int := if nanB x = true then -9223372036854775808 else sv (sgn x) (x % 2 ^ 63)
def cmS (a b : Int) : Int := if a < b then -1 else if b < a then 1 else 0

theorem sv_uv (s t : Bool) (a b : Nat) : sv s (uv a) < sv t (uv b) ↔ sv s a < sv t b := by
  have h0 : uv 0 = 0 := rfl
  have z : ∀ a, 0 < a → 0 < uv a := fun a h => by have := uv_strict 0 a h; omega
  have za := Nat.eq_zero_or_pos a
  have zb := Nat.eq_zero_or_pos b
  have ha : a = 0 → uv a = 0 := fun h => by rw [h]; rfl
  have hb : b = 0 → uv b = 0 := fun h => by rw [h]; rfl
  have ha2 := z a
  have hb2 := z b
  have m1 := uv_strict a b
  have m2 := uv_strict b a
  have m3 : a = b → uv a = uv b := fun h => by rw [h]
  have tri := Nat.lt_trichotomy a b
  unfold sv
  generalize uv a = x at *
  generalize uv b = y at *
  cases s <;> cases t
  · simp only [Bool.false_eq_true, if_false]; omega
  · simp only [Bool.false_eq_true, if_false, if_true]; omega
  · simp only [Bool.false_eq_true, if_false, if_true]; omega
  · simp only [if_true]; omega

theorem read_sign (x : Nat) : (∀ s m i, Ieee.double.read x = .number s m i → s = sgn x ∧ un s m i = sv (sgn x) (uv (x % 2 ^ 63)) ∧ x % 2 ^ 63 < 0x7ff0000000000000) ∧ (∀ s, Ieee.double.read x = .infinity s → s = sgn x ∧ x % 2 ^ 63 = 0x7ff0000000000000) := by
  have hb : Ieee.double.binade = 2 ^ 52 := rfl
  have hl : Ieee.double.leastPlace = -1074 := by decide
  have hi : Ieee.double.infRung = 0x7ff0000000000000 := by decide
  have hsw : Ieee.double.signWeight = 2 ^ 63 := rfl
  constructor
  · intro s m i hr
    have hu := read_uv x s m i hr
    have hr' := hr
    unfold Format.read at hr'
    simp only [hb, hl, hi, hsw] at hr'
    have hs : s = sgn x ∧ x % 2 ^ 63 < 0x7ff0000000000000 := by
      split at hr'
      · cases hr'; exact ⟨rfl, by omega⟩
      · split at hr'
        · cases hr'; exact ⟨rfl, by omega⟩
        · split at hr' <;> cases hr'
    refine ⟨hs.1, ?_, hs.2⟩
    unfold un
    rw [signed_eq, hu, hs.1]
    unfold sv
    cases sgn x <;> simp
  · intro s hr
    unfold Format.read at hr
    simp only [hb, hl, hi, hsw] at hr
    split at hr
    · cases hr
    · split at hr
      · cases hr
      · split at hr
        · rename_i h
          cases hr
          exact ⟨rfl, h⟩
        · cases hr
theorem key_order (x y : Nat) (hx : nanB x = false) (hy : nanB y = false) : FloatKind.f64.format.order x y = some (compare (ky x) (ky y)) := by
  have e : FloatKind.f64.format.order x y = (Ieee.double.read x).order (Ieee.double.read y) := rfl
  have kx : ky x = sv (sgn x) (x % 2 ^ 63) := if_neg (by rw [hx]; decide)
  have kyy : ky y = sv (sgn y) (y % 2 ^ 63) := if_neg (by rw [hy]; decide)
  rw [kx, kyy]
  have rx := read_sign x
  have ry := read_sign y
  cases hrx : Ieee.double.read x with
  | nan s f => unfold nanB at hx; rw [hrx] at hx; cases hx
  | infinity s =>
    obtain ⟨h1, h2⟩ := rx.2 s hrx
    rw [← h1, h2]
    cases hry : Ieee.double.read y with
    | nan t f => unfold nanB at hy; rw [hry] at hy; cases hy
    | infinity t =>
      obtain ⟨h3, h4⟩ := ry.2 t hry
      rw [e, hrx, hry, ← h3, h4]
      cases s <;> cases t <;> rfl
    | number t m i =>
      obtain ⟨h3, _, h4⟩ := ry.1 t m i hry
      rw [e, hrx, hry, ← h3]
      generalize y % 2 ^ 63 = r at *
      cases s
      · show some Ordering.gt = _
        congr 1
        refine (Int.compare_eq_gt.2 ?_).symm
        unfold sv; cases t <;> simp <;> omega
      · show some Ordering.lt = _
        congr 1
        refine (Int.compare_eq_lt.2 ?_).symm
        unfold sv; cases t <;> simp <;> omega
  | number s m i =>
    obtain ⟨h1, h1u, h2⟩ := rx.1 s m i hrx
    cases hry : Ieee.double.read y with
    | nan t f => unfold nanB at hy; rw [hry] at hy; cases hy
    | infinity t =>
      obtain ⟨h3, h4⟩ := ry.2 t hry
      rw [e, hrx, hry, ← h3, h4, ← h1]
      generalize x % 2 ^ 63 = r at *
      cases t
      · show some Ordering.lt = _
        congr 1
        refine (Int.compare_eq_lt.2 ?_).symm
        unfold sv; cases s <;> simp <;> omega
      · show some Ordering.gt = _
        congr 1
        refine (Int.compare_eq_gt.2 ?_).symm
        unfold sv; cases s <;> simp <;> omega
    | number t n j =>
      obtain ⟨h3, h3u, h4⟩ := ry.1 t n j hry
      have k := ord_bd x y s m i t n j hrx hry
      rw [h1u, h3u, sv_uv, sv_uv] at k
      obtain ⟨o, ho⟩ : ∃ o, FloatKind.f64.format.order x y = some o := by
        rw [e, hrx, hry]; exact ⟨_, rfl⟩
      rw [ho]
      rw [ho] at k
      congr 1
      generalize sv (sgn x) (x % 2 ^ 63) = u at *
      generalize sv (sgn y) (y % 2 ^ 63) = v at *
      rcases Int.lt_trichotomy u v with h | h | h
      · rw [Option.some.inj (k.2.2 h)]; exact (Int.compare_eq_lt.2 h).symm
      · subst h
        cases o with
        | lt => exact absurd (k.2.1 rfl) (Int.lt_irrefl _)
        | gt => exact absurd (k.1.1 rfl) (Int.lt_irrefl _)
        | eq => exact (Int.compare_eq_eq.2 rfl).symm
      · rw [Option.some.inj (k.1.2 h)]; exact (Int.compare_eq_gt.2 h).symm
theorem ky_num (x : Nat) (hx : nanB x = false) : -9223372036854775808 < ky x := by
  unfold ky
  rw [if_neg (by rw [hx]; decide)]
  unfold sv
  have : x % 2 ^ 63 < 2 ^ 63 := Nat.mod_lt _ (by decide)
  split <;> omega
theorem ky_nan (x : Nat) (hx : nanB x = true) : ky x = -9223372036854775808 := if_pos hx

set_option maxHeartbeats 400000 in
theorem order_any (x y : Nat) (w : World) : Calls Try.prog 80 #[.float .f64 x, .float .f64 y] w fun r w' => r = .returned (.int .i64 (cmS (ky x) (ky y))) ∧ w' = w := by
  have kx := isNaN_any x
  have kyy := isNaN_any y
  cases hx : nanB x <;> cases hy : nanB y
  · have ho := key_order x y hx hy
    rw [hx] at kx
    rw [hy] at kyy
    rcases Int.lt_trichotomy (ky x) (ky y) with h | h | h
    · rw [Int.compare_eq_lt.2 h] at ho
      have e : cmS (ky x) (ky y) = -1 := if_pos h
      rw [e]
      clear h e
      go_enter Try.func80, Try.ntmps80
      go_wp2
      go_ret
      exact ⟨rfl, rfl⟩
    · rw [h, Int.compare_eq_eq.2 rfl] at ho
      have e : cmS (ky x) (ky y) = 0 := by unfold cmS; rw [if_neg (by omega), if_neg (by omega)]
      rw [e]
      clear h e
      go_enter Try.func80, Try.ntmps80
      go_wp2_with fail
      go_fit (kx _)
      rintro r w ⟨rfl, rfl⟩
      go_wp2_with fail
      go_fit (kx _)
      rintro r w ⟨rfl, rfl⟩
      go_wp2_with fail
      go_fit (kyy _)
      rintro r w ⟨rfl, rfl⟩
      go_wp2
      go_ret
      exact ⟨rfl, rfl⟩
    · rw [Int.compare_eq_gt.2 h] at ho
      have e : cmS (ky x) (ky y) = 1 := by unfold cmS; rw [if_neg (by omega), if_pos h]
      rw [e]
      clear h e
      go_enter Try.func80, Try.ntmps80
      go_wp2
      go_ret
      exact ⟨rfl, rfl⟩
  · have ho : FloatKind.f64.format.order x y = none := by rw [fo_cl, cl_nan hy]; cases cl x <;> rfl
    have e : cmS (ky x) (ky y) = 1 := by
      have := ky_num x hx
      have h2 := ky_nan y hy
      unfold cmS; rw [if_neg (by omega), if_pos (by omega)]
    rw [e]
    rw [hx] at kx
    rw [hy] at kyy
    go_enter Try.func80, Try.ntmps80
    go_wp2_with fail
    go_fit (kx _)
    rintro r w ⟨rfl, rfl⟩
    go_wp2_with fail
    go_fit (kx _)
    rintro r w ⟨rfl, rfl⟩
    go_wp2_with fail
    go_fit (kyy _)
    rintro r w ⟨rfl, rfl⟩
    go_wp2
    go_ret
    exact ⟨rfl, rfl⟩
  · have ho : FloatKind.f64.format.order x y = none := by rw [fo_cl, cl_nan hx]; rfl
    have e : cmS (ky x) (ky y) = -1 := by
      have := ky_num y hy
      have h2 := ky_nan x hx
      unfold cmS; rw [if_pos (by omega)]
    rw [e]
    rw [hx] at kx
    rw [hy] at kyy
    go_enter Try.func80, Try.ntmps80
    go_wp2_with fail
    go_fit (kx _)
    rintro r w ⟨rfl, rfl⟩
    go_wp2_with fail
    go_fit (kyy _)
    rintro r w ⟨rfl, rfl⟩
    go_wp2
    go_ret
    exact ⟨rfl, rfl⟩
  · have ho : FloatKind.f64.format.order x y = none := by rw [fo_cl, cl_nan hx]; rfl
    have e : cmS (ky x) (ky y) = 0 := by
      have h1 := ky_nan y hy
      have h2 := ky_nan x hx
      unfold cmS; rw [if_neg (by omega), if_neg (by omega)]
    rw [e]
    rw [hx] at kx
    rw [hy] at kyy
    go_enter Try.func80, Try.ntmps80
    go_wp2_with fail
    go_fit (kx _)
    rintro r w ⟨rfl, rfl⟩
    go_wp2_with fail
    go_fit (kyy _)
    rintro r w ⟨rfl, rfl⟩
    go_wp2_with fail
    go_fit (kx _)
    rintro r w ⟨rfl, rfl⟩
    go_wp2
    go_ret
    exact ⟨rfl, rfl⟩
end Go.Proofs.Ytmjenemjbpimcaa
/- Floats keep order: differences, sums, products, quotients. -/
namespace Go.Proofs.Ytmjenemjbpimcaa
open Go.RowKit Ieee

/-- A rung, of nothing too. -/
def R (p : Int) (V : Nat) : Nat := if V = 0 then 0 else rung V p
theorem R_mono (p : Int) (a b : Nat) (h : a ≤ b) : R p a ≤ R p b := by
  unfold R
  by_cases ha : a = 0
  · rw [if_pos ha]; exact Nat.zero_le _
  · rw [if_neg ha, if_neg (by omega)]
    exact rung_mono a b p ha h
theorem R_le (p : Int) (V : Nat) : R p V ≤ 0x7ff0000000000000 := by
  unfold R
  split
  · exact Nat.zero_le _
  · rw [rung_eq]; exact Nat.min_le_right _ _
theorem ky_word (s : Bool) (r : Nat) (h : r ≤ 0x7ff0000000000000) : ky (Ieee.double.word s r) = sv s r := by
  have hi : Ieee.double.infRung = 0x7ff0000000000000 := by decide
  have hn := nanB_word s r (by rw [hi]; exact h)
  have hk : ky (Ieee.double.word s r) = sv (sgn (Ieee.double.word s r)) (Ieee.double.word s r % 2 ^ 63) := if_neg (by rw [hn]; decide)
  rw [hk, word_low s r (by omega)]
  congr 1
  have h5 : Ieee.double.signWeight = 2 ^ 63 := rfl
  unfold sgn Ieee.Format.word
  rw [h5]
  cases s
  · simp
    omega
  · simp
    omega
theorem ky_near (s : Bool) (mag : Nat) (p : Int) : ky (Ieee.double.nearest s mag p) = sv s (R p mag) := by
  by_cases h : mag = 0
  · subst h
    rw [nearest_zero, ky_word s 0 (by decide)]
    rfl
  · rw [nearest_rung s mag p h]
    have e : R p mag = rung mag p := if_neg h
    rw [e, ky_word s _ (by rw [← e]; exact R_le p mag)]
theorem sv_zero (s : Bool) : sv s 0 = 0 := by cases s <;> rfl
/-- Its value in units. -/
def vx (x : Nat) : Int := sv (sgn x) (uv (x % 2 ^ 63))
theorem ky_fin (x : Nat) (h : x % 2 ^ 63 < 0x7ff0000000000000) : nanB x = false ∧ ky x = sv (sgn x) (x % 2 ^ 63) := by
  have hn : nanB x = false := by rw [nanB_eq]; exact decide_eq_false (by omega)
  exact ⟨hn, if_neg (by rw [hn]; decide)⟩
theorem vx_le (x y : Nat) (hx : x % 2 ^ 63 < 0x7ff0000000000000) (hy : y % 2 ^ 63 < 0x7ff0000000000000) : ky x ≤ ky y ↔ vx x ≤ vx y := by
  rw [(ky_fin x hx).2, (ky_fin y hy).2]
  unfold vx
  have h := sv_uv (sgn y) (sgn x) (y % 2 ^ 63) (x % 2 ^ 63)
  constructor
  · intro h1
    refine Int.not_lt.1 fun h2 => ?_
    have := h.1 h2
    omega
  · intro h1
    refine Int.not_lt.1 fun h2 => ?_
    have := h.2 h2
    omega
theorem ky_wr (Z : Int) (s : Bool) : ky (wr Z s) = if Z < 0 then -(R (-1074) Z.natAbs : Int) else (R (-1074) Z.natAbs : Int) := by
  unfold wr
  rw [ky_near]
  by_cases h0 : Z = 0
  · subst h0
    rw [if_pos rfl, if_neg (by decide)]
    exact sv_zero s
  · rw [if_neg h0]
    by_cases hn : Z < 0
    · rw [if_pos hn, decide_eq_true hn]; rfl
    · rw [if_neg hn, decide_eq_false hn]; rfl
theorem wr_mono (Z Y : Int) (s t : Bool) (h : Z ≤ Y) : ky (wr Z s) ≤ ky (wr Y t) := by
  rw [ky_wr, ky_wr]
  by_cases h1 : Z < 0
  · rw [if_pos h1]
    by_cases h2 : Y < 0
    · rw [if_pos h2]
      have := R_mono (-1074) Y.natAbs Z.natAbs (by omega)
      omega
    · rw [if_neg h2]; omega
  · rw [if_neg h1, if_neg (by omega)]
    have := R_mono (-1074) Z.natAbs Y.natAbs (by omega)
    omega
theorem read_vx (x : Nat) (h : x % 2 ^ 63 < 0x7ff0000000000000) : ∃ s m i, Ieee.double.read x = .number s m i ∧ un s m i = vx x ∧ s = sgn x := by
  obtain ⟨s, m, i, hr⟩ := read_fin x h
  have := (read_sign x).1 s m i hr
  exact ⟨s, m, i, hr, this.2.1, this.1⟩
theorem sub_mono (x x' y : Nat) (hx : x % 2 ^ 63 < 0x7ff0000000000000) (hx' : x' % 2 ^ 63 < 0x7ff0000000000000) (hy : y % 2 ^ 63 < 0x7ff0000000000000) (h : ky x ≤ ky x') :
    ∃ z z', floatBits .sub .f64 x y = some z ∧ floatBits .sub .f64 x' y = some z' ∧ ky z ≤ ky z' := by
  obtain ⟨s, m, i, hr, hu, _⟩ := read_vx x hx
  obtain ⟨s', m', i', hr', hu', _⟩ := read_vx x' hx'
  obtain ⟨t, n, j, hr2, hu2, _⟩ := read_vx y hy
  refine ⟨_, _, sub_fin x y _ _ _ _ _ _ hr hr2, sub_fin x' y _ _ _ _ _ _ hr' hr2, wr_mono _ _ _ _ ?_⟩
  have := (vx_le x x' hx hx').1 h
  rw [hu, hu', hu2]
  omega
theorem add_mono (f x x' : Nat) (hf : f % 2 ^ 63 < 0x7ff0000000000000) (hx : x % 2 ^ 63 < 0x7ff0000000000000) (hx' : x' % 2 ^ 63 < 0x7ff0000000000000) (h : ky x ≤ ky x') :
    ∃ z z', floatBits .add .f64 f x = some z ∧ floatBits .add .f64 f x' = some z' ∧ ky z ≤ ky z' := by
  obtain ⟨s, m, i, hr, hu, _⟩ := read_vx x hx
  obtain ⟨s', m', i', hr', hu', _⟩ := read_vx x' hx'
  obtain ⟨t, n, j, hr2, hu2, _⟩ := read_vx f hf
  refine ⟨_, _, add_fin f x _ _ _ _ _ _ hr2 hr, add_fin f x' _ _ _ _ _ _ hr2 hr', wr_mono _ _ _ _ ?_⟩
  have := (vx_le x x' hx hx').1 h
  rw [hu, hu', hu2]
  omega
/-- Not below 0. -/
theorem pos_read (x : Nat) (h : x % 2 ^ 63 < 0x7ff0000000000000) (h0 : 0 ≤ ky x) : ∃ s m i, Ieee.double.read x = .number s m i ∧ m * 2 ^ (i + 1074).toNat = uv (x % 2 ^ 63) ∧ -1074 ≤ i ∧ m < 2 ^ 53 ∧ (m ≠ 0 → s = false) ∧ ky x = ((x % 2 ^ 63 : Nat) : Int) := by
  obtain ⟨s, m, i, hr, _, hs⟩ := read_vx x h
  have hp := read_place x s m i hr
  have hu := read_uv x s m i hr
  have hk := (ky_fin x h).2
  rw [← hs] at hk
  refine ⟨s, m, i, hr, hu, hp.1, hp.2, fun hm => ?_, ?_⟩
  · cases s
    · rfl
    · exfalso
      have e : ky x = -((x % 2 ^ 63 : Nat) : Int) := hk
      have h1 : x % 2 ^ 63 = 0 := by omega
      rw [h1] at hu
      have h00 : uv 0 = 0 := rfl
      rw [h00] at hu
      have := Nat.two_pow_pos (i + 1074).toNat
      rcases Nat.mul_eq_zero.1 hu with h2 | h2 <;> omega
  · cases s
    · exact hk
    · have e : ky x = -((x % 2 ^ 63 : Nat) : Int) := hk
      omega
theorem near_sv (s : Bool) (mag : Nat) (p : Int) (h : mag ≠ 0 → s = false) : ky (Ieee.double.nearest s mag p) = (R p mag : Int) := by
  rw [ky_near]
  by_cases h0 : mag = 0
  · subst h0
    have : R p 0 = 0 := if_pos rfl
    rw [this]; exact sv_zero s
  · rw [h h0]; rfl
/-- A product's rung. -/
theorem mul_ky (x c : Nat) (hx : x % 2 ^ 63 < 0x7ff0000000000000) (hx0 : 0 ≤ ky x) (sc : Bool) (n : Nat) (j : Int) (hc : Ieee.double.read c = .number sc n j) (hs : n ≠ 0 → sc = false) :
    ∃ z, floatBits .mul .f64 x c = some z ∧ floatBits .mul .f64 c x = some z ∧ ky z = (R (j - 1074) (uv (x % 2 ^ 63) * n) : Int) := by
  obtain ⟨s, m, i, hr, hu, hi, _, hsm, _⟩ := pos_read x hx hx0
  have e : Ieee.double.nearest (s ^^ sc) (m * n) (i + j) = Ieee.double.nearest (s ^^ sc) (uv (x % 2 ^ 63) * n) (j - 1074) := by
    have h1 : uv (x % 2 ^ 63) * n = (m * n) <<< (i + 1074).toNat := by rw [Nat.shiftLeft_eq, ← hu, Nat.mul_right_comm]
    rw [h1, nearest_shift]
    congr 1
    omega
  refine ⟨Ieee.double.nearest (s ^^ sc) (m * n) (i + j), ?_, ?_, ?_⟩
  · show ((Ieee.double.read x).product (Ieee.double.read c)).map Ieee.double.write = _
    rw [hr, hc]; rfl
  · show ((Ieee.double.read c).product (Ieee.double.read x)).map Ieee.double.write = _
    rw [hr, hc]
    show some (Ieee.double.nearest (sc ^^ s) (n * m) (j + i)) = _
    rw [Bool.xor_comm, Nat.mul_comm, Int.add_comm]
  · rw [e]
    refine near_sv _ _ _ fun h => ?_
    have hn : n ≠ 0 := fun h0 => h (by rw [h0, Nat.mul_zero])
    have hm : m ≠ 0 := fun h0 => h (by rw [← hu, h0, Nat.zero_mul, Nat.zero_mul])
    rw [hs hn, hsm hm]; rfl
theorem mul_mono (x x' c : Nat) (hx : x % 2 ^ 63 < 0x7ff0000000000000) (hx' : x' % 2 ^ 63 < 0x7ff0000000000000) (hx0 : 0 ≤ ky x) (h : ky x ≤ ky x') (hc : c % 2 ^ 63 < 0x7ff0000000000000) (hc0 : 0 ≤ ky c) :
    ∃ z z', floatBits .mul .f64 x c = some z ∧ floatBits .mul .f64 c x = some z ∧ floatBits .mul .f64 x' c = some z' ∧ floatBits .mul .f64 c x' = some z' ∧ ky z ≤ ky z' ∧ 0 ≤ ky z := by
  obtain ⟨sc, n, j, hr, _, _, _, hs, _⟩ := pos_read c hc hc0
  obtain ⟨z, h1, h2, h3⟩ := mul_ky x c hx hx0 sc n j hr hs
  obtain ⟨z', h1', h2', h3'⟩ := mul_ky x' c hx' (by omega) sc n j hr hs
  refine ⟨z, z', h1, h2, h1', h2', ?_, by omega⟩
  obtain ⟨_, _, _, _, _, _, _, _, e⟩ := pos_read x hx hx0
  obtain ⟨_, _, _, _, _, _, _, _, e'⟩ := pos_read x' hx' (by omega)
  rw [e, e'] at h
  have hm := uv_mono (x % 2 ^ 63) (x' % 2 ^ 63) (by omega)
  have := R_mono (j - 1074) _ _ (Nat.mul_le_mul_right n hm)
  omega
end Go.Proofs.Ytmjenemjbpimcaa
