/- The order of floats, on both sides. -/
import Derived.Test.YtebjklppbkkinaaPx
namespace Go.Proofs.Ytebjklppbkkinaa
open Go.RowKit Ieee

def sv (s : Bool) (m : Nat) : Int := if s = true then -(m : Int) else (m : Int)
def sgn (x : Nat) : Bool := x / 2 ^ 63 % 2 == 1
/-- The place of a float where numbers are sorted. -/
def ky (x : Nat) : Int := if nanB x = true then -9223372036854775808 else sv (sgn x) (x % 2 ^ 63)
def cmS (a b : Int) : Int := if a < b then -1 else if b < a then 1 else 0

theorem sv_uv (s t : Bool) (a b : Nat) : sv s (uv a) < sv t (uv b) ↔ sv s a < sv t b := by
  have h0 : uv 0 = 0 := rfl
  have z : ∀ a, 0 < a → 0 < uv a := fun a h => by have := uv_strict 0 a h; omega
  have za := Nat.eq_zero_or_pos a
  have zb := Nat.eq_zero_or_pos b
  have ha : a = 0 → uv a = 0 := fun h => by rw [h]; rfl
  have hb : b = 0 → uv b = 0 := fun h => by rw [h]; rfl
  have ha2 := z a
  have hb2 := z b
  have m1 := uv_strict a b
  have m2 := uv_strict b a
  have m3 : a = b → uv a = uv b := fun h => by rw [h]
  have tri := Nat.lt_trichotomy a b
  unfold sv
  generalize uv a = x at *
  generalize uv b = y at *
  cases s <;> cases t
  · simp only [Bool.false_eq_true, if_false]; omega
  · simp only [Bool.false_eq_true, if_false, if_true]; omega
  · simp only [Bool.false_eq_true, if_false, if_true]; omega
  · simp only [if_true]; omega

theorem read_sign (x : Nat) : (∀ s m i, Ieee.double.read x = .number s m i → s = sgn x ∧ un s m i = sv (sgn x) (uv (x % 2 ^ 63)) ∧ x % 2 ^ 63 < 0x7ff0000000000000) ∧ (∀ s, Ieee.double.read x = .infinity s → s = sgn x ∧ x % 2 ^ 63 = 0x7ff0000000000000) := by
  have hb : Ieee.double.binade = 2 ^ 52 := rfl
  have hl : Ieee.double.leastPlace = -1074 := by decide
  have hi : Ieee.double.infRung = 0x7ff0000000000000 := by decide
  have hsw : Ieee.double.signWeight = 2 ^ 63 := rfl
  constructor
  · intro s m i hr
    have hu := read_uv x s m i hr
    have hr' := hr
    unfold Format.read at hr'
    simp only [hb, hl, hi, hsw] at hr'
    have hs : s = sgn x ∧ x % 2 ^ 63 < 0x7ff0000000000000 := by
      split at hr'
      · cases hr'; exact ⟨rfl, by omega⟩
      · split at hr'
        · cases hr'; exact ⟨rfl, by omega⟩
        · split at hr' <;> cases hr'
    refine ⟨hs.1, ?_, hs.2⟩
    unfold un
    rw [signed_eq, hu, hs.1]
    unfold sv
    cases sgn x <;> simp
  · intro s hr
    unfold Format.read at hr
    simp only [hb, hl, hi, hsw] at hr
    split at hr
    · cases hr
    · split at hr
      · cases hr
      · split at hr
        · rename_i h
          cases hr
          exact ⟨rfl, h⟩
        · cases hr
theorem key_order (x y : Nat) (hx : nanB x = false) (hy : nanB y = false) : FloatKind.f64.format.order x y = some (compare (ky x) (ky y)) := by
  have e : FloatKind.f64.format.order x y = (Ieee.double.read x).order (Ieee.double.read y) := rfl
  have kx : ky x = sv (sgn x) (x % 2 ^ 63) := if_neg (by rw [hx]; decide)
  have kyy : ky y = sv (sgn y) (y % 2 ^ 63) := if_neg (by rw [hy]; decide)
  rw [kx, kyy]
  have rx := read_sign x
  have ry := read_sign y
  cases hrx : Ieee.double.read x with
  | nan s f => unfold nanB at hx; rw [hrx] at hx; cases hx
  | infinity s =>
    obtain ⟨h1, h2⟩ := rx.2 s hrx
    rw [← h1, h2]
    cases hry : Ieee.double.read y with
    | nan t f => unfold nanB at hy; rw [hry] at hy; cases hy
    | infinity t =>
      obtain ⟨h3, h4⟩ := ry.2 t hry
      rw [e, hrx, hry, ← h3, h4]
      cases s <;> cases t <;> rfl
    | number t m i =>
      obtain ⟨h3, _, h4⟩ := ry.1 t m i hry
      rw [e, hrx, hry, ← h3]
      generalize y % 2 ^ 63 = r at *
      cases s
      · show some Ordering.gt = _
        congr 1
        refine (Int.compare_eq_gt.2 ?_).symm
        unfold sv; cases t <;> simp <;> omega
      · show some Ordering.lt = _
        congr 1
        refine (Int.compare_eq_lt.2 ?_).symm
        unfold sv; cases t <;> simp <;> omega
  | number s m i =>
    obtain ⟨h1, h1u, h2⟩ := rx.1 s m i hrx
    cases hry : Ieee.double.read y with
    | nan t f => unfold nanB at hy; rw [hry] at hy; cases hy
    | infinity t =>
      obtain ⟨h3, h4⟩ := ry.2 t hry
      rw [e, hrx, hry, ← h3, h4, ← h1]
      generalize x % 2 ^ 63 = r at *
      cases t
      · show some Ordering.lt = _
        congr 1
        refine (Int.compare_eq_lt.2 ?_).symm
        unfold sv; cases s <;> simp <;> omega
      · show some Ordering.gt = _
        congr 1
        refine (Int.compare_eq_gt.2 ?_).symm
        unfold sv; cases s <;> simp <;> omega
    | number t n j =>
      obtain ⟨h3, h3u, h4⟩ := ry.1 t n j hry
      have k := ord_bd x y s m i t n j hrx hry
      rw [h1u, h3u, sv_uv, sv_uv] at k
      obtain ⟨o, ho⟩ : ∃ o, FloatKind.f64.format.order x y = some o := by
        rw [e, hrx, hry]; exact ⟨_, rfl⟩
      rw [ho]
      rw [ho] at k
      congr 1
      generalize sv (sgn x) (x % 2 ^ 63) = u at *
      generalize sv (sgn y) (y % 2 ^ 63) = v at *
      rcases Int.lt_trichotomy u v with h | h | h
      · rw [Option.some.inj (k.2.2 h)]; exact (Int.compare_eq_lt.2 h).symm
      · subst h
        cases o with
        | lt => exact absurd (k.2.1 rfl) (Int.lt_irrefl _)
        | gt => exact absurd (k.1.1 rfl) (Int.lt_irrefl _)
        | eq => exact (Int.compare_eq_eq.2 rfl).symm
      · rw [Option.some.inj (k.1.2 h)]; exact (Int.compare_eq_gt.2 h).symm
theorem ky_num (x : Nat) (hx : nanB x = false) : -9223372036854775808 < ky x := by
  unfold ky
  rw [if_neg (by rw [hx]; decide)]
  unfold sv
  have : x % 2 ^ 63 < 2 ^ 63 := Nat.mod_lt _ (by decide)
  split <;> omega
theorem ky_nan (x : Nat) (hx : nanB x = true) : ky x = -9223372036854775808 := if_pos hx

end Go.Proofs.Ytebjklppbkkinaa
