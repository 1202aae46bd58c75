
/- The reference: less, First, Without; place. -/
import Derived.Test.YtcgpjmpppajfdabRl
namespace Go.Proofs.Ytcgpjmpppajfdab
open Go.RowKit

/-- The key: none, if flat. -/
def Kf (flat : Bool) (x : It) : Int := if flat = true then 0 else x.1
theorem rless_any (x y : It) (flat : Bool) (w : World) : Calls Try.prog 17 #[.agg #[.int .i64 x.1, .int .i64 x.2], .agg #[.int .i64 y.1, .int .i64 y.2], .bool flat] w fun r w' => r = .returned (.bool (decide (Kf flat x < Kf flat y))) ∧ Below w.heap.size w w' := by
  obtain ⟨xk, xi⟩ := x
  obtain ⟨yk, yi⟩ := y
  unfold Kf
  dsimp only
  have HB : Hid (Below w.heap.size w ((w.alloc (.cells #[.int .i64 xk, .int .i64 xi] 26)).alloc (.cells #[.int .i64 yk, .int .i64 yi] 26))) := ((Below.refl _ w).alloc (Nat.le_refl _) _).alloc (by simp) _
  cases flat with
  | true =>
    go_enter Try.func17, Try.ntmps17
    go_wp2
    go_ret
    exact ⟨by simp, HB.out⟩
  | false =>
    go_enter Try.func17, Try.ntmps17
    go_wp2
    go_ret
    exact ⟨by simp, HB.out⟩

/-- First, step by step. -/
def frs (K : It → Int) (xs : Nat → It) : Nat → Int
  | 0 => -1
  | n + 1 => if frs K xs n < 0 ∨ K (xs n) < K (xs (frs K xs n).toNat) then (n : Int) else frs K xs n
theorem frs_spec (K : It → Int) (xs : Nat → It) : ∀ n, (n = 0 ∧ frs K xs n = -1) ∨ ∃ b : Nat, b < n ∧ frs K xs n = (b : Int) ∧ (∀ j, j < n → ¬ K (xs j) < K (xs b)) ∧ ∀ j, j < b → K (xs b) < K (xs j)
  | 0 => .inl ⟨rfl, rfl⟩
  | n + 1 => by
    right
    rcases frs_spec K xs n with ⟨h0, e⟩ | ⟨b, hb, e, h1, h2⟩
    · subst h0
      refine ⟨0, by omega, by rw [frs, e, if_pos (.inl (by omega))], fun j hj => ?_, fun j hj => by omega⟩
      obtain rfl : j = 0 := by omega
      omega
    · by_cases hk : K (xs n) < K (xs b)
      · refine ⟨n, by omega, by rw [frs, e, if_pos (.inr (by simpa using hk))], fun j hj => ?_, fun j hj => ?_⟩
        · by_cases hjn : j = n
          · subst hjn; omega
          · have := h1 j (by omega); omega
        · have := h1 j (by omega); omega
      · have hno : ¬ ((b : Int) < 0 ∨ K (xs n) < K (xs ((b : Int)).toNat)) := by
          rintro (x | x)
          · omega
          · exact hk (by simpa using x)
        refine ⟨b, by omega, by rw [frs, e, if_neg hno], fun j hj => ?_, h2⟩
        by_cases hjn : j = n
        · subst hjn; exact hk
        · exact h1 j (by omega)

/-- A list without a thing. -/
def wo (xs : Nat → It) (at_ : Nat) (j : Nat) : It := if j < at_ then xs j else xs (j + 1)
def wn (at_ i : Nat) : Nat := if i ≤ at_ then i else i - 1
/-- place -/
def plc (i : Int) (n : Nat) : Nat := ((if i < 0 then -(i + 1) else i).tmod n).toNat
theorem plc_lt (i : Int) (n : Nat) (h : 0 < n) : plc i n < n := by
  unfold plc
  have : 0 ≤ (if i < 0 then -(i + 1) else i) := by split <;> omega
  generalize (if i < 0 then -(i + 1) else i) = z at *
  rw [Int.tmod_eq_emod_of_nonneg this]
  have h1 := Int.emod_lt_of_pos z (show (0 : Int) < n by omega)
  have h2 := Int.emod_nonneg z (show (n : Int) ≠ 0 by omega)
  omega
end Go.Proofs.Ytcgpjmpppajfdab
