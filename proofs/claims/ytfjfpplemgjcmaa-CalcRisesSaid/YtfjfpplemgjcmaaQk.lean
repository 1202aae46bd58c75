/- Parts of one. -/
import Derived.Test.YtfjfpplemgjcmaaCi
namespace Go.Proofs.Ytfjfpplemgjcmaa
open Go.RowKit

/-- A part of one, or none. -/
def Pt (q : Nat) : Prop := nanB q = false ∧ 0 ≤ ky q ∧ ky q ≤ 4607182418800017408
theorem ky0 : ky 0 = 0 := by decide
theorem ky1 : ky 4607182418800017408 = 4607182418800017408 := by decide
/-- What a quantile of no part is. -/
def byP (q : Nat) (c : Option Nat) : Prop := (nanB q = true ∧ c = none) ∨ (nanB q = false ∧ ky q < 0 ∧ c = some 18442240474082181120) ∨ (nanB q = false ∧ 4607182418800017408 < ky q ∧ c = some 9218868437227405312)
theorem part_or (q : Nat) : Pt q ∨ ∃ c, byP q c := by
  cases hn : nanB q with
  | true => exact .inr ⟨none, .inl ⟨hn, rfl⟩⟩
  | false =>
    by_cases h0 : ky q < 0
    · exact .inr ⟨_, .inr (.inl ⟨hn, h0, rfl⟩)⟩
    · by_cases h1 : 4607182418800017408 < ky q
      · exact .inr ⟨_, .inr (.inr ⟨hn, h1, rfl⟩)⟩
      · exact .inl ⟨hn, by omega, by omega⟩
theorem ord0 (q : Nat) (hn : nanB q = false) : FloatKind.f64.format.order q 0 = some (compare (ky q) 0) := by rw [key_order q 0 hn (by decide), ky0]
theorem ord1 (q : Nat) (hn : nanB q = false) : FloatKind.f64.format.order q 4607182418800017408 = some (compare (ky q) 4607182418800017408) := by rw [key_order q _ hn (by decide), ky1]
theorem ordn (q y : Nat) (hn : nanB q = true) : FloatKind.f64.format.order q y = none := by rw [fo_cl, cl_nan hn]; rfl
theorem cmp_cases (a b : Int) : (a < b ∧ compare a b = .lt) ∨ (a = b ∧ compare a b = .eq) ∨ (b < a ∧ compare a b = .gt) := by
  rcases Int.lt_trichotomy a b with h | h | h
  · exact .inl ⟨h, Int.compare_eq_lt.2 h⟩
  · exact .inr (.inl ⟨h, Int.compare_eq_eq.2 h⟩)
  · exact .inr (.inr ⟨h, Int.compare_eq_gt.2 h⟩)

set_option maxHeartbeats 1000000 in
theorem isPart_yes (q : Nat) (h : Pt q) (w : World) : Calls Try.prog 35 #[.float .f64 q] w fun r w' => r = .returned (.bool true) ∧ w' = w := by
  have h0 := ord0 q h.1
  have h1 := ord1 q h.1
  rcases cmp_cases (ky q) 0 with ⟨c, e⟩ | ⟨c, e⟩ | ⟨c, e⟩
  · have := h.2.1; omega
  all_goals
    rw [e] at h0
    rcases cmp_cases (ky q) 4607182418800017408 with ⟨c2, e2⟩ | ⟨c2, e2⟩ | ⟨c2, e2⟩
    · rw [e2] at h1
      clear c c2 e e2
      go_enter Try.func35, Try.ntmps35
      go_wp2
      go_ret
      exact ⟨rfl, rfl⟩
    · rw [e2] at h1
      clear c c2 e e2
      go_enter Try.func35, Try.ntmps35
      go_wp2
      go_ret
      exact ⟨rfl, rfl⟩
    · have := h.2.2; omega
set_option maxHeartbeats 1000000 in
theorem isPart_no (q : Nat) (c : Option Nat) (h : byP q c) (w : World) : Calls Try.prog 35 #[.float .f64 q] w fun r w' => r = .returned (.bool false) ∧ w' = w := by
  rcases h with ⟨hn, -⟩ | ⟨hn, h, -⟩ | ⟨hn, h, -⟩
  · have h0 := ordn q 0 hn
    go_enter Try.func35, Try.ntmps35
    go_wp2
    go_ret
    exact ⟨rfl, rfl⟩
  · have h0 := ord0 q hn
    rw [Int.compare_eq_lt.2 h] at h0
    clear h
    go_enter Try.func35, Try.ntmps35
    go_wp2
    go_ret
    exact ⟨rfl, rfl⟩
  · have h0 := ord0 q hn
    have h1 := ord1 q hn
    rw [Int.compare_eq_gt.2 (show (0 : Int) < ky q by omega)] at h0
    rw [Int.compare_eq_gt.2 h] at h1
    clear h
    go_enter Try.func35, Try.ntmps35
    go_wp2
    go_ret
    exact ⟨rfl, rfl⟩
set_option maxHeartbeats 1000000 in
theorem beyond_any (q : Nat) (c : Option Nat) (h : byP q c) (w : World) : Calls Try.prog 36 #[.float .f64 q] w (RF w c) := by
  rcases h with ⟨hn, rfl⟩ | ⟨hn, h, rfl⟩ | ⟨hn, h, rfl⟩
  · have h0 := ordn q 0 hn
    have h1 := ordn q 4607182418800017408 hn
    go_enter Try.func36, Try.ntmps36
    go_wp2_with fail
    go_fit (nan_any _)
    rintro r w ⟨rfl, rfl⟩
    go_wp2
    go_ret
    exact ⟨_, 0, rfl, rfl, by decide, cl_theNaN⟩
  · have h0 := ord0 q hn
    rw [Int.compare_eq_lt.2 h] at h0
    clear h
    go_enter Try.func36, Try.ntmps36
    go_wp2_with fail
    go_fit (infm_any _)
    rintro r w ⟨rfl, rfl⟩
    go_wp2
    go_ret
    exact ⟨_, 0, rfl, rfl, by decide, cl_lit _ (by decide)⟩
  · have h0 := ord0 q hn
    have h1 := ord1 q hn
    rw [Int.compare_eq_gt.2 (show (0 : Int) < ky q by omega)] at h0
    rw [Int.compare_eq_gt.2 h] at h1
    clear h
    go_enter Try.func36, Try.ntmps36
    go_wp2_with fail
    go_fit (inf1_any _)
    rintro r w ⟨rfl, rfl⟩
    go_wp2
    go_ret
    exact ⟨_, 0, rfl, rfl, by decide, cl_lit _ (by decide)⟩
end Go.Proofs.Ytfjfpplemgjcmaa
