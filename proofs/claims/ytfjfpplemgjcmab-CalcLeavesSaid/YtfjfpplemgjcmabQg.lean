/- A list sorted, as a function; parts of one. -/
import Derived.Test.YtfjfpplemgjcmabQf
namespace Go.Proofs.Ytfjfpplemgjcmab
open Go.RowKit

def ins (x : Nat) : List Nat → List Nat
  | [] => [x]
  | y :: l => if ky x ≤ ky y then x :: y :: l else y :: ins x l
/-- Sorted, those alike as they stood. -/
def isrt : List Nat → List Nat
  | [] => []
  | x :: l => ins x (isrt l)
theorem ins_sim (x : Nat) (l : List Nat) : Sim ky (x :: l) (ins x l) := by
  induction l with
  | nil => exact Sim.refl _
  | cons y l ih =>
    unfold ins
    split
    · exact Sim.refl _
    · rename_i h
      have h1 : Sim ky ([x] ++ [y]) ([y] ++ [x]) := Sim.swap _ _ fun a ha b hb => by
        rw [List.mem_singleton.1 ha, List.mem_singleton.1 hb]
        omega
      have h2 : Sim ky (x :: y :: l) (y :: x :: l) := by simpa using h1.append (Sim.refl l)
      have h3 : Sim ky (y :: x :: l) (y :: ins x l) := by simpa using (Sim.refl (k := ky) [y]).append ih
      exact h2.trans h3
theorem ins_up (x : Nat) (l : List Nat) (h : Up ky l) : Up ky (ins x l) := by
  induction l with
  | nil => exact List.pairwise_singleton _ _
  | cons y l ih =>
    unfold ins
    split
    · rename_i hxy
      refine List.pairwise_cons.2 ⟨fun z hz => ?_, h⟩
      rcases List.mem_cons.1 hz with rfl | hz
      · exact hxy
      · have := (List.pairwise_cons.1 h).1 z hz
        omega
    · rename_i hxy
      refine List.pairwise_cons.2 ⟨fun z hz => ?_, ih (List.pairwise_cons.1 h).2⟩
      rcases List.mem_cons.1 ((ins_sim x l).symm.mem z hz) with rfl | hz
      · omega
      · exact (List.pairwise_cons.1 h).1 z hz
theorem isrt_ok (l : List Nat) : Sim ky l (isrt l) ∧ Up ky (isrt l) := by
  induction l with
  | nil => exact ⟨Sim.refl _, List.Pairwise.nil⟩
  | cons x l ih =>
    refine ⟨?_, ins_up x _ ih.2⟩
    have h : Sim ky (x :: l) (x :: isrt l) := by simpa using (Sim.refl (k := ky) [x]).append ih.1
    exact h.trans (ins_sim x _)
theorem isrt_one {xs ys : List Nat} (h1 : Sim ky xs ys) (h2 : Up ky ys) : ys = isrt xs := sim_one (h1.symm.trans (isrt_ok xs).1) h2 (isrt_ok xs).2

/-- A part of one, or none. -/
def Pt (q : Nat) : Prop := nanB q = false ∧ 0 ≤ ky q ∧ ky q ≤ 4607182418800017408
theorem ky0 : ky 0 = 0 := by decide
theorem ky1 : ky 4607182418800017408 = 4607182418800017408 := by decide
/-- What a quantile of no part is. -/
def byP (q : Nat) (c : Option Nat) : Prop := (nanB q = true ∧ c = none) ∨ (nanB q = false ∧ ky q < 0 ∧ c = some 18442240474082181120) ∨ (nanB q = false ∧ 4607182418800017408 < ky q ∧ c = some 9218868437227405312)
theorem part_or (q : Nat) : Pt q ∨ ∃ c, byP q c := by
  cases hn : nanB q with
  | true => exact .inr ⟨none, .inl ⟨hn, rfl⟩⟩
  | false =>
    by_cases h0 : ky q < 0
    · exact .inr ⟨_, .inr (.inl ⟨hn, h0, rfl⟩)⟩
    · by_cases h1 : 4607182418800017408 < ky q
      · exact .inr ⟨_, .inr (.inr ⟨hn, h1, rfl⟩)⟩
      · exact .inl ⟨hn, by omega, by omega⟩
theorem ord0 (q : Nat) (hn : nanB q = false) : FloatKind.f64.format.order q 0 = some (compare (ky q) 0) := by rw [key_order q 0 hn (by decide), ky0]
theorem ord1 (q : Nat) (hn : nanB q = false) : FloatKind.f64.format.order q 4607182418800017408 = some (compare (ky q) 4607182418800017408) := by rw [key_order q _ hn (by decide), ky1]
theorem ordn (q y : Nat) (hn : nanB q = true) : FloatKind.f64.format.order q y = none := by rw [fo_cl, cl_nan hn]; rfl
theorem cmp_cases (a b : Int) : (a < b ∧ compare a b = .lt) ∨ (a = b ∧ compare a b = .eq) ∨ (b < a ∧ compare a b = .gt) := by
  rcases Int.lt_trichotomy a b with h | h | h
  · exact .inl ⟨h, Int.compare_eq_lt.2 h⟩
  · exact .inr (.inl ⟨h, Int.compare_eq_eq.2 h⟩)
  · exact .inr (.inr ⟨h, Int.compare_eq_gt.2 h⟩)

set_option maxHeartbeats 1000000 in
theorem isPart_yes (q : Nat) (h : Pt q) (w : World) : Calls Try.prog 63 #[.float .f64 q] w fun r w' => r = .returned (.bool true) ∧ w' = w := by
  have h0 := ord0 q h.1
  have h1 := ord1 q h.1
  rcases cmp_cases (ky q) 0 with ⟨c, e⟩ | ⟨c, e⟩ | ⟨c, e⟩
  · have := h.2.1; omega
  all_goals
    rw [e] at h0
    rcases cmp_cases (ky q) 4607182418800017408 with ⟨c2, e2⟩ | ⟨c2, e2⟩ | ⟨c2, e2⟩
    · rw [e2] at h1
      clear c c2 e e2
      go_enter Try.func63, Try.ntmps63
      go_wp2
      go_ret
      exact ⟨rfl, rfl⟩
    · rw [e2] at h1
      clear c c2 e e2
      go_enter Try.func63, Try.ntmps63
      go_wp2
      go_ret
      exact ⟨rfl, rfl⟩
    · have := h.2.2; omega
set_option maxHeartbeats 1000000 in
theorem isPart_no (q : Nat) (c : Option Nat) (h : byP q c) (w : World) : Calls Try.prog 63 #[.float .f64 q] w fun r w' => r = .returned (.bool false) ∧ w' = w := by
  rcases h with ⟨hn, -⟩ | ⟨hn, h, -⟩ | ⟨hn, h, -⟩
  · have h0 := ordn q 0 hn
    go_enter Try.func63, Try.ntmps63
    go_wp2
    go_ret
    exact ⟨rfl, rfl⟩
  · have h0 := ord0 q hn
    rw [Int.compare_eq_lt.2 h] at h0
    clear h
    go_enter Try.func63, Try.ntmps63
    go_wp2
    go_ret
    exact ⟨rfl, rfl⟩
  · have h0 := ord0 q hn
    have h1 := ord1 q hn
    rw [Int.compare_eq_gt.2 (show (0 : Int) < ky q by omega)] at h0
    rw [Int.compare_eq_gt.2 h] at h1
    clear h
    go_enter Try.func63, Try.ntmps63
    go_wp2
    go_ret
    exact ⟨rfl, rfl⟩
set_option maxHeartbeats 1000000 in
theorem beyond_any (q : Nat) (c : Option Nat) (h : byP q c) (w : World) : Calls Try.prog 64 #[.float .f64 q] w (RF w c) := by
  rcases h with ⟨hn, rfl⟩ | ⟨hn, h, rfl⟩ | ⟨hn, h, rfl⟩
  · have h0 := ordn q 0 hn
    have h1 := ordn q 4607182418800017408 hn
    go_enter Try.func64, Try.ntmps64
    go_wp2_with fail
    go_fit (nan_any _)
    rintro r w ⟨rfl, rfl⟩
    go_wp2
    go_ret
    exact ⟨_, 0, rfl, rfl, by decide, cl_theNaN⟩
  · have h0 := ord0 q hn
    rw [Int.compare_eq_lt.2 h] at h0
    clear h
    go_enter Try.func64, Try.ntmps64
    go_wp2_with fail
    go_fit (infm_any _)
    rintro r w ⟨rfl, rfl⟩
    go_wp2
    go_ret
    exact ⟨_, 0, rfl, rfl, by decide, cl_lit _ (by decide)⟩
  · have h0 := ord0 q hn
    have h1 := ord1 q hn
    rw [Int.compare_eq_gt.2 (show (0 : Int) < ky q by omega)] at h0
    rw [Int.compare_eq_gt.2 h] at h1
    clear h
    go_enter Try.func64, Try.ntmps64
    go_wp2_with fail
    go_fit (inf1_any _)
    rintro r w ⟨rfl, rfl⟩
    go_wp2
    go_ret
    exact ⟨_, 0, rfl, rfl, by decide, cl_lit _ (by decide)⟩
end Go.Proofs.Ytfjfpplemgjcmab
