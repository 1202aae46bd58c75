/- RxprogSounds: isPlace, hasSoundPlaces, hasSoundArg. -/
import Derived.Test.YtnpgkiidpeaapaaDoorSa
namespace Go.Proofs.YtnpgkiidpeaapaaDoor
open Go.RowKit

set_option maxHeartbeats 400000 in
theorem isPlace_any (i n : Int) (w : World) : Calls Tryd.prog 17 #[.int .i64 i, .int .i64 n] w fun r w' => r = .returned (.bool (plB i n)) ∧ w' = w := by
  by_cases h0 : 0 ≤ i
  · by_cases h1 : i < n
    · go_enter Tryd.func17, Tryd.ntmps17
      go_wp2
      go_ret
      exact ⟨ret_bool (by unfold plB; simp [h0, h1]), rfl⟩
    · go_enter Tryd.func17, Tryd.ntmps17
      go_wp2
      go_ret
      exact ⟨ret_bool (by unfold plB; simp [h1]), rfl⟩
  · go_enter Tryd.func17, Tryd.ntmps17
    go_wp2
    go_ret
    exact ⟨ret_bool (by unfold plB; rw [decide_eq_false (by omega)]), rfl⟩

set_option maxHeartbeats 1000000 in
theorem places_any (op out alt arg : Int) (a : Option Addr) (n c : Nat) (m : Int) (w : World) :
    Calls Tryd.prog 25 #[inV op out alt arg a n c, .int .i64 m] w fun r w' => r = .returned (.bool (spB op out alt m)) ∧ Below w.heap.size w w' := by
  have HB : Hid (Below w.heap.size w (w.alloc (inX op out alt arg a n c))) := (Below.refl _ w).alloc (Nat.le_refl _) _
  by_cases h1 : op = 1 ∨ op = 11
  · have HE : Hid (spB op out alt m = (out == 0 && alt == 0)) := by unfold Hid spB; rw [if_pos h1, Bool.eq_iff_iff]; simp
    cases ho : (out == 0)
    all_goals cases ha : (alt == 0)
    all_goals rw [ho, ha] at HE
    all_goals rcases h1 with h1 | h1
    all_goals subst h1
    all_goals
      go_enter Tryd.func25, Tryd.ntmps25
      go_wp2
      go_ret
      exact ⟨ret_bool (by rw [HE.out]; rfl), HB.out⟩
  · have e1 : (op == 1) = false := by simp; omega
    have e11 : (op == 11) = false := by simp; omega
    by_cases h3 : op = 3
    · have HE : Hid (spB op out alt m = (plB out m && plB alt m)) := by unfold Hid spB; rw [if_neg h1, if_pos h3]
      clear h1
      subst h3
      cases hp : plB out m
      all_goals cases hq : plB alt m
      all_goals
        rw [hp, hq] at HE
        have kO := isPlace_any out m
        have kA := isPlace_any alt m
        rw [hp] at kO
        rw [hq] at kA
        clear hp hq
        go_enter Tryd.func25, Tryd.ntmps25
        go_wp2_with fail
        go_fit (kO _)
        rintro r w1 ⟨rfl, rfl⟩
        try (go_wp2_with fail; go_fit (kA _); rintro r w1 ⟨rfl, rfl⟩)
        go_wp2
        go_ret
        exact ⟨ret_bool (by rw [HE.out]; rfl), HB.out⟩
    · have e3 : (op == 3) = false := by simp; omega
      have HE : Hid (spB op out alt m = (plB out m && alt == 0)) := by unfold Hid spB; rw [if_neg h1, if_neg h3, Bool.eq_iff_iff]; simp
      clear h1 h3
      cases hp : plB out m
      all_goals cases ha : (alt == 0)
      all_goals
        rw [hp, ha] at HE
        have kO := isPlace_any out m
        rw [hp] at kO
        clear hp
        go_enter Tryd.func25, Tryd.ntmps25
        go_wp2_with fail
        go_fit (kO _)
        rintro r w1 ⟨rfl, rfl⟩
        go_wp2
        go_ret
        exact ⟨ret_bool (by rw [HE.out]; rfl), HB.out⟩

set_option maxHeartbeats 1000000 in
theorem arg_any (op out alt arg : Int) (a : Option Addr) (n c : Nat) (g : Int) (w : World) (hg0 : 0 ≤ g) (hg1 : g ≤ 100) :
    Calls Tryd.prog 26 #[inV op out alt arg a n c, .int .i64 g] w fun r w' => r = .returned (.bool (saB op arg g)) ∧ Below w.heap.size w w' := by
  have HB : Hid (Below w.heap.size w (w.alloc (inX op out alt arg a n c))) := (Below.refl _ w).alloc (Nat.le_refl _) _
  by_cases h4 : op = 4
  · have HE : Hid (saB op arg g = (decide (2 ≤ arg) && decide (arg ≤ 2 * g + 1))) := by unfold Hid saB; rw [if_pos h4, Bool.eq_iff_iff]; simp
    subst h4
    cases h2 : decide (2 ≤ arg)
    all_goals cases h3 : decide (arg ≤ 2 * g + 1)
    all_goals
      rw [h2, h3] at HE
      go_enter Tryd.func26, Tryd.ntmps26
      go_wp2
      go_ret
      exact ⟨ret_bool (by rw [HE.out]; rfl), HB.out⟩
  · have e4 : (op == 4) = false := by simp; omega
    by_cases h9 : op = 9
    · have HE : Hid (saB op arg g = (arg == 0 || arg == 1)) := by unfold Hid saB; rw [if_neg h4, if_pos h9, Bool.eq_iff_iff]; simp
      subst h9
      cases h2 : (arg == 0)
      all_goals cases h3 : (arg == 1)
      all_goals
        rw [h2, h3] at HE
        go_enter Tryd.func26, Tryd.ntmps26
        go_wp2
        go_ret
        exact ⟨ret_bool (by rw [HE.out]; rfl), HB.out⟩
    · have e9 : (op == 9) = false := by simp; omega
      have HE : Hid (saB op arg g = (arg == 0)) := by unfold Hid saB; rw [if_neg h4, if_neg h9, Bool.eq_iff_iff]; simp
      cases h2 : (arg == 0)
      all_goals
        rw [h2] at HE
        go_enter Tryd.func26, Tryd.ntmps26
        go_wp2
        go_ret
        exact ⟨ret_bool (by rw [HE.out]), HB.out⟩
end Go.Proofs.YtnpgkiidpeaapaaDoor
