/- The walks of utf.Text where all are runes, of the law's own right and width. -/
import Derived.Test.YtdnbkgbgpfmipaaDoorEnc
import Derived.Test.YtdnbkgbgpfmipaaDoorJoinsBoth
namespace Go.Proofs.YtdnbkgbgpfmipaaDoor
open Go.RowKit Go.Lib

set_option maxHeartbeats 400000 in
theorem width_any (x : Int) (w : World) : Calls Tryd.prog 22 #[.int .i32 x] w fun e w' => e = .returned (.int .i64 (wd x)) ∧ w' = w := by
  by_cases h1 : x < 128
  · have e1 : (wd x : Int) = 1 := by unfold wd; rw [if_pos h1]; rfl
    rw [e1]
    have d1 : decide (x < 128) = true := by simpa using h1
    clear e1 h1
    go_enter Tryd.func22, Tryd.ntmps22
    go_wp2
    go_ret
    exact ⟨rfl, rfl⟩
  · have d1 : decide (x < 128) = false := by simpa using h1
    by_cases h2 : x < 2048
    · have e1 : (wd x : Int) = 2 := by unfold wd; rw [if_neg h1, if_pos h2]; rfl
      rw [e1]
      have d2 : decide (x < 2048) = true := by simpa using h2
      clear e1 h1 h2
      go_enter Tryd.func22, Tryd.ntmps22
      go_wp2
      go_ret
      exact ⟨rfl, rfl⟩
    · have d2 : decide (x < 2048) = false := by simpa using h2
      by_cases h3 : x < 65536
      · have e1 : (wd x : Int) = 3 := by unfold wd; rw [if_neg h1, if_neg h2, if_pos h3]; rfl
        rw [e1]
        have d3 : decide (x < 65536) = true := by simpa using h3
        clear e1 h1 h2 h3
        go_enter Tryd.func22, Tryd.ntmps22
        go_wp2
        go_ret
        exact ⟨rfl, rfl⟩
      · have e1 : (wd x : Int) = 4 := by unfold wd; rw [if_neg h1, if_neg h2, if_neg h3]; rfl
        rw [e1]
        have d3 : decide (x < 65536) = false := by simpa using h3
        clear e1 h1 h2 h3
        go_enter Tryd.func22, Tryd.ntmps22
        go_wp2
        go_ret
        exact ⟨rfl, rfl⟩

theorem validRune_eq (x : Int) : Lib.validRune x = isRune x := by
  unfold Lib.validRune isRune
  rw [Bool.eq_iff_iff]
  simp
  omega

/-- A list of runes that lies in memory. -/
def RunesAt (w : World) (g o : Nat) (xs : List Int) : Prop := ∀ j, j < xs.length → w.cell? ⟨g, o + j, none⟩ = some (.int .i32 (xs.getD j 0))

theorem conv_runes (w : World) (g o c : Nat) (xs : List Int) (h : RunesAt w g o xs) :
    (convert 25 9 (.slice (some ⟨g, o, none⟩) xs.length c)).run Tryd.prog w = .ok (.string (runesBytes xs)) w := by
  have := run_convert_runes (P := Tryd.prog) w 25 9 21 ⟨g, o, none⟩ xs.length c xs (Nat.le_refl _) Tryd.underlying25 Tryd.underlying21 Tryd.underlying9 (fun j hj => by rw [Go.WideShapes.add_plain]; exact h j hj)
  rw [List.take_length] at this
  exact this

set_option maxHeartbeats 1000000 in
theorem text_ok (g o c : Nat) (xs : List Int) (w : World) (hn : xs.length ≤ maxLen) (h : RunesAt w g o xs) (hr : ∀ x ∈ xs, isRune x = true) :
    Calls Tryd.prog 21 #[.slice (some ⟨g, o, none⟩) xs.length c] w fun e w' => e = .returned (.tuple #[.string (runesBytes xs), .int .i64 0]) ∧ w' = w := by
  have hcv := conv_runes w g o c xs h
  have H : Hid (RunesAt w g o xs) := h
  have HR : Hid (∀ x ∈ xs, isRune x = true) := hr
  unfold maxLen at hn
  generalize runesBytes xs = S at *
  clear h hr
  generalize hn' : xs.length = n at *
  have HN : Hid (xs.length = n) := hn'
  clear hn'
  go_enter Tryd.func21, Tryd.ntmps21
  go_wp2
  go_loop [8] (fun t => ∃ j : Nat, t = .int .i64 j ∧ j ≤ n) (fun t => n - (RowKit.intOf t).toNat)
  case atStart => exact ⟨0, rfl, by omega⟩
  case round =>
    obtain ⟨j, rfl, hj⟩ := hrel
    by_cases hlt : j < n
    · have hjx : j < xs.length := by rw [HN.out]; exact hlt
      have d0 := H.out j hjx
      have k1 := Tryd.utf8_ValidRune (xs.getD j 0) w
      have hv : isRune (xs.getD j 0) = true := HR.out _ (by simp [List.getD, hjx])
      rw [validRune_eq, hv] at k1
      generalize xs.getD j 0 = x at *
      clear hv hjx
      go_wp2_with (go_at_call 33; go_fit k1; rintro e w' ⟨rfl, rfl⟩)
      go_round
      case rel => exact ⟨j + 1, by go_num, by omega⟩
      case measure => simp [RowKit.intOf]; omega
    · go_wp2
      go_ret2
      exact ⟨rfl, rfl⟩
end Go.Proofs.YtdnbkgbgpfmipaaDoor
