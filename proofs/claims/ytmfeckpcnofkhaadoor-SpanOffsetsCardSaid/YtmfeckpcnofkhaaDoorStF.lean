/- hasShape. -/
import Derived.Test.YtmfeckpcnofkhaaDoorDurA
import Derived.Deep.QuietTactic
import Derived.BigQuiet
namespace Go.Proofs.YtmfeckpcnofkhaaDoor
open Go.RowKit

/-- One byte of a shape. -/
abbrev shB (s H : ByteArray) (j : Nat) : Prop := if bt H j = 48 then isD s j else bt s j = bt H j
/-- Has it the shape? -/
def shp (s H : ByteArray) : Bool := decide (s.size = H.size ∧ ∀ j, j < s.size → shB s H j)

theorem one_digit (s : ByteArray) (j : Nat) (h : j < s.size) : rn (s.extract j (j + 1)) 0 = if isD s j then 1 else 0 := by
  have hz : (s.extract j (j + 1)).size = 1 := by rw [ByteArray.size_extract]; omega
  have hb : bt (s.extract j (j + 1)) 0 = bt s j := by rw [bt_ext s j (j + 1) 0 (by omega) (by omega)]; rfl
  unfold rn
  rw [hz]
  simp only [Nat.sub_zero, runF]
  by_cases hd : isD s j
  · have hd' : isD (s.extract j (j + 1)) 0 := ⟨by omega, by rw [hb]; exact hd.2.1, by rw [hb]; exact hd.2.2⟩
    rw [if_pos hd', if_pos hd]
  · have hd' : ¬ isD (s.extract j (j + 1)) 0 := fun h' => hd ⟨h, by rw [← hb]; exact h'.2.1, by rw [← hb]; exact h'.2.2⟩
    rw [if_neg hd', if_neg hd]

set_option maxHeartbeats 4000000 in
set_option maxRecDepth 100000 in
theorem hasShape_any (s H : ByteArray) (w : World) (hs : s.size ≤ 1000) :
    Calls Tryd.prog 50 #[.string s, .string H] w fun e w' => e = .returned (.bool (shp s H)) ∧ Below w.heap.size w w' := by
  by_cases hz : s.size = H.size
  · have HO : Hid (shp s H = decide (∀ j, j < s.size → shB s H j)) := by show _ = _; simp [shp, hz]
    generalize shp s H = O at *
    have hsi : (s.size : Int) ≤ 1000 := by omega
    have hHi : (H.size : Int) = s.size := by omega
    have HZ : Hid (s.size = H.size) := hz
    clear hz hs
    go_enter Tryd.func50, Tryd.ntmps50
    go_wp2
    go_loopw [13] (fun t w' => ∃ j : Nat, t = .int .i64 (j : Int) ∧ j ≤ s.size ∧ Hid (∀ i, i < j → shB s H i) ∧ Below w.heap.size w w') (fun t _ => s.size - (RowKit.intOf t).toNat)
    case atStart => exact ⟨0, rfl, by omega, fun i hi => absurd hi (by omega), Below.refl _ _⟩
    case round =>
      obtain ⟨j, rfl, hj, HF, hbw⟩ := hrel
      by_cases hlt : j < s.size
      · have hli : (j : Int) < s.size := by omega
        have hltH : j < H.size := by have := HZ.out; omega
        have hxH := bt_at H j hltH
        have hxs := bt_at s j hlt
        have hlH : (j : Int) < H.size := by omega
        have hj1 : (j : Int) + 1 ≤ s.size := by omega
        have od := one_digit s j hlt
        have esz : (s.extract j (j + 1)).size ≤ 140737488355328 := by rw [ByteArray.size_extract]; omega
        have kd0 := fun w => digitsAt_any (s.extract j (j + 1)) w esz
        rw [od] at kd0
        clear od esz
        by_cases c : bt H j = 48
        · have cb : (bt H j == 48) = true := by simpa using c
          have cn : (bt H j != 48) = false := by simpa using c
          by_cases q : isD s j
          · have HE : Hid (shB s H j) := by show shB s H j; unfold shB; rw [if_pos c]; exact q
            have HN : Hid (∀ i, i < j + 1 → shB s H i) := fun i hi => by
              by_cases e : i = j
              · subst e; exact HE.out
              · exact HF.out i (by omega)
            rw [if_pos q] at kd0
            have kd : ∀ w, Calls Tryd.prog 43 #[.string (s.extract j (j + 1))] w fun e w' => e = .returned (.int .i64 1) ∧ w' = w := kd0
            clear kd0 c q
            generalize bt H j = bH at *
            generalize bt s j = bs at *
            go_wp2_with fail
            go_quiet (first | (go_at_call 43; exact Calls.quiet_of_same (kd _)))
            go_wp2
            exact ⟨⟨j + 1, by go_num, by omega, HN.out, hbw.trans ⟨rfl, rfl, rfl, Nat.le_refl _, fun _ _ => rfl⟩⟩, by simp [RowKit.intOf]; omega⟩
          · have hno : ¬ shB s H j := by unfold shB; rw [if_pos c]; exact q
            have HE : Hid (O = false) := by
              show _ = _
              rw [HO.out]
              exact decide_eq_false (fun h => hno (h j hlt))
            rw [if_neg q] at kd0
            have kd : ∀ w, Calls Tryd.prog 43 #[.string (s.extract j (j + 1))] w fun e w' => e = .returned (.int .i64 0) ∧ w' = w := kd0
            clear kd0 c q hno
            generalize bt H j = bH at *
            generalize bt s j = bs at *
            go_wp2_with fail
            go_quiet (first | (go_at_call 43; exact Calls.quiet_of_same (kd _)))
            go_wp2
            go_ret
            exact ⟨by rw [HE.out]; rfl, hbw.trans ⟨rfl, rfl, rfl, Nat.le_refl _, fun _ _ => rfl⟩⟩
        · have cb : (bt H j == 48) = false := by simpa using c
          have cn : (bt H j != 48) = true := by simpa using c
          clear kd0
          by_cases q : bt s j = bt H j
          · have HE : Hid (shB s H j) := by show shB s H j; unfold shB; rw [if_neg c]; exact q
            have HN : Hid (∀ i, i < j + 1 → shB s H i) := fun i hi => by
              by_cases e : i = j
              · subst e; exact HE.out
              · exact HF.out i (by omega)
            have qn : (bt s j != bt H j) = false := by simpa using q
            clear c q
            generalize bt H j = bH at *
            generalize bt s j = bs at *
            go_wp2_with fail
            go_quiet (fail)
            go_wp2
            exact ⟨⟨j + 1, by go_num, by omega, HN.out, hbw.trans ⟨rfl, rfl, rfl, Nat.le_refl _, fun _ _ => rfl⟩⟩, by simp [RowKit.intOf]; omega⟩
          · have hno : ¬ shB s H j := by unfold shB; rw [if_neg c]; exact q
            have HE : Hid (O = false) := by
              show _ = _
              rw [HO.out]
              exact decide_eq_false (fun h => hno (h j hlt))
            have qn : (bt s j != bt H j) = true := by simpa using q
            clear c q hno
            generalize bt H j = bH at *
            generalize bt s j = bs at *
            go_wp2_with fail
            go_quiet (fail)
            go_wp2
            go_ret
            exact ⟨by rw [HE.out]; rfl, hbw.trans ⟨rfl, rfl, rfl, Nat.le_refl _, fun _ _ => rfl⟩⟩
      · have hli : ¬ (j : Int) < s.size := by omega
        obtain rfl : j = s.size := by omega
        have HE : Hid (O = true) := by show _ = _; rw [HO.out]; simpa using HF.out
        go_wp2
        go_ret
        exact ⟨by rw [HE.out]; rfl, hbw⟩
  · have hO : shp s H = false := by simp [shp, hz]
    rw [hO]
    have hzi : ¬ (s.size : Int) = H.size := by omega
    go_enter Tryd.func50, Tryd.ntmps50
    go_wp2
    go_ret
    exact ⟨rfl, Below.refl _ _⟩
end Go.Proofs.YtmfeckpcnofkhaaDoor
