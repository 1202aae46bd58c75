/- The walk of the reference's Literal. -/
import Derived.Test.YtdnbkgbgpfmipabDoorLit
namespace Go.Proofs.YtdnbkgbgpfmipabDoor
open Go.RowKit Go.Lib

set_option maxHeartbeats 1000000 in
theorem rliteral_out (s : ByteArray) (a : Int) (w : World) (h : a < 0 ∨ (s.size : Int) ≤ a) :
    Calls Tryd.prog 21 #[.string s, .int .i64 a] w fun e w' => e = .returned (.tuple #[.int .i64 0, .int .i64 10]) ∧ w' = w := by
  rcases h with h | h
  · go_enter Tryd.func21, Tryd.ntmps21
    go_wp2
    go_ret2
    exact ⟨rfl, rfl⟩
  · have h0 : ¬ a < 0 := by omega
    go_enter Tryd.func21, Tryd.ntmps21
    go_wp2
    go_ret2
    exact ⟨rfl, rfl⟩

set_option maxHeartbeats 2000000 in
theorem rliteral_in (s : ByteArray) (i : Nat) (w : World) (hs : s.size ≤ 140737488355328) (hi : i < s.size) :
    Calls Tryd.prog 21 #[.string s, .int .i64 i] w fun e w' => e = .returned (.tuple #[.int .i64 (litR s i).1, .int .i64 (litR s i).2]) ∧ w' = w := by
  have h0 : ¬ (i : Int) < 0 := by omega
  have h1 : ¬ (s.size : Int) ≤ i := by omega
  have hx := bt_at s i hi
  have hR : litR s i = if (bt s i = 34 ∨ bt s i = 39 ∨ bt s i = 96) then litO (litF s (bt s i) (decide (bt s i ≠ 96)) s.size (i + 1)) else (0, 10) := by
    unfold litR; simp only [hi, true_and]
  generalize hq : bt s i = q at *
  clear hq
  by_cases hok : q = 34 ∨ q = 39 ∨ q = 96
  · rw [if_pos hok] at hR
    generalize hO : litF s q (decide (q ≠ 96)) s.size (i + 1) = O at *
    rw [hR]
    have HO : Hid (litF s q (decide (q ≠ 96)) s.size (i + 1) = O) := hO
    clear hO hR
    by_cases q1 : q = 96
    · subst q1
      have e1 : (decide ((96 : Int) ≠ 96)) = false := by decide
      rw [e1] at HO
      clear e1 hok
      go_enter Tryd.func21, Tryd.ntmps21
      go_wp2
      go_loop [7] (fun t => ∃ j f : Nat, t = .int .i64 j ∧ j ≤ s.size ∧ litF s 96 false f j = O ∧ s.size ≤ j + f) (fun t => s.size + 1 - (RowKit.intOf t).toNat)
      case atStart => exact ⟨i + 1, s.size, by go_num, by omega, HO.out, by omega⟩
      case round =>
        obtain ⟨j, f, rfl, hj, hv, hf⟩ := hrel
        have HV : Hid (litF s 96 false f j = O) := hv
        clear hv
        by_cases hlt : j < s.size
        · have hli : (j : Int) < s.size := by omega
          have hxj := bt_at s j hlt
          by_cases hq : bt s j = 96
          · have hb : (bt s j == 96) = true := by rw [beq_iff_eq]; exact hq
            have HE : Hid (O = some (j + 1)) := by show _ = _; rw [← HV.out, litF_q s 96 false f j hlt (by omega) hq]
            clear hq
            go_wp2
            go_ret2
            exact ⟨by rw [HE.out]; rfl, rfl⟩
          · have hb : (bt s j == 96) = false := by rw [beq_eq_false_iff_ne]; exact hq
            have HE : Hid (litF s 96 false f j = litF s 96 false (f - 1) (j + 1)) := litF_go s 96 false f j hlt (by omega) hq (fun h => by cases h.1) (fun h => by cases h.1)
            clear hq
            go_wp2
            go_round
            case rel => exact ⟨j + 1, f - 1, by go_num, by omega, by rw [← HE.out]; exact HV.out, by omega⟩
            case measure => simp [RowKit.intOf]; omega
        · have HE : Hid (O = none) := by show _ = _; rw [← HV.out, litF_end s 96 false f j hlt]
          go_wp2
          go_ret2
          exact ⟨by rw [HE.out]; rfl, rfl⟩
    · have e1 : (decide (q ≠ 96)) = true := by simp [q1]
      rw [e1] at HO
      have n96 : (q != 96) = true := by rw [bne_iff_ne]; exact q1
      have hb34 : (q != 34) = true ∨ (q != 34) = false := by cases (q != 34) <;> simp
      have hany : ((q != 34) = false) ∨ ((q != 34) = true ∧ (q != 39) = false) := by
        rcases hok with rfl | rfl | rfl
        · left; rfl
        · right; exact ⟨rfl, rfl⟩
        · exact absurd rfl q1
      have q10 : q ≠ 10 := by omega
      clear e1 hok q1 hb34
      rcases hany with n34 | ⟨n34, n39⟩
      all_goals
        go_enter Tryd.func21, Tryd.ntmps21
        go_wp2
        go_loop [7] (fun t => ∃ j f : Nat, t = .int .i64 j ∧ j ≤ s.size + 1 ∧ litF s q true f j = O ∧ s.size ≤ j + f) (fun t => s.size + 2 - (RowKit.intOf t).toNat)
        case atStart => exact ⟨i + 1, s.size, by go_num, by omega, HO.out, by omega⟩
        case round =>
          obtain ⟨j, f, rfl, hj, hv, hf⟩ := hrel
          have HV : Hid (litF s q true f j = O) := hv
          clear hv
          by_cases hlt : j < s.size
          · have hli : (j : Int) < s.size := by omega
            have hxj := bt_at s j hlt
            by_cases hq : bt s j = q
            · have hb : (bt s j == q) = true := by rw [beq_iff_eq]; exact hq
              have HE : Hid (O = some (j + 1)) := by show _ = _; rw [← HV.out, litF_q s q true f j hlt (by omega) hq]
              clear hq
              go_wp2
              go_ret2
              exact ⟨by rw [HE.out]; rfl, rfl⟩
            · have hb : (bt s j == q) = false := by rw [beq_eq_false_iff_ne]; exact hq
              by_cases hnl : bt s j = 10
              · have hb3 : (bt s j == 10) = true := by rw [beq_iff_eq]; exact hnl
                have HE : Hid (O = none) := by show _ = _; rw [← HV.out, litF_nl s q f j hq hnl]
                clear hq hnl
                go_wp2
                go_ret2
                exact ⟨by rw [HE.out]; rfl, rfl⟩
              · have hb3 : (bt s j == 10) = false := by rw [beq_eq_false_iff_ne]; exact hnl
                by_cases hbs : bt s j = 92
                · have hb2 : (bt s j == 92) = true := by rw [beq_iff_eq]; exact hbs
                  by_cases hnx : j + 1 < s.size
                  · have hli2 : (j : Int) + 1 < s.size := by omega
                    have hx2 := bt_at s (j + 1) hnx
                    by_cases hn2 : bt s (j + 1) = 10
                    · have hb4 : (bt s (j + 1) == 10) = true := by rw [beq_iff_eq]; exact hn2
                      have HE : Hid (O = none) := by show _ = _; rw [← HV.out, litF_bsnl s q f j hnx hq hbs hn2]
                      clear hq hbs hnl hn2
                      go_wp2
                      go_ret2
                      exact ⟨by rw [HE.out]; rfl, rfl⟩
                    · have hb4 : (bt s (j + 1) == 10) = false := by rw [beq_eq_false_iff_ne]; exact hn2
                      have HE : Hid (litF s q true f j = litF s q true (f - 1) (j + 2)) := litF_bs s q f j hlt (by omega) hq hbs (fun h => hn2 h.2)
                      clear hq hbs hnl hn2
                      go_wp2
                      go_round
                      case rel => exact ⟨j + 2, f - 1, by go_num, by omega, by rw [← HE.out]; exact HV.out, by omega⟩
                      case measure => simp [RowKit.intOf]; omega
                  · have hli2 : ¬ (j : Int) + 1 < s.size := by omega
                    have HE : Hid (litF s q true f j = litF s q true (f - 1) (j + 2)) := litF_bs s q f j hlt (by omega) hq hbs (fun h => hnx h.1)
                    clear hq hbs hnl
                    go_wp2
                    go_round
                    case rel => exact ⟨j + 2, f - 1, by go_num, by omega, by rw [← HE.out]; exact HV.out, by omega⟩
                    case measure => simp [RowKit.intOf]; omega
                · have hb2 : (bt s j == 92) = false := by rw [beq_eq_false_iff_ne]; exact hbs
                  have HE : Hid (litF s q true f j = litF s q true (f - 1) (j + 1)) := litF_go s q true f j hlt (by omega) hq (fun h => hnl h.2) (fun h => hbs h.2)
                  clear hq hbs hnl
                  go_wp2
                  go_round
                  case rel => exact ⟨j + 1, f - 1, by go_num, by omega, by rw [← HE.out]; exact HV.out, by omega⟩
                  case measure => simp [RowKit.intOf]; omega
          · have HE : Hid (O = none) := by show _ = _; rw [← HV.out, litF_end s q true f j hlt]
            go_wp2
            go_ret2
            exact ⟨by rw [HE.out]; rfl, rfl⟩
  · rw [if_neg hok] at hR
    rw [hR]
    have b1 : (q != 34) = true := by rw [bne_iff_ne]; omega
    have b2 : (q != 39) = true := by rw [bne_iff_ne]; omega
    have b3 : (q != 96) = true := by rw [bne_iff_ne]; omega
    clear hR hok
    go_enter Tryd.func21, Tryd.ntmps21
    go_wp2
    go_ret2
    exact ⟨rfl, rfl⟩

theorem rliteral_any (s : ByteArray) (a : Int) (w : World) (hs : s.size ≤ 140737488355328) :
    Calls Tryd.prog 21 #[.string s, .int .i64 a] w fun e w' => e = .returned (.tuple #[.int .i64 (litZ s a).1, .int .i64 (litZ s a).2]) ∧ w' = w := by
  by_cases h0 : a < 0
  · have e1 : litZ s a = (0, 10) := by unfold litZ; rw [if_neg (by omega)]
    rw [e1]
    exact rliteral_out s a w (Or.inl h0)
  · obtain ⟨i, rfl⟩ := Int.eq_ofNat_of_zero_le (show 0 ≤ a by omega)
    have e1 : litZ s (i : Int) = litR s i := by unfold litZ; rw [if_pos (by omega)]; simp
    rw [e1]
    by_cases h1 : i < s.size
    · exact rliteral_in s i w hs h1
    · have e2 : litR s i = (0, 10) := by unfold litR; rw [if_neg (fun h => h1 h.1)]
      rw [e2]
      exact rliteral_out s i w (Or.inr (by omega))
end Go.Proofs.YtdnbkgbgpfmipabDoor
