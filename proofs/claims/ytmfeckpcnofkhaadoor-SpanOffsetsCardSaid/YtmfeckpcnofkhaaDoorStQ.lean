/- Offsets on both sides. -/
import Derived.Test.YtmfeckpcnofkhaaDoorStP
import Derived.Test.YtmfeckpcnofkhaaDoorStN
import Derived.Test.YtmfeckpcnofkhaaDoorMomLaw
namespace Go.Proofs.YtmfeckpcnofkhaaDoor
open Go.RowKit

/-- Five bytes: two digits, a colon, two digits. -/
abbrev form5 (C : ByteArray) : Prop := C.size = 5 ∧ isD C 0 ∧ isD C 1 ∧ bt C 2 = 58 ∧ isD C 3 ∧ isD C 4
theorem d2_bd (s : ByteArray) (i : Nat) (h1 : isD s i) (h2 : isD s (i + 1)) : 0 ≤ d2 s i ∧ d2 s i ≤ 99 := by
  have a := h1.2
  have b := h2.2
  unfold d2
  omega
/-- Two digits at a place, or -1. -/
theorem rtwo_any (s : ByteArray) (i : Nat) (hs : s.size ≤ 64) (hi : i ≤ 64) : ∃ v : Int, -1 ≤ v ∧ v ≤ 99 ∧ (∀ w, Calls Tryd.prog 56 #[.string s, .int .i64 i] w fun e w' => e = .returned (.int .i64 v) ∧ Below w.heap.size w w') ∧ (isD s i ∧ isD s (i + 1) → v = d2 s i) ∧ (¬ (isD s i ∧ isD s (i + 1)) → v = -1) := by
  by_cases h : isD s i ∧ isD s (i + 1)
  · have := d2_bd s i h.1 h.2
    exact ⟨d2 s i, by omega, by omega, fun w => rtwo_ok s i w hs h.1 h.2, fun _ => rfl, fun q => absurd h q⟩
  · exact ⟨-1, by omega, by omega, fun w => rtwo_no s i w hi h, fun q => absurd q h, fun _ => rfl⟩
theorem mom_hm (h mi : Int) (h0 : 0 ≤ h) (m0 : 0 ≤ mi) : ∃ n e : Int, (e = 0 ∨ e = 2) ∧ (∀ w, Units w → Calls Tryd.prog 9 #[ag 1970 1 1 h mi 0 0 0 0 0] w fun r w' => r = .returned (.tuple #[.int .i64 n, .int .i64 e]) ∧ Below w.heap.size w w') ∧
    (h ≤ 23 ∧ mi ≤ 59 → e = 0 ∧ n = h * 3600000 + mi * 60000) ∧ (¬ (h ≤ 23 ∧ mi ≤ 59) → e = 2 ∧ n = 0) := by
  have g2 : (1 : Int) ≤ 1 ∧ (1 : Int) ≤ md 1970 1 := by decide
  by_cases a : h ≤ 23
  · by_cases b : mi ≤ 59
    · refine ⟨momV 1970 1 1 h mi 0 0, 0, .inl rfl, fun w hU => moment_ok 1970 1 1 h mi 0 0 0 0 0 w hU (by decide) (by decide) g2 ⟨h0, a⟩ ⟨m0, b⟩ (by decide) (by decide) (fun w => inRange_ok 1970 1 1 h mi 0 0 0 0 0 w (by decide) (by decide) (by decide) g2 ⟨h0, a⟩ ⟨m0, b⟩ (by decide) (by decide)), fun _ => ⟨rfl, mom1970 h mi⟩, fun q => absurd ⟨a, b⟩ q⟩
    · exact ⟨0, 2, .inr rfl, fun w _ => moment_no 1970 1 1 h mi 0 0 0 0 0 w (by decide) (fun w => inRange_no4 1970 1 1 h mi 0 0 0 0 0 w (by decide) (by decide) (by decide) g2 ⟨h0, a⟩ (fun q => b q.2)), fun q => absurd q.2 b, fun _ => ⟨rfl, rfl⟩⟩
  · exact ⟨0, 2, .inr rfl, fun w _ => moment_no 1970 1 1 h mi 0 0 0 0 0 w (by decide) (fun w => inRange_no3 1970 1 1 h mi 0 0 0 0 0 w (by decide) (by decide) (by decide) g2 (fun q => a q.2)), fun q => absurd q.1 a, fun _ => ⟨rfl, rfl⟩⟩
set_option maxHeartbeats 1000000 in
theorem offset_both (z : ByteArray) (hs : z.size ≤ 64)
    (kH : ∀ C : ByteArray, C.size ≤ 64 → ∀ w, Calls Tryd.prog 50 #[.string C, .string ⟨#[48, 48, 58, 48, 48]⟩] w fun e w' => e = .returned (.bool (decide (form5 C))) ∧ Below w.heap.size w w') :
    ∃ (n : Int) (b : Bool), (-100000000 ≤ n ∧ n ≤ 100000000) ∧ (∀ w, Units w → Calls Tryd.prog 52 #[.string z] w fun r w' => r = .returned (.tuple #[.int .i64 n, .bool b]) ∧ Below w.heap.size w w') ∧ (∀ w, Calls Tryd.prog 57 #[.string z] w fun r w' => r = .returned (.tuple #[.int .i64 n, .bool b]) ∧ Below w.heap.size w w') := by
  by_cases hz : z.toList = [90]
  · have e : z = ⟨#[90]⟩ := Go.WideShapes.bytes_inj (by rw [← ByteArray.toList_eq]; exact hz)
    subst e
    exact ⟨0, true, by omega, fun w _ => offset_z w, fun w => roffset_z w⟩
  · have k1 := fun w => cutSign_any z w
    by_cases hp0 : hp z 45 ∨ hp z 43
    · have hsa : sa z = 1 := if_pos hp0
      have zp : 0 < z.size := hp0.elim (·.1) (·.1)
      rw [hsa] at k1
      have Cz : (z.extract 1 z.size).size = z.size - 1 := by rw [ByteArray.size_extract]; omega
      have hb : ∀ i, bt (z.extract 1 z.size) i = bt z (1 + i) := fun i => bt_extract z 1 i
      have hd : ∀ i, isD (z.extract 1 z.size) i ↔ isD z (1 + i) := fun i => isD_ext z 1 i
      have hf5 : form5 (z.extract 1 z.size) ↔ z.size = 6 ∧ isD z 1 ∧ isD z 2 ∧ bt z 3 = 58 ∧ isD z 4 ∧ isD z 5 := by
        unfold form5
        rw [Cz, hd 0, hd 1, hb 2, hd 3, hd 4]
        constructor
        · rintro ⟨a, b⟩; exact ⟨by omega, b⟩
        · rintro ⟨a, b⟩; exact ⟨by omega, b⟩
      have kC := kH (z.extract 1 z.size) (by omega)
      have sgn : (mn z = true ∧ bt z 0 = 45) ∨ (mn z = false ∧ bt z 0 = 43) := by
        by_cases a : hp z 45
        · exact .inl ⟨decide_eq_true a, a.2⟩
        · exact .inr ⟨decide_eq_false a, (hp0.resolve_left a).2⟩
      by_cases f : form5 (z.extract 1 z.size)
      · obtain ⟨f1, f2, f3, f4, f5, f6⟩ := hf5.1 f
        rw [decide_eq_true f] at kC
        have n1 := num2 (z.extract 1 z.size) 0 (by omega) ((hd 0).2 f2) ((hd 1).2 f3)
        have n2 := num2 (z.extract 1 z.size) 3 (by omega) ((hd 3).2 f5) ((hd 4).2 f6)
        have e1 : d2 (z.extract 1 z.size) 0 = d2 z 1 := by unfold d2; rw [hb 0, hb (0 + 1)]
        have e2 : d2 (z.extract 1 z.size) 3 = d2 z 4 := by unfold d2; rw [hb 3, hb (3 + 1)]
        rw [e1] at n1
        rw [e2] at n2
        have b1 := d2_bd z 1 f2 f3
        have b2 := d2_bd z 4 f5 f6
        obtain ⟨n, e, he, kM, c1, c2⟩ := mom_hm (d2 z 1) (d2 z 4) b1.1 b2.1
        have hn : -90000000 ≤ n ∧ n ≤ 90000000 := by
          by_cases q : d2 z 1 ≤ 23 ∧ d2 z 4 ≤ 59
          · have := (c1 q).2; omega
          · have := (c2 q).2; omega
        have kP := fun w hU => offset_mom z (z.extract 1 z.size) (mn z) (d2 z 1) (d2 z 4) n e w hU hz (by omega) (by omega) (by omega) (by omega) he k1 kC n1 n2 kM
        have r1 := fun w => rtwo_ok z 1 w hs f2 f3
        have r2 := fun w => rtwo_ok z 4 w hs f5 f6
        have key : (if mn z = true then -n else n) = (hmR (mn z) (d2 z 1) (d2 z 4)).1 ∧ decide (e = 0) = (hmR (mn z) (d2 z 1) (d2 z 4)).2 := by
          by_cases q : d2 z 1 ≤ 23 ∧ d2 z 4 ≤ 59
          · obtain ⟨q1, q2⟩ := c1 q
            have e3 : hmR (mn z) (d2 z 1) (d2 z 4) = (if mn z = true then -(d2 z 1 * 3600000 + d2 z 4 * 60000) else d2 z 1 * 3600000 + d2 z 4 * 60000, true) := by
              unfold hmR
              exact if_pos ⟨b1.1, q.1, b2.1, q.2⟩
            rw [e3, q1, q2]
            exact ⟨rfl, rfl⟩
          · obtain ⟨q1, q2⟩ := c2 q
            have e3 : hmR (mn z) (d2 z 1) (d2 z 4) = (0, false) := by
              unfold hmR
              exact if_neg (fun x => q ⟨x.2.1, x.2.2.2⟩)
            rw [e3, q1, q2]
            exact ⟨by split <;> rfl, rfl⟩
        rw [key.1, key.2] at kP
        refine ⟨_, _, ?_, kP, fun w => ?_⟩
        · rw [← key.1]; split <;> omega
        · rcases sgn with ⟨s1, s2⟩ | ⟨s1, s2⟩
          · rw [s1]
            exact roffset_minus z (d2 z 1) (d2 z 4) w hz f1 s2 f4 (by omega) (by omega) (by omega) (by omega) r1 r2
          · rw [s1]
            exact roffset_plus z (d2 z 1) (d2 z 4) w hz f1 s2 f4 (by omega) (by omega) (by omega) (by omega) r1 r2
      · rw [decide_eq_false f] at kC
        have Hf : Hid (¬ form5 (z.extract 1 z.size)) := f
        have H5 : Hid (_) := hf5
        clear f hf5
        refine ⟨0, false, by omega, fun w _ => offset_shape z _ (mn z) w hz (by omega) k1 kC, fun w => ?_⟩
        by_cases g : z.size = 6 ∧ bt z 3 = 58
        · obtain ⟨v1, a1, a2, r1, a3, a4⟩ := rtwo_any z 1 hs (by omega)
          obtain ⟨v2, b1, b2, r2, b3, b4⟩ := rtwo_any z 4 hs (by omega)
          have hno : ¬ ((isD z 1 ∧ isD z (1 + 1)) ∧ (isD z 4 ∧ isD z (4 + 1))) := fun q => Hf.out (H5.out.2 ⟨g.1, q.1.1, q.1.2, g.2, q.2.1, q.2.2⟩)
          have hv : v1 = -1 ∨ v2 = -1 := by
            by_cases q : isD z 1 ∧ isD z (1 + 1)
            · exact .inr (b4 (fun x => hno ⟨q, x⟩))
            · exact .inl (a4 q)
          have hR : ∀ m, hmR m v1 v2 = (0, false) := fun m => by unfold hmR; rw [if_neg (by omega)]
          rcases sgn with ⟨_, s2⟩ | ⟨_, s2⟩
          · have := roffset_minus z v1 v2 w hz g.1 s2 g.2 a1 a2 b1 b2 r1 r2
            rwa [hR] at this
          · have := roffset_plus z v1 v2 w hz g.1 s2 g.2 a1 a2 b1 b2 r1 r2
            rwa [hR] at this
        · exact roffset_bad z w hz (fun x => g ⟨x.1, x.2.2⟩)
    · have hsa : sa z = 0 := if_neg hp0
      rw [hsa, ext0] at k1
      refine ⟨0, false, by omega, fun w _ => offset_same z z (mn z) w hz rfl k1, fun w => roffset_bad z w hz (fun x => hp0 ?_)⟩
      rcases x.2.1 with q | q
      · exact .inr ⟨by omega, q⟩
      · exact .inl ⟨by omega, q⟩
end Go.Proofs.YtmfeckpcnofkhaaDoor
