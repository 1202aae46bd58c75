/- The walks of the reference's Prefix and Parse. -/
import Derived.Test.YtmfeckpcnofkhaaDoorDurC
namespace Go.Proofs.YtmfeckpcnofkhaaDoor
open Go.RowKit

/-- Out of the state (rank, place): the next one, by what stands there. -/
theorem rround (s : ByteArray) (p : Nat) (hs : s.size ≤ 140737488355328) (hp : p ≤ s.size) : ∃ j : Nat, rn s p = j ∧ p ≤ j ∧ j ≤ s.size ∧
    (∀ w, Calls Tryd.prog 32 #[.string s, .int .i64 p] w fun e w' => e = .returned (.int .i64 j) ∧ w' = w) ∧
    (∀ w, Calls Tryd.prog 33 #[.string s, .int .i64 j] w fun e w' => e = .returned (.tuple #[.int .i64 (uR (uAt s j)).1, .int .i64 (uR (uAt s j)).2.1, .int .i64 (uR (uAt s j)).2.2]) ∧ w' = w) := by
  have hb := rn_bd s p hp
  exact ⟨rn s p, rfl, hb.1, hb.2, fun w => rrun_any s p w hs hp, fun w => runit_any s (rn s p) w hs hb.2⟩
theorem uR_7 (u : Nat) (h : 7 ≤ u) : uR u = (0, 0, 0) := by unfold uR; rw [if_neg (by omega)]
theorem uR_lt (u : Nat) (h : u < 7) : uR u = ((uw u : Int), ulen u, (u : Int) + 1) := by unfold uR; rw [if_pos h]

set_option maxHeartbeats 2000000 in
set_option maxRecDepth 100000 in
theorem rprefix_any (s : ByteArray) (w : World) (hs : s.size ≤ 140737488355328) : Calls Tryd.prog 14 #[.string s] w fun e w' => e = .returned (.int .i64 (hdG (V2 s) s 7 0 0 0).1) ∧ Below w.heap.size w w' := by
  generalize hO : (hdG (V2 s) s 7 0 0 0).1 = O
  have HO : Hid ((hdG (V2 s) s 7 0 0 0).1 = O) := hO
  clear hO
  go_enter Tryd.func14, Tryd.ntmps14
  go_wp2
  go_loopw [3, 4] (fun t u w' => ∃ (p l f : Nat) (x : Int), t = .int .i64 p ∧ u = .int .i64 l ∧ p ≤ s.size ∧ l ≤ 7 ∧ (hdG (V2 s) s f l p x).1 = O ∧ 7 ≤ l + f ∧ Below w.heap.size w w') (fun t _ _ => s.size - (RowKit.intOf t).toNat)
  case atStart => exact ⟨0, 0, 7, 0, rfl, rfl, by omega, by omega, HO.out, by omega, Below.refl _ _⟩
  case round =>
    obtain ⟨p, l, f, x, rfl, rfl, hp, hl, hv, hf, hbw⟩ := hrel
    have HV : Hid ((hdG (V2 s) s f l p x).1 = O) := hv
    clear hv HO
    by_cases hlt : p < s.size
    · have hli : (p : Int) < s.size := by omega
      obtain ⟨j, hj, pj, js, k1, k2⟩ := rround s p hs hp
      have hG := hdG_go (V2 s) s f l p x
      have hS := hdG_stop (V2 s) s f l p x
      rw [hj] at hG hS
      have hfit := uAt_fit s j
      generalize uAt s j = u at *
      by_cases stop : j = p ∨ 7 ≤ u ∨ u < l
      · have HE : Hid (O = p) := by show _ = _; rw [← HV.out, hS stop]
        clear hG hS hfit hj
        by_cases d0 : j = p
        · subst d0
          clear stop
          generalize uR u = A at *
          obtain ⟨A1, A2, A3⟩ := A
          go_wp2_with fail
          go_fit (k1 _)
          rintro e w3 ⟨rfl, rfl⟩
          go_wp2_with fail
          go_fit (k2 _)
          rintro e w4 ⟨rfl, rfl⟩
          clear k1 k2
          go_wp2
          go_ret
          exact ⟨by rw [HE.out]; rfl, by first | assumption | exact hbw.drew⟩
        · have d1 : ((j : Int) == p) = false := by simp; omega
          by_cases u7 : 7 ≤ u
          · rw [uR_7 u u7] at k2
            clear stop
            go_wp2_with fail
            go_fit (k1 _)
            rintro e w3 ⟨rfl, rfl⟩
            go_wp2_with fail
            go_fit (k2 _)
            rintro e w4 ⟨rfl, rfl⟩
            clear k1 k2
            go_wp2
            go_ret
            exact ⟨by rw [HE.out]; rfl, by first | assumption | exact hbw.drew⟩
          · rw [uR_lt u (by omega)] at k2
            have ul : (u : Int) + 1 ≤ l := by omega
            have hw := uw_pos u
            have w0 : ((uw u : Int) == 0) = false := by simp; omega
            generalize ulen u = L at *
            generalize uw u = W at *
            clear stop hw
            go_wp2_with fail
            go_fit (k1 _)
            rintro e w3 ⟨rfl, rfl⟩
            go_wp2_with fail
            go_fit (k2 _)
            rintro e w4 ⟨rfl, rfl⟩
            clear k1 k2
            go_wp2
            go_ret
            exact ⟨by rw [HE.out]; rfl, by first | assumption | exact hbw.drew⟩
      · have HG : Hid ((hdG (V2 s) s (f - 1) (u + 1) (j + uw u) (x + V2 s p j u)).1 = O) := by show _ = _; rw [← HV.out, hG stop (by omega)]
        have hfit' := hfit (by omega)
        rw [uR_lt u (by omega)] at k2
        have ul : ¬ (u : Int) + 1 ≤ l := by omega
        have hw := uw_pos u
        have w0 : ((uw u : Int) == 0) = false := by simp; omega
        have d1 : ((j : Int) == p) = false := by simp; omega
        have u6 : u ≤ 6 := by omega
        have jp : p < j := by omega
        generalize ulen u = L at *
        generalize uw u = W at *
        clear hG hS hfit hj stop
        go_wp2_with fail
        go_fit (k1 _)
        rintro e w3 ⟨rfl, rfl⟩
        go_wp2_with fail
        go_fit (k2 _)
        rintro e w4 ⟨rfl, rfl⟩
        clear k1 k2
        go_wp2
        exact ⟨⟨j + W, u + 1, f - 1, _, by go_num, by go_num, by omega, by omega, HG.out, by omega, by first | assumption | exact hbw.drew⟩, by simp [RowKit.intOf]; omega⟩
    · have hli : ¬ (p : Int) < s.size := by omega
      obtain rfl : p = s.size := by omega
      have HE : Hid (O = s.size) := by
        show _ = _
        have := rn_bd s s.size (Nat.le_refl _)
        rw [← HV.out, hdG_stop _ s f l s.size x (.inl (by omega))]
      go_wp2
      go_ret
      exact ⟨by rw [HE.out]; rfl, hbw⟩
end Go.Proofs.YtmfeckpcnofkhaaDoor
