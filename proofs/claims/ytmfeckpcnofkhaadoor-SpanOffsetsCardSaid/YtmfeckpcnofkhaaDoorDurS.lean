/- The walk of the reference's Parse. -/
import Derived.Test.YtmfeckpcnofkhaaDoorDurR
namespace Go.Proofs.YtmfeckpcnofkhaaDoor
open Go.RowKit

theorem empty_of (s : ByteArray) (h : s.size = 0) : s = ⟨#[]⟩ := ba_ext h (fun i hi => by omega)
theorem nonempty_ne (s : ByteArray) (h : 0 < s.size) : ¬ s.toList = [] := by
  intro hx
  have he : s = ⟨#[]⟩ := Go.WideShapes.bytes_inj (by rw [← ByteArray.toList_eq]; exact hx)
  rw [he] at h
  exact absurd h (by decide)

theorem V2_bd (n L : Int) (h0 : 0 ≤ n) (hL1 : 1 ≤ L) : 0 ≤ (if n ≤ 315360000000000 / L then n * L else 315360000000001) ∧ (if n ≤ 315360000000000 / L then n * L else 315360000000001) ≤ 315360000000001 := by
  have e1 := Int.ediv_mul_le 315360000000000 (show L ≠ 0 by omega)
  split
  · rename_i c
    have h1 : 0 ≤ n * L := Int.mul_nonneg h0 (by omega)
    have h2 : n * L ≤ 315360000000000 / L * L := Int.mul_le_mul_of_nonneg_right c (by omega)
    exact ⟨h1, by omega⟩
  · omega

set_option maxHeartbeats 2000000 in
set_option maxRecDepth 100000 in
theorem rparse_long (s : ByteArray) (w : World) (l : 64 < s.size) : Calls Tryd.prog 13 #[.string s] w fun e w' => e = .returned (.tuple #[.int .i64 0, .int .i64 1]) ∧ Below w.heap.size w w' := by
  have li : (64 : Int) < s.size := by omega
  go_enter Tryd.func13, Tryd.ntmps13
  go_wp2
  go_ret2
  exact ⟨rfl, Below.refl _ _⟩
set_option maxHeartbeats 2000000 in
set_option maxRecDepth 100000 in
theorem rparse_empty (w : World) : Calls Tryd.prog 13 #[.string ⟨#[]⟩] w fun e w' => e = .returned (.tuple #[.int .i64 0, .int .i64 30]) ∧ Below w.heap.size w w' := by
  go_enter Tryd.func13, Tryd.ntmps13
  go_wp2
  go_ret2
  exact ⟨rfl, Below.refl _ _⟩
set_option maxHeartbeats 2000000 in
set_option maxRecDepth 100000 in
theorem rparse_no (s : ByteArray) (w : World) (l : ¬ 64 < s.size) (h0 : 0 < s.size) (h : ¬ (hdG (V2 s) s 7 0 0 0).1 = s.size) : Calls Tryd.prog 13 #[.string s] w fun e w' => e = .returned (.tuple #[.int .i64 0, .int .i64 30]) ∧ Below w.heap.size w w' := by
  have li : ¬ (64 : Int) < s.size := by omega
  have k := fun w => rprefix_any s w (by omega)
  have hne := nonempty_ne s h0
  have hne2 : s.toList.isEmpty = false := by simpa using hne
  generalize (hdG (V2 s) s 7 0 0 0).1 = P at *
  have hb : ((P : Int) != s.size) = true := by simp; omega
  clear h
  go_enter Tryd.func13, Tryd.ntmps13
  go_wp2_with fail
  go_fit (k _)
  rintro e w1 ⟨rfl, h1⟩
  clear k
  go_wp2
  go_ret2
  exact ⟨rfl, h1⟩
set_option maxHeartbeats 2000000 in
set_option maxRecDepth 100000 in
theorem rparse_ok (s : ByteArray) (w : World) (l : ¬ 64 < s.size) (h0 : 0 < s.size) (h : (hdG (V2 s) s 7 0 0 0).1 = s.size) : Calls Tryd.prog 13 #[.string s] w fun e w' => e = .returned (.tuple #[.int .i64 (paR s.size (hdG (V2 s) s 7 0 0 0)).1, .int .i64 (paR s.size (hdG (V2 s) s 7 0 0 0)).2]) ∧ Below w.heap.size w w' := by
  have li : ¬ (64 : Int) < s.size := by omega
  have k := fun w => rprefix_any s w (by omega)
  have hne := nonempty_ne s h0
  have hne2 : s.toList.isEmpty = false := by simpa using hne
  rw [h] at k
  generalize hO : hdG (V2 s) s 7 0 0 0 = O at *
  have HO : Hid (hdG (V2 s) s 7 0 0 0 = O) := hO
  clear hO
  generalize hR : paR s.size O = R
  have HR : Hid (paR s.size O = R) := hR
  clear hR
  go_enter Tryd.func13, Tryd.ntmps13
  go_wp2_with fail
  go_fit (k _)
  rintro e w1 ⟨rfl, h1⟩
  clear k
  go_wp2_with fail
  go_loopw [5, 4] (fun t u w' => ∃ (p l f : Nat) (y : Int), t = .int .i64 p ∧ u = .int .i64 y ∧ p ≤ s.size ∧ l ≤ 7 ∧ 0 ≤ y ∧ y ≤ l * 315360000000001 ∧ hdG (V2 s) s f l p y = O ∧ 7 ≤ l + f ∧ Below w.heap.size w w') (fun t _ _ => s.size - (RowKit.intOf t).toNat)
  case atStart => exact ⟨0, 0, 7, 0, rfl, rfl, by omega, by omega, by omega, by omega, HO.out, by omega, h1⟩
  case round =>
    obtain ⟨p, l', f, y, rfl, rfl, hp, hl, y0, y1, hv, hf, hbw⟩ := hrel
    have HV : Hid (hdG (V2 s) s f l' p y = O) := hv
    clear hv HO h1
    by_cases hlt : p < s.size
    · have hli : (p : Int) < s.size := by omega
      obtain ⟨j, hj, pj, js, k1, k2⟩ := rround s p (by omega) hp
      have hG := hdG_go (V2 s) s f l' p y
      have hS := hdG_stop (V2 s) s f l' p y
      rw [hj] at hG hS
      have hfit := uAt_fit s j
      have hdg : ∀ i, i < (s.extract p j).size → isD (s.extract p j) i := by have := part_digits s p hp; rwa [hj] at this
      have hpn := pN_nn s p hp
      rw [hj] at hpn
      have hs2 : (s.extract p j).size ≤ 140737488355328 := by simp; omega
      generalize uAt s j = u at *
      have stop : ¬ (j = p ∨ 7 ≤ u ∨ u < l') := fun c => by
        have e := HV.out
        rw [hS c] at e
        rw [← e] at h
        simp at h
        omega
      have HG : Hid (hdG (V2 s) s (f - 1) (u + 1) (j + uw u) (y + V2 s p j u) = O) := by show _ = _; rw [← HV.out, hG stop (by omega)]
      have hfit' := hfit (by omega)
      rw [uR_lt u (by omega)] at k2
      have hw := uw_pos u
      have hub := ulen_bd u
      have k3 : ∀ w, Calls Tryd.prog 34 #[.string (s.extract p j), .int .i64 (ulen u)] w fun e w' => e = .returned (.int .i64 (V2 s p j u)) ∧ w' = w := fun w => rmany_any _ (ulen u) w hs2 hdg hub.1 hub.2
      have hvb : 0 ≤ V2 s p j u ∧ V2 s p j u ≤ 315360000000001 := V2_bd _ _ hpn hub.1
      have v0 := hvb.1
      have v1 := hvb.2
      have u6 : u ≤ 6 := by omega
      have hlu : l' ≤ u := by omega
      have jp : p < j := by omega
      have jsi : (j : Int) ≤ s.size := by omega
      have pji : (p : Int) ≤ j := by omega
      generalize V2 s p j u = v at *
      generalize ulen u = L at *
      generalize uw u = W at *
      clear hG hS hfit hj stop hdg hpn hvb hub
      go_wp2_with fail
      go_fit (k1 _)
      rintro e w3 ⟨rfl, rfl⟩
      go_wp2_with fail
      go_fit (k2 _)
      rintro e w4 ⟨rfl, rfl⟩
      go_wp2_with fail
      go_fit (k3 _)
      rintro e w5 ⟨rfl, rfl⟩
      clear k1 k2 k3
      go_wp2
      exact ⟨⟨j + W, u + 1, f - 1, y + v, by go_num, by rfl, by omega, by omega, by omega, by omega, HG.out, by omega, by first | assumption | exact hbw.drew⟩, by simp [RowKit.intOf]; omega⟩
    · have hli : ¬ (p : Int) < s.size := by omega
      obtain rfl : p = s.size := by omega
      have HE : Hid (O = (s.size, y)) := by
        show _ = _
        have := rn_bd s s.size (Nat.le_refl _)
        rw [← HV.out, hdG_stop _ s f l' s.size y (.inl (by omega))]
      by_cases b : 315360000000000 < y
      · have HF : Hid (R = (0, 31)) := by show _ = _; rw [← HR.out, HE.out]; unfold paR; rw [if_neg l, if_neg (not_not_intro ⟨h0, rfl⟩), if_pos b]
        go_wp2
        go_ret2
        exact ⟨by rw [HF.out]; rfl, hbw⟩
      · have HF : Hid (R = (y, 0)) := by show _ = _; rw [← HR.out, HE.out]; unfold paR; rw [if_neg l, if_neg (not_not_intro ⟨h0, rfl⟩), if_neg b]
        go_wp2
        go_ret2
        exact ⟨by rw [HF.out]; rfl, hbw⟩
theorem rparse_any (s : ByteArray) (w : World) : Calls Tryd.prog 13 #[.string s] w fun e w' => e = .returned (.tuple #[.int .i64 (paR s.size (hdG (V2 s) s 7 0 0 0)).1, .int .i64 (paR s.size (hdG (V2 s) s 7 0 0 0)).2]) ∧ Below w.heap.size w w' := by
  by_cases l : 64 < s.size
  · rw [show paR s.size (hdG (V2 s) s 7 0 0 0) = (0, 1) by unfold paR; rw [if_pos l]]
    exact rparse_long s w l
  · by_cases h0 : 0 < s.size
    · by_cases h : (hdG (V2 s) s 7 0 0 0).1 = s.size
      · exact rparse_ok s w l h0 h
      · rw [show paR s.size (hdG (V2 s) s 7 0 0 0) = (0, 30) by unfold paR; rw [if_neg l, if_pos (fun x => h x.2)]]
        exact rparse_no s w l h0 h
    · have hb := hdG_bd (V2 s) s 7 0 0 0 (by omega)
      rw [show paR s.size (hdG (V2 s) s 7 0 0 0) = (0, 30) by unfold paR; rw [if_neg l, if_pos (by omega)]]
      have e := empty_of s (by omega)
      rw [e]
      exact rparse_empty w
end Go.Proofs.YtmfeckpcnofkhaaDoor
