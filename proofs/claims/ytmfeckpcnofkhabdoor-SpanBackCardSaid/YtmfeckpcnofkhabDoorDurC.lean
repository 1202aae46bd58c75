/- The walks of head, Prefix, duration, Parse. -/
import Derived.Test.YtmfeckpcnofkhabDoorDurH
namespace Go.Proofs.YtmfeckpcnofkhabDoor
open Go.RowKit

set_option maxHeartbeats 4000000 in
set_option maxRecDepth 100000 in
theorem head_any (s : ByteArray) (w : World) (hU : Units w) (hs : s.size ≤ 140737488355328) : Calls Tryd.prog 22 #[.string s] w fun e w' => e = .returned (.tuple #[.int .i64 (hdG (V1 s) s 7 0 0 0).1, .int .i64 (hdG (V1 s) s 7 0 0 0).2]) ∧ Below w.heap.size w w' := by
  generalize hO : hdG (V1 s) s 7 0 0 0 = O
  have HO : Hid (hdG (V1 s) s 7 0 0 0 = O) := hO
  clear hO
  have HU : Hid (Units w) := hU
  clear hU
  go_enter Tryd.func22, Tryd.ntmps22
  go_wp2
  go_loopw [4, 2, 3] (fun t u v w' => ∃ (l p : Nat) (x : Int) (f : Nat), t = .int .i64 l ∧ u = .int .i64 p ∧ v = .int .i64 x ∧ p ≤ s.size ∧ l ≤ 7 ∧ 0 ≤ x ∧ x ≤ l * 315391536000000 ∧ hdG (V1 s) s f l p x = O ∧ 7 ≤ l + f ∧ Below w.heap.size w w') (fun t _ _ _ => 7 - (RowKit.intOf t).toNat)
  case atStart => exact ⟨0, 0, 0, 7, rfl, rfl, rfl, by omega, by omega, by omega, by omega, HO.out, by omega, Below.refl _ _⟩
  case round =>
    obtain ⟨l, p, x, f, rfl, rfl, rfl, hp, hl, x0, x1, hv, hf, hbw⟩ := hrel
    have HV : Hid (hdG (V1 s) s f l p x = O) := hv
    clear hv HO
    have hpi : (p : Int) ≤ s.size := by omega
    by_cases l7 : l = 7
    · subst l7
      have HE : Hid (O = (p, x)) := by show _ = _; rw [← HV.out, hdG_stop _ s f 7 p x (by have := uAt_le s (rn s p); omega)]
      go_wp2
      go_ret2
      exact ⟨by rw [HE.out]; rfl, hbw⟩
    · have hl6 : (l : Int) ≤ 6 := by omega
      have hUr : Units wr := HU.out.belowS hbw
      obtain ⟨d, hd⟩ : ∃ d, rn s p = p + d := ⟨rn s p - p, by have := rn_bd s p hp; omega⟩
      have hbd := rn_bd s p hp
      rw [hd] at hbd
      have e1 : rn (s.extract p s.size) 0 = d := by have := rn_ext s p; omega
      have k1 : ∀ w, Calls Tryd.prog 41 #[.string (s.extract p s.size)] w fun e w' => e = .returned (.int .i64 d) ∧ w' = w := fun w => by
        have := digitsAt_any (s.extract p s.size) w (by simp; omega)
        rwa [e1] at this
      have k2 : ∀ w, Units w → Calls Tryd.prog 45 #[.string (s.extract (p + d) s.size)] w fun e w' => e = .returned (.tuple #[.int .i64 (uI (uAt s (p + d))), .bool (uB (uAt s (p + d)))]) ∧ w' = w := fun w hU => by
        have := unitAt_any (s.extract (p + d) s.size) w hU
        rwa [uAt_ext] at this
      have hdi : (p : Int) + d ≤ s.size := by omega
      have hG := hdG_go (V1 s) s f l p x
      have hS := hdG_stop (V1 s) s f l p x
      rw [hd] at hG hS
      have hfit := uAt_fit s (p + d)
      have hule := uAt_le s (p + d)
      have hs2 : (s.extract p (p + d)).size ≤ 140737488355328 := by simp; omega
      have hdg : ∀ i, i < (s.extract p (p + d)).size → isD (s.extract p (p + d)) i := by have := part_digits s p hp; rwa [hd] at this
      have HVB : Hid (∀ u, 0 ≤ V1 s p (p + d) u ∧ V1 s p (p + d) u ≤ 315391536000000) := fun u => by
        have h1 := pN_nn s p hp
        rw [hd] at h1
        have h2 := ulen_bd u
        have h3 := V_rel _ _ h1 h2.1 h2.2
        exact ⟨h3.1, h3.2.1⟩
      generalize uAt s (p + d) = u at *
      by_cases stop : p + d = p ∨ 7 ≤ u ∨ u < l
      · have HE : Hid (O = (p, x)) := by show _ = _; rw [← HV.out, hS stop]
        clear hG hS hfit hdg HVB hs2 hd e1
        by_cases d0 : d = 0
        · subst d0
          clear stop
          generalize uI u = A at *
          generalize uB u = B at *
          go_wp2_with fail
          go_fit (k1 _)
          rintro e w3 ⟨rfl, rfl⟩
          go_wp2_with fail
          go_fit (k2 _ hUr)
          rintro e w4 ⟨rfl, rfl⟩
          clear k1 k2
          go_wp2
          go_ret2
          exact ⟨by rw [HE.out]; rfl, by first | assumption | exact hbw.drew⟩
        · have d1 : ¬ (d : Int) = 0 := by omega
          by_cases u7 : 7 ≤ u
          · have hB : uB u = false := by unfold uB; simp; omega
            rw [hB] at k2
            clear stop
            generalize uI u = A at *
            go_wp2_with fail
            go_fit (k1 _)
            rintro e w3 ⟨rfl, rfl⟩
            go_wp2_with fail
            go_fit (k2 _ hUr)
            rintro e w4 ⟨rfl, rfl⟩
            clear k1 k2
            go_wp2
            go_ret2
            exact ⟨by rw [HE.out]; rfl, by first | assumption | exact hbw.drew⟩
          · have hB : uB u = true := by unfold uB; simp; omega
            have hA : uI u = u := by unfold uI; rw [if_pos (by omega)]
            rw [hB, hA] at k2
            have ul : (u : Int) < l := by omega
            clear stop
            go_wp2_with fail
            go_fit (k1 _)
            rintro e w3 ⟨rfl, rfl⟩
            go_wp2_with fail
            go_fit (k2 _ hUr)
            rintro e w4 ⟨rfl, rfl⟩
            clear k1 k2
            go_wp2
            go_ret2
            exact ⟨by rw [HE.out]; rfl, by first | assumption | exact hbw.drew⟩
      · have HG : Hid (hdG (V1 s) s (f - 1) (u + 1) (p + d + uw u) (x + V1 s p (p + d) u) = O) := by show _ = _; rw [← HV.out, hG stop (by omega)]
        have hfit' := hfit (by omega)
        have hB : uB u = true := by unfold uB; simp; omega
        have hA : uI u = u := by unfold uI; rw [if_pos (by omega)]
        rw [hB, hA] at k2
        have d1 : ((d : Int) == 0) = false := by simp; omega
        have hlu : l ≤ u := by omega
        have hu : u = 0 ∨ u = 1 ∨ u = 2 ∨ u = 3 ∨ u = 4 ∨ u = 5 ∨ u = 6 := by omega
        clear hG hS hfit hd e1 stop hB hA hule
        rcases hu with rfl | rfl | rfl | rfl | rfl | rfl | rfl
        · have ul : ¬ (0 : Int) < l := by omega
          have c : wr.cell? ⟨0, 0, none⟩ = some (.string (uname 0)) := (hUr.2 0 (by omega)).1
          have hf2 : p + d + 1 ≤ s.size := hfit'
          have hm : (uname 0).size = 1 := rfl
          have k3 : ∀ w, Units w → Calls Tryd.prog 44 #[.string (s.extract p (p + d)), .int .i64 0] w fun e w' => e = .returned (.int .i64 (V1 s p (p + d) 0)) ∧ w' = w := fun w hU => length_any _ 0 w hU hs2 hdg (by omega)
          have HE : Hid (hdG (V1 s) s (f - 1) 1 (p + d + 1) (x + V1 s p (p + d) 0) = O) := HG.out
          have v0 : 0 ≤ V1 s p (p + d) 0 := (HVB.out 0).1
          have v1 : V1 s p (p + d) 0 ≤ 315391536000000 := (HVB.out 0).2
          generalize V1 s p (p + d) 0 = v at *
          clear HG hdg
          go_wp2_with fail
          go_fit (k1 _)
          rintro e w3 ⟨rfl, rfl⟩
          go_wp2_with fail
          go_fit (k2 _ hUr)
          rintro e w4 ⟨rfl, rfl⟩
          go_wp2_with fail
          go_fit (k3 _ hUr)
          rintro e w5 ⟨rfl, rfl⟩
          clear k1 k2 k3
          go_wp2
          exact ⟨⟨1, p + d + 1, x + v, f - 1, by go_num, by go_num, rfl, by omega, by omega, by omega, by omega, HE.out, by omega, by first | assumption | exact hbw.drew⟩, by simp [RowKit.intOf]; omega⟩
        · have ul : ¬ (1 : Int) < l := by omega
          have c : wr.cell? ⟨0, 2, none⟩ = some (.string (uname 1)) := (hUr.2 1 (by omega)).1
          have hf2 : p + d + 1 ≤ s.size := hfit'
          have hm : (uname 1).size = 1 := rfl
          have k3 : ∀ w, Units w → Calls Tryd.prog 44 #[.string (s.extract p (p + d)), .int .i64 1] w fun e w' => e = .returned (.int .i64 (V1 s p (p + d) 1)) ∧ w' = w := fun w hU => length_any _ 1 w hU hs2 hdg (by omega)
          have HE : Hid (hdG (V1 s) s (f - 1) 2 (p + d + 1) (x + V1 s p (p + d) 1) = O) := HG.out
          have v0 : 0 ≤ V1 s p (p + d) 1 := (HVB.out 1).1
          have v1 : V1 s p (p + d) 1 ≤ 315391536000000 := (HVB.out 1).2
          generalize V1 s p (p + d) 1 = v at *
          clear HG hdg
          go_wp2_with fail
          go_fit (k1 _)
          rintro e w3 ⟨rfl, rfl⟩
          go_wp2_with fail
          go_fit (k2 _ hUr)
          rintro e w4 ⟨rfl, rfl⟩
          go_wp2_with fail
          go_fit (k3 _ hUr)
          rintro e w5 ⟨rfl, rfl⟩
          clear k1 k2 k3
          go_wp2
          exact ⟨⟨2, p + d + 1, x + v, f - 1, by go_num, by go_num, rfl, by omega, by omega, by omega, by omega, HE.out, by omega, by first | assumption | exact hbw.drew⟩, by simp [RowKit.intOf]; omega⟩
        · have ul : ¬ (2 : Int) < l := by omega
          have c : wr.cell? ⟨0, 4, none⟩ = some (.string (uname 2)) := (hUr.2 2 (by omega)).1
          have hf2 : p + d + 1 ≤ s.size := hfit'
          have hm : (uname 2).size = 1 := rfl
          have k3 : ∀ w, Units w → Calls Tryd.prog 44 #[.string (s.extract p (p + d)), .int .i64 2] w fun e w' => e = .returned (.int .i64 (V1 s p (p + d) 2)) ∧ w' = w := fun w hU => length_any _ 2 w hU hs2 hdg (by omega)
          have HE : Hid (hdG (V1 s) s (f - 1) 3 (p + d + 1) (x + V1 s p (p + d) 2) = O) := HG.out
          have v0 : 0 ≤ V1 s p (p + d) 2 := (HVB.out 2).1
          have v1 : V1 s p (p + d) 2 ≤ 315391536000000 := (HVB.out 2).2
          generalize V1 s p (p + d) 2 = v at *
          clear HG hdg
          go_wp2_with fail
          go_fit (k1 _)
          rintro e w3 ⟨rfl, rfl⟩
          go_wp2_with fail
          go_fit (k2 _ hUr)
          rintro e w4 ⟨rfl, rfl⟩
          go_wp2_with fail
          go_fit (k3 _ hUr)
          rintro e w5 ⟨rfl, rfl⟩
          clear k1 k2 k3
          go_wp2
          exact ⟨⟨3, p + d + 1, x + v, f - 1, by go_num, by go_num, rfl, by omega, by omega, by omega, by omega, HE.out, by omega, by first | assumption | exact hbw.drew⟩, by simp [RowKit.intOf]; omega⟩
        · have ul : ¬ (3 : Int) < l := by omega
          have c : wr.cell? ⟨0, 6, none⟩ = some (.string (uname 3)) := (hUr.2 3 (by omega)).1
          have hf2 : p + d + 1 ≤ s.size := hfit'
          have hm : (uname 3).size = 1 := rfl
          have k3 : ∀ w, Units w → Calls Tryd.prog 44 #[.string (s.extract p (p + d)), .int .i64 3] w fun e w' => e = .returned (.int .i64 (V1 s p (p + d) 3)) ∧ w' = w := fun w hU => length_any _ 3 w hU hs2 hdg (by omega)
          have HE : Hid (hdG (V1 s) s (f - 1) 4 (p + d + 1) (x + V1 s p (p + d) 3) = O) := HG.out
          have v0 : 0 ≤ V1 s p (p + d) 3 := (HVB.out 3).1
          have v1 : V1 s p (p + d) 3 ≤ 315391536000000 := (HVB.out 3).2
          generalize V1 s p (p + d) 3 = v at *
          clear HG hdg
          go_wp2_with fail
          go_fit (k1 _)
          rintro e w3 ⟨rfl, rfl⟩
          go_wp2_with fail
          go_fit (k2 _ hUr)
          rintro e w4 ⟨rfl, rfl⟩
          go_wp2_with fail
          go_fit (k3 _ hUr)
          rintro e w5 ⟨rfl, rfl⟩
          clear k1 k2 k3
          go_wp2
          exact ⟨⟨4, p + d + 1, x + v, f - 1, by go_num, by go_num, rfl, by omega, by omega, by omega, by omega, HE.out, by omega, by first | assumption | exact hbw.drew⟩, by simp [RowKit.intOf]; omega⟩
        · have ul : ¬ (4 : Int) < l := by omega
          have c : wr.cell? ⟨0, 8, none⟩ = some (.string (uname 4)) := (hUr.2 4 (by omega)).1
          have hf2 : p + d + 1 ≤ s.size := hfit'
          have hm : (uname 4).size = 1 := rfl
          have k3 : ∀ w, Units w → Calls Tryd.prog 44 #[.string (s.extract p (p + d)), .int .i64 4] w fun e w' => e = .returned (.int .i64 (V1 s p (p + d) 4)) ∧ w' = w := fun w hU => length_any _ 4 w hU hs2 hdg (by omega)
          have HE : Hid (hdG (V1 s) s (f - 1) 5 (p + d + 1) (x + V1 s p (p + d) 4) = O) := HG.out
          have v0 : 0 ≤ V1 s p (p + d) 4 := (HVB.out 4).1
          have v1 : V1 s p (p + d) 4 ≤ 315391536000000 := (HVB.out 4).2
          generalize V1 s p (p + d) 4 = v at *
          clear HG hdg
          go_wp2_with fail
          go_fit (k1 _)
          rintro e w3 ⟨rfl, rfl⟩
          go_wp2_with fail
          go_fit (k2 _ hUr)
          rintro e w4 ⟨rfl, rfl⟩
          go_wp2_with fail
          go_fit (k3 _ hUr)
          rintro e w5 ⟨rfl, rfl⟩
          clear k1 k2 k3
          go_wp2
          exact ⟨⟨5, p + d + 1, x + v, f - 1, by go_num, by go_num, rfl, by omega, by omega, by omega, by omega, HE.out, by omega, by first | assumption | exact hbw.drew⟩, by simp [RowKit.intOf]; omega⟩
        · have ul : ¬ (5 : Int) < l := by omega
          have c : wr.cell? ⟨0, 10, none⟩ = some (.string (uname 5)) := (hUr.2 5 (by omega)).1
          have hf2 : p + d + 1 ≤ s.size := hfit'
          have hm : (uname 5).size = 1 := rfl
          have k3 : ∀ w, Units w → Calls Tryd.prog 44 #[.string (s.extract p (p + d)), .int .i64 5] w fun e w' => e = .returned (.int .i64 (V1 s p (p + d) 5)) ∧ w' = w := fun w hU => length_any _ 5 w hU hs2 hdg (by omega)
          have HE : Hid (hdG (V1 s) s (f - 1) 6 (p + d + 1) (x + V1 s p (p + d) 5) = O) := HG.out
          have v0 : 0 ≤ V1 s p (p + d) 5 := (HVB.out 5).1
          have v1 : V1 s p (p + d) 5 ≤ 315391536000000 := (HVB.out 5).2
          generalize V1 s p (p + d) 5 = v at *
          clear HG hdg
          go_wp2_with fail
          go_fit (k1 _)
          rintro e w3 ⟨rfl, rfl⟩
          go_wp2_with fail
          go_fit (k2 _ hUr)
          rintro e w4 ⟨rfl, rfl⟩
          go_wp2_with fail
          go_fit (k3 _ hUr)
          rintro e w5 ⟨rfl, rfl⟩
          clear k1 k2 k3
          go_wp2
          exact ⟨⟨6, p + d + 1, x + v, f - 1, by go_num, by go_num, rfl, by omega, by omega, by omega, by omega, HE.out, by omega, by first | assumption | exact hbw.drew⟩, by simp [RowKit.intOf]; omega⟩
        · have ul : ¬ (6 : Int) < l := by omega
          have c : wr.cell? ⟨0, 12, none⟩ = some (.string (uname 6)) := (hUr.2 6 (by omega)).1
          have hf2 : p + d + 2 ≤ s.size := hfit'
          have hm : (uname 6).size = 2 := rfl
          have k3 : ∀ w, Units w → Calls Tryd.prog 44 #[.string (s.extract p (p + d)), .int .i64 6] w fun e w' => e = .returned (.int .i64 (V1 s p (p + d) 6)) ∧ w' = w := fun w hU => length_any _ 6 w hU hs2 hdg (by omega)
          have HE : Hid (hdG (V1 s) s (f - 1) 7 (p + d + 2) (x + V1 s p (p + d) 6) = O) := HG.out
          have v0 : 0 ≤ V1 s p (p + d) 6 := (HVB.out 6).1
          have v1 : V1 s p (p + d) 6 ≤ 315391536000000 := (HVB.out 6).2
          generalize V1 s p (p + d) 6 = v at *
          clear HG hdg
          go_wp2_with fail
          go_fit (k1 _)
          rintro e w3 ⟨rfl, rfl⟩
          go_wp2_with fail
          go_fit (k2 _ hUr)
          rintro e w4 ⟨rfl, rfl⟩
          go_wp2_with fail
          go_fit (k3 _ hUr)
          rintro e w5 ⟨rfl, rfl⟩
          clear k1 k2 k3
          go_wp2
          exact ⟨⟨7, p + d + 2, x + v, f - 1, by go_num, by go_num, rfl, by omega, by omega, by omega, by omega, HE.out, by omega, by first | assumption | exact hbw.drew⟩, by simp [RowKit.intOf]; omega⟩

set_option maxHeartbeats 1000000 in
theorem prefixS_any (s : ByteArray) (w : World) (hU : Units w) (hs : s.size ≤ 140737488355328) : Calls Tryd.prog 9 #[.string s] w fun e w' => e = .returned (.int .i64 (hdG (V1 s) s 7 0 0 0).1) ∧ Below w.heap.size w w' := by
  have k := head_any s w hU hs
  generalize hdG (V1 s) s 7 0 0 0 = O at *
  clear hU
  go_enter Tryd.func9, Tryd.ntmps9
  go_wp2_with fail
  go_fit k
  rintro e w1 ⟨rfl, h1⟩
  clear k
  go_wp2
  go_ret
  exact ⟨rfl, h1⟩

/-- What Parse answers, out of the head's length and sum. -/
def paR (n : Nat) (H : Nat × Int) : Int × Int := if 64 < n then (0, 1) else if ¬ (0 < H.1 ∧ H.1 = n) then (0, 30) else if 315360000000000 < H.2 then (0, 31) else (H.2, 0)
set_option maxHeartbeats 1000000 in
theorem duration_any (s : ByteArray) (w : World) (hU : Units w) (hs : s.size ≤ 140737488355328) : Calls Tryd.prog 19 #[.string s] w fun e w' => e = .returned (.tuple #[.int .i64 (hdG (V1 s) s 7 0 0 0).2, .bool (decide (0 < (hdG (V1 s) s 7 0 0 0).1 ∧ (hdG (V1 s) s 7 0 0 0).1 = s.size))]) ∧ Below w.heap.size w w' := by
  have k := head_any s w hU hs
  generalize hdG (V1 s) s 7 0 0 0 = O at *
  clear hU
  obtain ⟨p, x⟩ := O
  by_cases a : 0 < p
  · have ai : (0 : Int) < p := by omega
    by_cases b : p = s.size
    · have eb : ((p : Int) == s.size) = true := by simp; omega
      rw [decide_eq_true (show 0 < (p, x).1 ∧ (p, x).1 = s.size from ⟨a, b⟩)]
      clear b
      go_enter Tryd.func19, Tryd.ntmps19
      go_wp2_with fail
      go_fit k
      rintro e w1 ⟨rfl, h1⟩
      clear k
      go_wp2
      go_ret2
      exact ⟨by first | rfl | simp [eb], h1⟩
    · have eb : ((p : Int) == s.size) = false := by simp; omega
      rw [decide_eq_false (show ¬ (0 < (p, x).1 ∧ (p, x).1 = s.size) from fun h => b h.2)]
      go_enter Tryd.func19, Tryd.ntmps19
      go_wp2_with fail
      go_fit k
      rintro e w1 ⟨rfl, h1⟩
      clear k
      go_wp2
      go_ret2
      exact ⟨by first | rfl | simp [eb], h1⟩
  · have ai : ¬ (0 : Int) < p := by omega
    rw [decide_eq_false (show ¬ (0 < (p, x).1 ∧ (p, x).1 = s.size) from fun h => a h.1)]
    go_enter Tryd.func19, Tryd.ntmps19
    go_wp2_with fail
    go_fit k
    rintro e w1 ⟨rfl, h1⟩
    clear k
    go_wp2
    go_ret2
    exact ⟨by first | rfl | simp, h1⟩
set_option maxHeartbeats 1000000 in
theorem parse_any (s : ByteArray) (w : World) (hU : Units w) (hs : s.size ≤ 140737488355328) : Calls Tryd.prog 6 #[.string s] w fun e w' => e = .returned (.tuple #[.int .i64 (paR s.size (hdG (V1 s) s 7 0 0 0)).1, .int .i64 (paR s.size (hdG (V1 s) s 7 0 0 0)).2]) ∧ Below w.heap.size w w' := by
  have k := duration_any s w hU hs
  generalize hdG (V1 s) s 7 0 0 0 = O at *
  clear hU
  obtain ⟨p, x⟩ := O
  by_cases l : 64 < s.size
  · have li : (64 : Int) < s.size := by omega
    rw [show paR s.size (p, x) = (0, 1) by unfold paR; rw [if_pos l]]
    clear k
    go_enter Tryd.func6, Tryd.ntmps6
    go_wp2
    go_ret2
    exact ⟨rfl, Below.refl _ _⟩
  · have li : ¬ (64 : Int) < s.size := by omega
    by_cases a : 0 < p ∧ p = s.size
    · rw [decide_eq_true (show 0 < (p, x).1 ∧ (p, x).1 = s.size from a)] at k
      by_cases b : 315360000000000 < x
      · rw [show paR s.size (p, x) = (0, 31) by unfold paR; rw [if_neg l, if_neg (by simpa using a), if_pos b]]
        clear a
        go_enter Tryd.func6, Tryd.ntmps6
        go_wp2_with fail
        go_fit k
        rintro e w1 ⟨rfl, h1⟩
        clear k
        go_wp2
        go_ret2
        exact ⟨rfl, h1⟩
      · rw [show paR s.size (p, x) = (x, 0) by unfold paR; rw [if_neg l, if_neg (by simpa using a), if_neg b]]
        clear a
        go_enter Tryd.func6, Tryd.ntmps6
        go_wp2_with fail
        go_fit k
        rintro e w1 ⟨rfl, h1⟩
        clear k
        go_wp2
        go_ret2
        exact ⟨rfl, h1⟩
    · rw [decide_eq_false (show ¬ (0 < (p, x).1 ∧ (p, x).1 = s.size) from a)] at k
      rw [show paR s.size (p, x) = (0, 30) by unfold paR; rw [if_neg l, if_pos (by simpa using a)]]
      clear a
      go_enter Tryd.func6, Tryd.ntmps6
      go_wp2_with fail
      go_fit k
      rintro e w1 ⟨rfl, h1⟩
      clear k
      go_wp2
      go_ret2
      exact ⟨rfl, h1⟩
end Go.Proofs.YtmfeckpcnofkhabDoor
