/- The reference's parts of a float. -/
import Derived.Test.YtebjklppbkkinaaPu
namespace Go.Proofs.Ytebjklppbkkinaa
open Go.RowKit Ieee

theorem two_half : floatBits .mul .f64 4611686018427387904 4604544271217802189 = some 4609047870845172685 := by decide +kernel
/-- A number's word out of its parts. -/
theorem near_back (x m : Nat) (i : Int) (hx : x < 0x7ff0000000000000) (hr : Ieee.double.read x = .number false m i) (h0 : m ≠ 0) : Ieee.double.nearest false m i = x := by
  obtain ⟨hi, hm⟩ := read_place x false m i hr
  have hx2 : x % 2 ^ 63 = x := Nat.mod_eq_of_lt (by omega)
  have htop : i ≤ 971 := by
    obtain ⟨s', m', i', hr', hle⟩ := read_top x (by rw [hx2]; exact hx)
    rw [hr] at hr'
    cases hr'
    exact hle
  have hlog : m.log2 ≤ 52 := by
    have := (Nat.log2_lt h0).2 hm
    omega
  obtain ⟨k, hk, hr2, hlt⟩ := read_near false m i h0 hm hi (by omega)
  have e1 := read_uv x _ _ _ hr
  have e2 := read_uv _ _ _ _ hr2
  have hy : Ieee.double.nearest false m i % 2 ^ 63 = Ieee.double.nearest false m i := by
    rw [nearest_rung _ _ _ h0, word_pos] at hlt ⊢
    have hle : rung m i ≤ 0x7ff0000000000000 := by rw [rung_eq]; exact Nat.min_le_right _ _
    exact Nat.mod_eq_of_lt (by omega)
  rw [hy] at e2 hlt
  rw [hx2] at e1
  have e3 : m <<< k * 2 ^ (i - (k : Int) + 1074).toNat = m * 2 ^ (i + 1074).toNat := by
    rw [Nat.shiftLeft_eq, Nat.mul_assoc, ← Nat.pow_add]
    congr 2
    omega
  rw [e3, e1] at e2
  rcases Nat.lt_trichotomy (Ieee.double.nearest false m i) x with h | h | h
  · have := uv_strict _ _ h; omega
  · exact h
  · have := uv_strict _ _ h; omega
set_option maxHeartbeats 1000000 in
theorem rparts_any (x M : Nat) (P : Int) (hx : x < 0x7ff0000000000000) (h : Nm x M P) (w : World) : Calls Try.prog 55 #[.float .f64 x] w fun r w' => r = .returned (.tuple #[.float .f64 (Ieee.double.nearest false M (qs M)), .int .i64 (P - qs M)]) ∧ w' = w := by
  have kH := rhalf_any
  have h1 := h.1
  have h2 := h.2.1
  have hP1 := h.2.2.1
  have hP2 := h.2.2.2.1
  obtain ⟨m, i, hr, hm0, hm53, hi, hnear⟩ := h.near
  have hx0 : x = Ieee.double.nearest false M P := by
    have := hnear 0
    rw [Int.add_zero, Int.add_zero, near_back x m i hx hr hm0] at this
    exact this
  have hqb : qs M = -52 ∨ qs M = -53 := by unfold qs; split <;> simp
  have hHf : Hid (∀ Q, Q ≤ 971 → (Ieee.double.nearest false M Q < 4604544271217802189 ↔ Q < qs M) ∧ (Ieee.double.nearest false M Q < 4609047870845172685 ↔ Q < qs M + 1) ∧ Ieee.double.nearest false M Q < 0x7ff0000000000000) := fun Q hQ => half_cmp M Q h1 h2 hQ
  have hUp : Hid (∀ j : Int, 0 ≤ j → floatBits .mul .f64 (Ieee.double.nearest false M (P + j)) 4611686018427387904 = some (Ieee.double.nearest false M (P + (j + 1)))) := fun j hj => by
    rw [← hnear j, ← hnear (j + 1), ← p2_1]
    have := mul_near false m (i + j) 1 hm53 (by omega) (.inl (by decide)) (by decide) (by decide)
    rw [this]
    congr 2
    omega
  have hDn : Hid (∀ Q : Int, -1000 ≤ Q → Q ≤ 971 → floatBits .quo .f64 (Ieee.double.nearest false M Q) 4611686018427387904 = some (Ieee.double.nearest false M (Q - 1))) := fun Q hQ hQ2 => by
    obtain ⟨k, hk, hr2, _⟩ := read_near false M Q (by omega) h2 (by omega) (by rw [log2_52 M h1 h2]; omega)
    rw [quo_two _ _ _ _ hr2 (read_place _ _ _ _ hr2).2, nearest_shift]
    congr 2
    omega
  clear hnear hr h
  generalize hN : Ieee.double.nearest false M = N at *
  clear hN
  generalize hq : qs M = q at *
  clear hq
  have hM2 : ∀ t w, (binOp .mul t (.float .f64 4611686018427387904) (.float .f64 4604544271217802189)).run Try.prog w = .ok (.float .f64 4609047870845172685) w := fun t w => run_float_arith w .mul t .f64 _ _ _ two_half
  have HX : Hid (x = N P) := hx0
  clear hx0
  go_enter Try.func55, Try.ntmps55
  go_wp2
  go_loopw [0, 4] (fun zv ev w' => ∃ (j : Int), zv = .float .f64 (N (P + j)) ∧ ev = .int .i64 (-j) ∧ w' = w ∧ 0 ≤ j ∧ (j = 0 ∨ P + j ≤ q)) (fun _ ev _ => (q - P + RowKit.intOf ev).toNat)
  case atStart => exact ⟨0, by rw [Int.add_zero, ← HX.out], rfl, rfl, by omega, .inl rfl⟩
  case round =>
    obtain ⟨j, rfl, rfl, rfl, hj0, hj⟩ := hrel
    have hc := hHf.out (P + j) (by omega)
    have ho := pos_order (N (P + j)) 4604544271217802189 hc.2.2 (by decide)
    by_cases hlt : P + j < q
    · rw [Nat.compare_eq_lt.2 (hc.1.2 hlt)] at ho
      have hmm : ∀ t w, (binOp .mul t (.float .f64 (N (P + j))) (.float .f64 4611686018427387904)).run Try.prog w = .ok (.float .f64 (N (P + (j + 1)))) w := fun t w => run_float_arith w .mul t .f64 _ _ _ (hUp.out j hj0)
      clear hc
      generalize N (P + j) = Z at *
      go_wp2_with fail
      go_fit (kH _)
      rintro r w ⟨rfl, rfl⟩
      go_wp2
      refine ⟨⟨j + 1, rfl, by congr 1; omega, trivial, by omega, by omega⟩, by simp [RowKit.intOf]; omega⟩
    · have ho' : (FloatKind.f64.format.order (N (P + j)) 4604544271217802189 == some .lt) = false := by
        rw [ho]
        refine beq_eq_false_iff_ne.2 fun h => hlt ?_
        exact hc.1.1 (Nat.compare_eq_lt.1 (Option.some.inj h))
      clear ho
      have hjj : -1200 ≤ P + j ∧ P + j ≤ 971 ∧ q ≤ P + j := by omega
      clear hc
      obtain ⟨Z, hZ⟩ : ∃ Z, Z = N (P + j) := ⟨_, rfl⟩
      rw [← hZ] at ho'
      have HZ : Hid (Z = N (P + j)) := hZ
      rw [← hZ]
      clear hZ
      go_wp2_with fail
      go_fit (kH _)
      rintro r w ⟨rfl, rfl⟩
      go_wp2
      go_loopw [0, 4] (fun zv ev w' => ∃ (Q : Int), zv = .float .f64 (N Q) ∧ ev = .int .i64 (P - Q) ∧ w' = w ∧ q ≤ Q ∧ Q ≤ 971) (fun _ ev _ => (P - RowKit.intOf ev - q).toNat)
      case atStart => exact ⟨P + j, by rw [HZ.out], by congr 1; omega, rfl, by omega, by omega⟩
      case round =>
        obtain ⟨Q, rfl, rfl, rfl, hQ1, hQ2⟩ := hrel
        have hc := hHf.out Q (by omega)
        have ho := pos_order (N Q) 4609047870845172685 hc.2.2 (by decide)
        by_cases hge : Q = q
        · subst hge
          rw [Nat.compare_eq_lt.2 (hc.2.1.2 (by omega))] at ho
          clear hc
          obtain ⟨Y, hY⟩ : ∃ Y, N Q = Y := ⟨_, rfl⟩
          have HY : Hid (N Q = Y) := hY
          rw [hY] at ho ⊢
          clear hY
          go_wp2_with fail
          go_fit (kH _)
          rintro r w ⟨rfl, rfl⟩
          go_wp2
          go_ret2
          exact ⟨by rw [HY.out]; rfl, rfl⟩
        · have hnl : ¬ N Q < 4609047870845172685 := fun h => by have := hc.2.1.1 h; omega
          have hmm : ∀ t w, (binOp .quo t (.float .f64 (N Q)) (.float .f64 4611686018427387904)).run Try.prog w = .ok (.float .f64 (N (Q - 1))) w := fun t w => run_float_arith w .quo t .f64 _ _ _ (hDn.out Q (by omega) (by omega))
          have hoo : compare (N Q) 4609047870845172685 = .gt ∨ compare (N Q) 4609047870845172685 = .eq := by
            rcases Nat.lt_trichotomy (N Q) 4609047870845172685 with h | h | h
            · exact absurd h hnl
            · exact .inr (Nat.compare_eq_eq.2 h)
            · exact .inl (Nat.compare_eq_gt.2 h)
          clear hc hnl
          rcases hoo with hoo | hoo <;>
          · rw [hoo] at ho
            clear hoo
            generalize N Q = Z at *
            go_wp2_with fail
            go_fit (kH _)
            rintro r w ⟨rfl, rfl⟩
            go_wp2
            refine ⟨⟨Q - 1, rfl, by congr 1; omega, trivial, by omega, by omega⟩, by simp [RowKit.intOf]; omega⟩
end Go.Proofs.Ytebjklppbkkinaa
