/- A bundle of texts. -/
import Derived.Test.YtmjenemjbpimcabGreatBc13
/- The reference's greatest and least, changes and resets. -/
namespace Go.Proofs.YtmjenemjbpimcabGreat
open Go.RowKit

theorem fm_cell {W : World} {a : Option Addr} {xs : List Nat} (h : Fm W a xs) (hn : xs.length ≠ 0) : ∃ g o, a = some ⟨g, o, none⟩ ∧ g < W.heap.size ∧ ∀ j, j < xs.length → W.cell? ⟨g, o + j, none⟩ = some (.float .f64 (xs.getD j 0)) := by
  rcases h with rfl | ⟨g, o, rfl, hg, hat⟩
  · exact absurd rfl hn
  · exact ⟨g, o, rfl, hg, hat⟩
theorem outI_congr (up : Bool) (V V2 : Nat → Nat) : ∀ i, (∀ j, j ≤ i → V j = V2 j) → outI up V i = outI up V2 i
  | 0, h => by unfold outI; rw [h 0 (Nat.le_refl _)]
  | i + 1, h => by
    have ih := outI_congr up V V2 i (fun j hj => h j (by omega))
    unfold outI
    rw [ih, h (i + 1) (Nat.le_refl _)]
theorem ctI_congr (B : Option Nat → Option Nat → Bool) (V V2 : Nat → Nat) : ∀ i, (∀ j, j ≤ i → V j = V2 j) → ctI B V i = ctI B V2 i
  | 0, _ => rfl
  | i + 1, h => by
    have ih := ctI_congr B V V2 i (fun j hj => h j (by omega))
    unfold ctI
    rw [ih, h (i + 1) (Nat.le_refl _), h i (by omega)]
theorem ne_self (x : Nat) : (FloatKind.f64.format.order x x != some .eq) = (cl x).isNone := by
  rw [fo_self, ← nan_cl]
  cases nanB x <;> rfl

set_option maxHeartbeats 8000000 in
set_option maxRecDepth 100000 in
theorem routerT (a : Option Addr) (c : Nat) (xs : List Nat) (w : World) (hf : Fm w a xs) (hw : Wd xs) (hn : xs.length ≠ 0) (hl : xs.length ≤ 9223372036854775807) :
    Calls Tryz.prog 39 #[.slice a xs.length c, .bool false] w (RF w (outI true (fun j => xs.getD j 0) (xs.length - 1))) := by
  obtain ⟨g, o, rfl, hg, hat⟩ := fm_cell hf hn
  have HAT : Hid (∀ j, j < xs.length → w.cell? ⟨g, o + j, none⟩ = some (.float .f64 (xs.getD j 0)) ∧ xs.getD j 0 < 18446744073709551616) := (show ∀ j, _ → _ from fun j hj => ⟨hat j hj, hw j hj⟩)
  have HO0 : Hid (cl (xs.getD 0 0) = outI true (fun j => xs.getD j 0) 0) := rfl
  have HO1 : Hid (∀ i, outI true (fun j => xs.getD j 0) (i + 1) = if outB true (cl (xs.getD (i + 1) 0)) (outI true (fun j => xs.getD j 0) i) = true then cl (xs.getD (i + 1) 0) else outI true (fun j => xs.getD j 0) i) := fun i => rfl
  have q0 := (HAT.out 0 (by omega)).1
  have l0 := (HAT.out 0 (by omega)).2
  rw [Nat.add_zero] at q0
  obtain ⟨m, hm⟩ : ∃ m, xs.length = m + 1 := ⟨xs.length - 1, by omega⟩
  rw [hm] at HAT hl ⊢
  rw [Nat.add_sub_cancel]
  generalize outI true (fun j => xs.getD j 0) = R at *
  obtain ⟨x0, hx0⟩ : ∃ x, x = xs.getD 0 0 := ⟨_, rfl⟩
  rw [← hx0] at q0 l0 HO0
  clear hf hw hn hg hat hm hx0
  go_enter Tryz.func39, Tryz.ntmps39
  go_wp2_with fail
  go_loopw [5, 6] (fun mv iv w' => ∃ i x : Nat, iv = .int .i64 ((i : Int) + 1) ∧ i ≤ m ∧ mv = .float .f64 x ∧ x < 18446744073709551616 ∧ Hid (cl x = R i) ∧ w' = w) (fun _ iv _ => m + 1 - (RowKit.intOf iv).toNat)
  case atStart => exact ⟨0, x0, rfl, by omega, rfl, l0, HO0, rfl⟩
  case round =>
    obtain ⟨i, x, rfl, hi, rfl, hx, hst, rfl⟩ := hrel
    by_cases hlt : i < m
    · have hii : (i : Int) + 1 < (m : Int) + 1 := by omega
      have i0 : (0 : Int) ≤ (i : Int) + 1 := by omega
      obtain ⟨q1, lu⟩ := HAT.out (i + 1) (by omega)
      have HI : Hid (i + 1 ≤ m) := hlt
      have HN : Hid (R (i + 1) = if outB true (cl (xs.getD (i + 1) 0)) (cl x) = true then cl (xs.getD (i + 1) 0) else cl x) := (show _ = _ by rw [hst.out]; exact HO1.out i)
      generalize xs.getD (i + 1) 0 = u at *
      have d0 := ne_self x
      have d1 := gtB_eq u x
      cases e0 : (cl x).isNone
      · rw [e0] at d0
        cases e1 : gtB (cl u) (cl x)
        · rw [e1] at d1
          have HZ : Hid (cl x = R (i + 1)) := (show _ = _ by
            rw [HN.out, if_neg]
            unfold outB
            simp [e0, e1])
          clear HN e0 e1 hst
          go_wp2_with fail
          exact ⟨⟨i + 1, x, by go_num, HI.out, rfl, hx, HZ, trivial⟩, by simp [RowKit.intOf]; omega⟩
        · rw [e1] at d1
          have HZ : Hid (cl u = R (i + 1)) := (show _ = _ by
            rw [HN.out, if_pos]
            unfold outB
            simp [e1])
          clear HN e0 e1 hst
          go_wp2_with fail
          exact ⟨⟨i + 1, u, by go_num, HI.out, rfl, lu, HZ, trivial⟩, by simp [RowKit.intOf]; omega⟩
      · rw [e0] at d0
        have HZ : Hid (cl u = R (i + 1)) := (show _ = _ by
          rw [HN.out, if_pos]
          unfold outB
          simp [e0])
        clear HN e0 d1 hst
        go_wp2_with fail
        exact ⟨⟨i + 1, u, by go_num, HI.out, rfl, lu, HZ, trivial⟩, by simp [RowKit.intOf]; omega⟩
    · have hii : ¬ (i : Int) + 1 < (m : Int) + 1 := by omega
      obtain rfl : i = m := by omega
      go_wp2
      go_ret
      exact ⟨_, 0, rfl, rfl, hx, hst.out⟩
set_option maxHeartbeats 8000000 in
set_option maxRecDepth 100000 in
theorem routerF (a : Option Addr) (c : Nat) (xs : List Nat) (w : World) (hf : Fm w a xs) (hw : Wd xs) (hn : xs.length ≠ 0) (hl : xs.length ≤ 9223372036854775807) :
    Calls Tryz.prog 39 #[.slice a xs.length c, .bool true] w (RF w (outI false (fun j => xs.getD j 0) (xs.length - 1))) := by
  obtain ⟨g, o, rfl, hg, hat⟩ := fm_cell hf hn
  have HAT : Hid (∀ j, j < xs.length → w.cell? ⟨g, o + j, none⟩ = some (.float .f64 (xs.getD j 0)) ∧ xs.getD j 0 < 18446744073709551616) := (show ∀ j, _ → _ from fun j hj => ⟨hat j hj, hw j hj⟩)
  have HO0 : Hid (cl (xs.getD 0 0) = outI false (fun j => xs.getD j 0) 0) := rfl
  have HO1 : Hid (∀ i, outI false (fun j => xs.getD j 0) (i + 1) = if outB false (cl (xs.getD (i + 1) 0)) (outI false (fun j => xs.getD j 0) i) = true then cl (xs.getD (i + 1) 0) else outI false (fun j => xs.getD j 0) i) := fun i => rfl
  have q0 := (HAT.out 0 (by omega)).1
  have l0 := (HAT.out 0 (by omega)).2
  rw [Nat.add_zero] at q0
  obtain ⟨m, hm⟩ : ∃ m, xs.length = m + 1 := ⟨xs.length - 1, by omega⟩
  rw [hm] at HAT hl ⊢
  rw [Nat.add_sub_cancel]
  generalize outI false (fun j => xs.getD j 0) = R at *
  obtain ⟨x0, hx0⟩ : ∃ x, x = xs.getD 0 0 := ⟨_, rfl⟩
  rw [← hx0] at q0 l0 HO0
  clear hf hw hn hg hat hm hx0
  go_enter Tryz.func39, Tryz.ntmps39
  go_wp2_with fail
  go_loopw [5, 6] (fun mv iv w' => ∃ i x : Nat, iv = .int .i64 ((i : Int) + 1) ∧ i ≤ m ∧ mv = .float .f64 x ∧ x < 18446744073709551616 ∧ Hid (cl x = R i) ∧ w' = w) (fun _ iv _ => m + 1 - (RowKit.intOf iv).toNat)
  case atStart => exact ⟨0, x0, rfl, by omega, rfl, l0, HO0, rfl⟩
  case round =>
    obtain ⟨i, x, rfl, hi, rfl, hx, hst, rfl⟩ := hrel
    by_cases hlt : i < m
    · have hii : (i : Int) + 1 < (m : Int) + 1 := by omega
      have i0 : (0 : Int) ≤ (i : Int) + 1 := by omega
      obtain ⟨q1, lu⟩ := HAT.out (i + 1) (by omega)
      have HI : Hid (i + 1 ≤ m) := hlt
      have HN : Hid (R (i + 1) = if outB false (cl (xs.getD (i + 1) 0)) (cl x) = true then cl (xs.getD (i + 1) 0) else cl x) := (show _ = _ by rw [hst.out]; exact HO1.out i)
      generalize xs.getD (i + 1) 0 = u at *
      have d0 := ne_self x
      have d1 := ltB_eq u x
      cases e0 : (cl x).isNone
      · rw [e0] at d0
        cases e1 : ltB (cl u) (cl x)
        · rw [e1] at d1
          have HZ : Hid (cl x = R (i + 1)) := (show _ = _ by
            rw [HN.out, if_neg]
            unfold outB
            simp [e0, e1])
          clear HN e0 e1 hst
          go_wp2_with fail
          exact ⟨⟨i + 1, x, by go_num, HI.out, rfl, hx, HZ, trivial⟩, by simp [RowKit.intOf]; omega⟩
        · rw [e1] at d1
          have HZ : Hid (cl u = R (i + 1)) := (show _ = _ by
            rw [HN.out, if_pos]
            unfold outB
            simp [e1])
          clear HN e0 e1 hst
          go_wp2_with fail
          exact ⟨⟨i + 1, u, by go_num, HI.out, rfl, lu, HZ, trivial⟩, by simp [RowKit.intOf]; omega⟩
      · rw [e0] at d0
        have HZ : Hid (cl u = R (i + 1)) := (show _ = _ by
          rw [HN.out, if_pos]
          unfold outB
          simp [e0])
        clear HN e0 d1 hst
        go_wp2_with fail
        exact ⟨⟨i + 1, u, by go_num, HI.out, rfl, lu, HZ, trivial⟩, by simp [RowKit.intOf]; omega⟩
    · have hii : ¬ (i : Int) + 1 < (m : Int) + 1 := by omega
      obtain rfl : i = m := by omega
      go_wp2
      go_ret
      exact ⟨_, 0, rfl, rfl, hx, hst.out⟩
end Go.Proofs.YtmjenemjbpimcabGreat
