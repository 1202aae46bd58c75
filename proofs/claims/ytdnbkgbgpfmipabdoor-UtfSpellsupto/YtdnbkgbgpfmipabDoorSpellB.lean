/- The walk of the law's own spelled, its second half: by letters, and byte by byte. -/
import Derived.Test.YtdnbkgbgpfmipabDoorSpellA
namespace Go.Proofs.YtdnbkgbgpfmipabDoor
open Go.RowKit Go.Lib

set_option maxHeartbeats 2000000 in
set_option maxRecDepth 100000 in
theorem spelled_2h (r q : Int) (w : World) (hr : isRune r = true) (hhi : ¬ r < 65536) (hq0 : 0 ≤ q) (hq1 : q ≤ 255) :
    Calls Tryd.prog 11 #[.int .i32 r, .int .i64 2, .int .u8 q] w fun e w' => e = .returned (.string (spBT r q)) ∧ Below w.heap.size w w' := by
  have hi := (isRune_iff r).1 hr
  rw [spBT_bare r q hr (by omega)]
  have hcv := fun w' => conv_one r w'
  have b10 : (r == 10) = false := by rw [beq_eq_false_iff_ne]; omega
  have b92 : (r == 92) = false := by rw [beq_eq_false_iff_ne]; omega
  have bq : (r == q) = false := by rw [beq_eq_false_iff_ne]; omega
  generalize runesBytes [r] = S at *
  have h0 := hi.1
  have h1 := hi.2.1
  clear hi hr
  go_enter Tryd.func11, Tryd.ntmps11
  go_wp2
  go_ret
  exact ⟨rfl, (Below.refl _ w).alloc (Nat.le_refl _) _⟩

abbrev letS : ByteArray := ⟨#[97, 7, 98, 8, 116, 9, 110, 10, 118, 11, 102, 12, 114, 13, 92, 92]⟩
/-- What the j-th letter means. -/
def m8 (j : Nat) : Int := if j < 7 then 7 + (j : Int) else 92
theorem letS_fin : ∀ x : Fin 8, bt letS (2 * x.val + 1) = m8 x.val ∧ (⟨#[92]⟩ ++ letS.extract (2 * x.val) (2 * x.val + 1)).data = (strOfNums [92, lt8 (m8 x.val)]).data := by decide +kernel
theorem letS_at (j : Nat) (h : j < 8) : bt letS (2 * j + 1) = m8 j ∧ (⟨#[92]⟩ : ByteArray) ++ letS.extract (2 * j) (2 * j + 1) = strOfNums [92, lt8 (m8 j)] := by
  have := letS_fin ⟨j, h⟩
  exact ⟨this.1, ByteArray.ext this.2⟩
theorem m8_none (r : Int) (h : ∀ j, j < 8 → m8 j ≠ r) : lt8 r = -1 := by
  unfold lt8
  have h7 := h 7 (by omega)
  have e7 : m8 7 = 92 := rfl
  rw [if_neg (by omega), if_neg]
  intro hx
  have := h (r - 7).toNat (by omega)
  unfold m8 at this
  rw [if_pos (by omega)] at this
  omega

set_option maxHeartbeats 4000000 in
set_option maxRecDepth 100000 in
theorem spelled_5q (q : Int) (w : World) (hq0 : 0 ≤ q) (hq1 : q ≤ 255) :
    Calls Tryd.prog 11 #[.int .i32 q, .int .i64 5, .int .u8 q] w fun e w' => e = .returned (.string (⟨#[92]⟩ ++ strOfNums [q])) ∧ Below w.heap.size w w' := by
  have hcv := fun w' => conv1 w' q
  have hDs : (strOfNums [q]).size ≤ 8 := by rw [nums_size]; simp
  have hDi : ((strOfNums [q]).size : Int) ≤ 8 := by omega
  generalize strOfNums [q] = S at *
  go_enter Tryd.func11, Tryd.ntmps11
  go_wp2
  go_ret
  exact ⟨rfl, (Below.refl _ w).alloc (Nat.le_refl _) _⟩

set_option maxHeartbeats 8000000 in
set_option maxRecDepth 100000 in
theorem spelled_5 (r q : Int) (w : World) (hr : isRune r = true) (hq0 : 0 ≤ q) (hq1 : q ≤ 255) (hrq : r ≠ q) :
    Calls Tryd.prog 11 #[.int .i32 r, .int .i64 5, .int .u8 q] w fun e w' => e = .returned (.string (spT r 5 q)) ∧ Below w.heap.size w w' := by
  have hi := (isRune_iff r).1 hr
  have bq : (r == q) = false := by rw [beq_eq_false_iff_ne]; exact hrq
  have eT : spT r 5 q = if 0 ≤ lt8 r then strOfNums [92, lt8 r] else spBT r q := by
    unfold spT sp
    rw [if_neg (by decide), if_neg (by decide), if_neg (by decide), if_neg (by decide), if_pos rfl, if_neg hrq]
    split
    · simp
    · rfl
  have kd := fun w' => digits_any r 16 2 w' (.inr rfl) (by omega) hi.1 (by omega)
  have hcv := fun w' => conv_one r w'
  have HB : Hid ((r = 10 ∨ r = 92 ∨ r = q) → spBT r q = ⟨#[92, 120]⟩ ++ strOfNums (dgs 16 2 r)) := spBT_esc r q
  have HC : Hid (¬ (r = 10 ∨ r = 92 ∨ r = q) → spBT r q = runesBytes [r]) := spBT_bare r q hr
  generalize hT : spT r 5 q = T at *
  have HT : Hid (T = if 0 ≤ lt8 r then strOfNums [92, lt8 r] else spBT r q) := eT
  have hDs : (strOfNums (dgs 16 2 r)).size ≤ 8 := by rw [nums_size, dgs_len]; omega
  have hDi : ((strOfNums (dgs 16 2 r)).size : Int) ≤ 8 := by omega
  generalize strOfNums (dgs 16 2 r) = D at *
  generalize runesBytes [r] = S at *
  have h0 := hi.1
  have h1 := hi.2.1
  clear hi hr eT hT
  go_enter Tryd.func11, Tryd.ntmps11
  go_wp2
  go_loopw [11] (fun t w' => ∃ j J : Nat, t = .int .i64 (J : Int) ∧ Hid (J = 2 * j) ∧ j ≤ 8 ∧ Hid (∀ i, i < j → m8 i ≠ r) ∧ w' = w) (fun t _ => 16 - (RowKit.intOf t).toNat)
  case atStart => exact ⟨0, 0, rfl, rfl, by omega, fun i hi => by omega, rfl⟩
  case round =>
    obtain ⟨j, J, rfl, HJ, hj, hno, rfl⟩ := hrel
    have hJ := HJ.out
    have hJb : (J : Int) ≤ 16 := by omega
    by_cases hlt : j < 8
    · obtain ⟨l1, l2⟩ := letS_at j hlt
      rw [← hJ] at l1 l2
      have p1 : J + 1 < letS.size := by rw [show letS.size = 16 from rfl]; omega
      have x1 := bt_at letS (J + 1) p1
      rw [l1] at x1
      have hJ14 : (J : Int) ≤ 14 := by omega
      have hmb : 0 ≤ m8 j ∧ m8 j ≤ 255 := by unfold m8; split <;> omega
      have hmb0 := hmb.1
      have hmb1 := hmb.2
      by_cases hm : m8 j = r
      · have HE : Hid (T = ⟨#[92]⟩ ++ letS.extract J (J + 1)) := by
          show _ = _
          have hp : 0 ≤ lt8 r := by
            rw [← hm]
            unfold m8 lt8 l7
            repeat' split
            all_goals omega
          rw [l2, hm, HT.out, if_pos hp]
        have hdt : (m8 j == r) = true := by rw [beq_iff_eq]; exact hm
        have hes : (letS.extract J (J + 1)).size ≤ 8 := by simp; omega
        have hesi : ((letS.extract J (J + 1)).size : Int) ≤ 8 := by omega
        clear hm l1 l2 hmb hJ
        generalize m8 j = d at *
        go_wp2
        go_ret
        exact ⟨by rw [HE.out]; rfl, Below.refl _ _⟩
      · have HN : Hid (∀ i, i < j + 1 → m8 i ≠ r) := fun i hi => by
          by_cases e : i = j
          · rw [e]; exact hm
          · exact hno.out i (by omega)
        have hdt : (m8 j == r) = false := by rw [beq_eq_false_iff_ne]; exact hm
        clear hm l1 l2 hmb hJ
        generalize m8 j = d at *
        go_wp2
        go_roundw
        case rel => exact ⟨j + 1, J + 2, rfl, (by have := HJ.out; omega : _ = _), by omega, HN, trivial⟩
        case measure => simp [RowKit.intOf]; omega
    · have hlt8 : lt8 r = -1 := m8_none r (fun i hi => hno.out i (by omega))
      have HE : Hid (T = spBT r q) := by
        show _ = _
        rw [HT.out, hlt8]
        rfl
      have hJ16 : ¬ (J : Int) + 1 < 16 := by omega
      clear hJ hlt8
      by_cases h : r = 10 ∨ r = 92 ∨ r = q
      · have HF : Hid (T = ⟨#[92, 120]⟩ ++ D) := by show _ = _; rw [HE.out, HB.out h]
        by_cases h10 : r = 10
        · have b10 : (r == 10) = true := by rw [beq_iff_eq]; exact h10
          clear h h10
          go_wp2_with (go_at_call 35; go_fit (kd _); rintro e w1 ⟨rfl, hb1⟩)
          go_ret
          exact ⟨by rw [HF.out]; rfl, hb1⟩
        · have b10 : (r == 10) = false := by rw [beq_eq_false_iff_ne]; exact h10
          by_cases h92 : r = 92
          · have b92 : (r == 92) = true := by rw [beq_iff_eq]; exact h92
            clear h h10 h92
            go_wp2_with (go_at_call 35; go_fit (kd _); rintro e w1 ⟨rfl, hb1⟩)
            go_ret
            exact ⟨by rw [HF.out]; rfl, hb1⟩
          · exact absurd (by omega) hrq
      · have HF : Hid (T = S) := by show _ = _; rw [HE.out, HC.out h]
        have b10 : (r == 10) = false := by rw [beq_eq_false_iff_ne]; omega
        have b92 : (r == 92) = false := by rw [beq_eq_false_iff_ne]; omega
        clear h
        go_wp2
        go_ret
        exact ⟨by rw [HF.out]; rfl, (Below.refl _ wr).alloc (Nat.le_refl _) _⟩
end Go.Proofs.YtdnbkgbgpfmipabDoor
