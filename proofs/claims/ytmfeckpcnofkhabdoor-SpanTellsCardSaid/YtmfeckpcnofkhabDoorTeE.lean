/- The reference's Civil. -/
import Derived.Test.YtmfeckpcnofkhabDoorTeD
import Derived.Test.YtmfeckpcnofkhabDoorTeA
import Derived.Test.YtmfeckpcnofkhabDoorCiv
namespace Go.Proofs.YtmfeckpcnofkhabDoor
open Go.RowKit

/-- Ten numbers in a block. -/
def TenAt (W : World) (B : Nat) (v : Nat → Int) : Prop := (∀ i, i < 10 → W.cell? ⟨B, i, none⟩ = some (.int .i64 (v i))) ∧ ∀ i, W.frozen? ⟨B, i, none⟩ = false
/-- The numbers while the months are counted. -/
def cvj (yr j wk yd : Int) : Nat → Int
  | 0 => yr | 1 => j | 7 => wk | 8 => yd | _ => 0
theorem tenAt_new (w : World) (yr j wk yd : Int) : TenAt (w.alloc (Obj.cells #[.int .i64 yr, .int .i64 j, .int .i64 0, .int .i64 0, .int .i64 0, .int .i64 0, .int .i64 0, .int .i64 wk, .int .i64 yd, .int .i64 0] 30)) w.heap.size (cvj yr j wk yd) := by
  refine ⟨fun i hi => ?_, fun i => by simp [go_sem]⟩
  have : i = 0 ∨ i = 1 ∨ i = 2 ∨ i = 3 ∨ i = 4 ∨ i = 5 ∨ i = 6 ∨ i = 7 ∨ i = 8 ∨ i = 9 := by omega
  rcases this with rfl | rfl | rfl | rfl | rfl | rfl | rfl | rfl | rfl | rfl <;> simp [go_sem, cvj]
theorem TenAt.next {W : World} {B : Nat} {yr j wk yd : Int} (h : TenAt W B (cvj yr j wk yd)) : TenAt (W.setCell ⟨B, 1, none⟩ (.int .i64 (j + 1))) B (cvj yr (j + 1) wk yd) := by
  have f0 := h.1 0 (by omega)
  have f1 := h.1 1 (by omega)
  have f2 := h.1 2 (by omega)
  have f3 := h.1 3 (by omega)
  have f4 := h.1 4 (by omega)
  have f5 := h.1 5 (by omega)
  have f6 := h.1 6 (by omega)
  have f7 := h.1 7 (by omega)
  have f8 := h.1 8 (by omega)
  have f9 := h.1 9 (by omega)
  have hz := h.2
  refine ⟨fun i hi => ?_, fun i => by simp [go_sem, hz]⟩
  have : i = 0 ∨ i = 1 ∨ i = 2 ∨ i = 3 ∨ i = 4 ∨ i = 5 ∨ i = 6 ∨ i = 7 ∨ i = 8 ∨ i = 9 := by omega
  rcases this with rfl | rfl | rfl | rfl | rfl | rfl | rfl | rfl | rfl | rfl <;> simp [go_sem, f0, f1, f2, f3, f4, f5, f6, f7, f8, f9, cvj]
theorem TenAt.set {W : World} {B : Nat} {v : Nat → Int} (h : TenAt W B v) (i : Nat) (x : Int) (hi : i < 10) : TenAt (W.setCell ⟨B, i, none⟩ (.int .i64 x)) B (fun n => if n = i then x else v n) := by
  have hz := h.2
  refine ⟨fun n hn => ?_, fun n => by simp [go_sem, hz]⟩
  by_cases c : n = i
  · subst c
    rw [World.cell?_setCell_same _ _ _ (h.1 n hn)]
    simp
  · rw [World.cell?_setCell_other _ _ _ _ (fun e => c (by injection e with _ e2; exact e2.symm)), h.1 n hn]
    simp [c]

set_option maxHeartbeats 4000000 in
set_option maxRecDepth 100000 in
theorem rcivil_any (ms days rest cyc inC y m : Int) (h : CivR ms days rest cyc inC y m) (w : World) (h0 : -9223372036854775808 ≤ ms) (h1 : ms ≤ 9223372036854775807) :
    Calls Tryd.prog 18 #[.int .i64 ms] w fun e w' => e = .returned (.agg (civV days rest cyc inC y m)) ∧ Below w.heap.size w w' := by
  obtain ⟨e1, r0, r1, e2, c0, c1, y0, y1, b0, b1, m0, m1, q0, q1⟩ := h
  have hd0 : -106751991168 ≤ days := by omega
  have hd1 : days ≤ 106751991167 := by omega
  have hc0 : -1000000 ≤ cyc := by omega
  have hc1 : cyc ≤ 1000000 := by omega
  have k1 := fun w => rfloor_any ms 86400000 days rest w h0 h1 (by omega) (by omega) e1 r0 r1 (by omega) (by omega)
  have k2 := fun w => rfloor_any (days + 719528) 146097 cyc inC w (by omega) (by omega) (by omega) (by omega) e2 c0 c1 (by omega) (by omega)
  have k6 := fun w => rfloor_any (days + 4) 7 ((days + 4) / 7) ((days + 4) % 7) w (by omega) (by omega) (by omega) (by omega) (by omega) (by omega) (by omega) (by omega) (by omega)
  have HQ := hidden (show cum y m ≤ inC - dB y ∧ inC - dB y < cum y (m + 1) ∧ dB y ≤ inC ∧ inC < dB (y + 1) from ⟨q0, q1, b0, b1⟩)
  clear e1 e2 b0 b1 q0 q1
  go_enter Tryd.func18, Tryd.ntmps18
  go_wp2_with fail
  go_fit (k1 _)
  rintro e w1 ⟨rfl, hb1⟩
  go_wp2_with fail
  go_fit (k6 _)
  rintro e w2 ⟨rfl, hb2'⟩
  have hb2 := hb1.trans (hb2'.mono hb1.size)
  clear k1 k6 hb1 hb2'
  go_wp2_with fail
  go_fit (k2 _)
  rintro e w3 ⟨rfl, hb3'⟩
  have hb3 := hb2.trans (hb3'.mono hb2.size)
  clear k2 hb2 hb3'
  go_wp2_with fail
  go_loop [8, 9] (fun a b => ∃ k : Int, b = .int .i64 k ∧ a = .int .i64 (inC - dB k) ∧ 0 ≤ k ∧ k ≤ y) (fun _ b => (y - RowKit.intOf b).toNat)
  case atStart => exact ⟨0, rfl, by rw [dB_zero, Int.sub_zero], by omega, y0⟩
  case round =>
    obtain ⟨k, rfl, rfl, hk0, hk1⟩ := hrel
    have kY := fun w => ryearDays_any k w hk0 (by omega)
    have hs := dB_succ k
    have hl := lpN_or k
    have g0 := dB_ge k hk0
    have g1 := dB_le k hk0
    by_cases c : k < y
    · have hmo := dB_mono (k + 1) y (by omega)
      have hle : 365 + lpN k ≤ inC - dB k := by have := HQ.out.2.2.1; omega
      have FIN := hidden (show ∃ k' : Int, Value.int .i64 (k + 1) = .int .i64 k' ∧ Value.int .i64 (inC - dB k - (365 + lpN k)) = .int .i64 (inC - dB k') ∧ 0 ≤ k' ∧ k' ≤ y from ⟨k + 1, rfl, by rw [hs]; congr 1; omega, by omega, by omega⟩)
      clear hmo hs
      generalize dB k = DB at *
      generalize lpN k = LP at *
      have l0 : 0 ≤ LP := by omega
      have l1 : LP ≤ 1 := by omega
      clear hl
      go_wp2_with fail
      go_fit (kY _)
      rintro e w4 ⟨rfl, rfl⟩
      go_wp2_with fail
      go_fit (kY _)
      rintro e w5 ⟨rfl, rfl⟩
      go_wp2
      exact ⟨FIN.out, by simp [RowKit.intOf]; omega⟩
    · obtain rfl : k = y := by omega
      have hlt : ¬ 365 + lpN k ≤ inC - dB k := by have := HQ.out.2.2.2; omega
      have hd0' : 0 ≤ inC - dB k := by have := HQ.out.2.2.1; omega
      have hd1' : inC - dB k ≤ 366 := by omega
      clear hs
      go_wp2_with fail
      go_fit (kY _)
      rintro e w4 ⟨rfl, rfl⟩
      go_wp2_with fail
      have hT0 := tenAt_new w4 (400 * cyc + k) 1 ((days + 4) % 7) (inC - dB k + 1)
      have hB0 : Below w4.heap.size w4 (w4.alloc (Obj.cells #[.int .i64 (400 * cyc + k), .int .i64 1, .int .i64 0, .int .i64 0, .int .i64 0, .int .i64 0, .int .i64 0, .int .i64 ((days + 4) % 7), .int .i64 (inC - dB k + 1), .int .i64 0] 30)) := (Below.refl _ _).alloc (Nat.le_refl _) _
      generalize w4.alloc (Obj.cells #[.int .i64 (400 * cyc + k), .int .i64 1, .int .i64 0, .int .i64 0, .int .i64 0, .int .i64 0, .int .i64 0, .int .i64 ((days + 4) % 7), .int .i64 (inC - dB k + 1), .int .i64 0] 30) = w5 at *
      obtain ⟨B, hB⟩ : ∃ B, B = w4.heap.size := ⟨_, rfl⟩
      rw [← hB] at hT0 ⊢
      have HB3 := hidden hb3
      have HBB := hidden hB
      clear hb3 hB
      go_loopw [8] (fun a W => ∃ j : Int, a = .int .i64 (inC - dB k - cum k j) ∧ 1 ≤ j ∧ j ≤ m ∧ TenAt W B (cvj (400 * cyc + k) j ((days + 4) % 7) (inC - dB k + 1)) ∧ Below w4.heap.size w4 W) (fun a _ => (RowKit.intOf a).toNat)
      case atStart => exact ⟨1, by rw [cum_one, Int.sub_zero], by omega, m0, hT0, hB0⟩
      case round =>
        obtain ⟨j, rfl, hj0, hj1, hT, hbw⟩ := hrel
        have kM := fun w => rmonthDays_any k j w hk0 (by omega) hj0 (by omega)
        have hcs := cum_succ k j hj0 (by omega)
        have hmd := md_bd k j
        have hcb := cum_bd k j hj0 (by omega)
        have f1 : wr.cell? ⟨B, 1, none⟩ = some (.int .i64 j) := hT.1 1 (by omega)
        have z1 := hT.2 1
        by_cases c2 : j < m
        · have hmo := cum_mono k (j + 1) m (by omega) (by omega) (by omega)
          have hle : md k j ≤ inC - dB k - cum k j := by have := HQ.out.1; omega
          have HT := hidden hT
          clear hT
          go_wp2_with fail
          go_fit (kM _)
          rintro e w6 ⟨rfl, rfl⟩
          go_wp2_with fail
          go_fit (kM _)
          rintro e w7 ⟨rfl, rfl⟩
          go_wp2
          refine ⟨⟨j + 1, by rw [hcs]; congr 1; omega, by omega, by omega, HT.out.next, hbw.setCell (Nat.le_of_eq HBB.out.symm) _⟩, ?_⟩
          show (inC - dB k - cum k j - md k j).toNat < (inC - dB k - cum k j).toNat
          omega
        · obtain rfl : j = m := by omega
          have hle : ¬ md k j ≤ inC - dB k - cum k j := by have := HQ.out.2.1; omega
          go_wp2_with fail
          go_fit (kM _)
          rintro e w6 ⟨rfl, rfl⟩
          have f2 : w6.cell? ⟨B, 2, none⟩ = some (.int .i64 0) := hT.1 2 (by omega)
          have f9 : w6.cell? ⟨B, 9, none⟩ = some (.int .i64 0) := hT.1 9 (by omega)
          have hfz := hT.2
          have HT := hidden hT
          clear hT
          go_wp2_with fail
          go_fit (kM _)
          rintro e w7 ⟨rfl, rfl⟩
          go_upto_region 13 with fail
          have hT8 := (HT.out.set 2 (inC - dB k - cum k j + 1) (by omega)).set 9 (md k j) (by omega)
          have hb8 : Below w4.heap.size w4 ((w7.setCell ⟨B, 2, none⟩ (.int .i64 (inC - dB k - cum k j + 1))).setCell ⟨B, 9, none⟩ (.int .i64 (md k j))) := (hbw.setCell (Nat.le_of_eq HBB.out.symm) _).setCell (Nat.le_of_eq HBB.out.symm) _
          generalize ((w7.setCell ⟨B, 2, none⟩ (.int .i64 (inC - dB k - cum k j + 1))).setCell ⟨B, 9, none⟩ (.int .i64 (md k j))) = w8 at *
          have g3 : w8.cell? ⟨B, 3, none⟩ = some (.int .i64 0) := hT8.1 3 (by omega)
          have g4 : w8.cell? ⟨B, 4, none⟩ = some (.int .i64 0) := hT8.1 4 (by omega)
          have g5 : w8.cell? ⟨B, 5, none⟩ = some (.int .i64 0) := hT8.1 5 (by omega)
          have g6 : w8.cell? ⟨B, 6, none⟩ = some (.int .i64 0) := hT8.1 6 (by omega)
          have hz8 := hT8.2
          have HT8 := hidden hT8
          have HB8 := hidden hb8
          clear hT8 hb8 HT f2 f9 f1 hfz hbw kM kY z1
          obtain ⟨H, hH⟩ : ∃ H, H = rest / 3600000 := ⟨_, rfl⟩
          obtain ⟨P, hP⟩ : ∃ P, P = rest / 60000 := ⟨_, rfl⟩
          obtain ⟨MI, hMI⟩ : ∃ MI, MI = rest % 3600000 / 60000 := ⟨_, rfl⟩
          obtain ⟨Q, hQ⟩ : ∃ Q, Q = rest / 1000 := ⟨_, rfl⟩
          obtain ⟨S, hS⟩ : ∃ S, S = rest % 60000 / 1000 := ⟨_, rfl⟩
          obtain ⟨ML, hML⟩ : ∃ ML, ML = rest % 1000 := ⟨_, rfl⟩
          have t1 : rest.tdiv 3600000 = H := by rw [Int.tdiv_eq_ediv_of_nonneg r0, hH]
          have t2 : rest.tdiv 60000 = P := by rw [Int.tdiv_eq_ediv_of_nonneg r0, hP]
          have t3 : P.tmod 60 = MI := by rw [Int.tmod_eq_emod_of_nonneg (by omega)]; omega
          have t4 : rest.tdiv 1000 = Q := by rw [Int.tdiv_eq_ediv_of_nonneg r0, hQ]
          have t5 : Q.tmod 60 = S := by rw [Int.tmod_eq_emod_of_nonneg (by omega)]; omega
          have t6 : rest.tmod 1000 = ML := by rw [Int.tmod_eq_emod_of_nonneg r0, hML]
          have u1 : 0 ≤ H ∧ H ≤ 86400000 := by omega
          have u2 : 0 ≤ P ∧ P ≤ 86400000 := by omega
          have u3 : 0 ≤ MI ∧ MI ≤ 86400000 := by omega
          have u4 : 0 ≤ Q ∧ Q ≤ 86400000 := by omega
          have u5 : 0 ≤ S ∧ S ≤ 86400000 := by omega
          have u6 : 0 ≤ ML ∧ ML ≤ 86400000 := by omega
          have HE := hidden (show H = rest / 3600000 ∧ MI = rest % 3600000 / 60000 ∧ S = rest % 60000 / 1000 ∧ ML = rest % 1000 from ⟨hH, hMI, hS, hML⟩)
          clear hH hP hMI hQ hS hML hle hcs hmd hcb hd0' hd1' hlt g0 g1 hl
          obtain ⟨u1a, u1b⟩ := u1
          obtain ⟨u2a, u2b⟩ := u2
          obtain ⟨u3a, u3b⟩ := u3
          obtain ⟨u4a, u4b⟩ := u4
          obtain ⟨u5a, u5b⟩ := u5
          obtain ⟨u6a, u6b⟩ := u6
          go_upto_region 15 with fail
          have hT9 := (((HT8.out.set 3 H (by omega)).set 4 MI (by omega)).set 5 S (by omega)).set 6 ML (by omega)
          have hb9 : Below w4.heap.size w4 ((((w8.setCell ⟨B, 3, none⟩ (.int .i64 H)).setCell ⟨B, 4, none⟩ (.int .i64 MI)).setCell ⟨B, 5, none⟩ (.int .i64 S)).setCell ⟨B, 6, none⟩ (.int .i64 ML)) :=
            (((HB8.out.setCell (Nat.le_of_eq HBB.out.symm) _).setCell (Nat.le_of_eq HBB.out.symm) _).setCell (Nat.le_of_eq HBB.out.symm) _).setCell (Nat.le_of_eq HBB.out.symm) _
          generalize ((((w8.setCell ⟨B, 3, none⟩ (.int .i64 H)).setCell ⟨B, 4, none⟩ (.int .i64 MI)).setCell ⟨B, 5, none⟩ (.int .i64 S)).setCell ⟨B, 6, none⟩ (.int .i64 ML)) = w9 at *
          clear HT8 HB8 g3 g4 g5 g6 hz8 t1 t2 t3 t4 t5 t6 u1a u1b u2a u2b u3a u3b u4a u4b u5a u5b u6a u6b
          have hb10 := HB3.out.trans (hb9.mono HB3.out.size)
          have hbw : Below w.heap.size w w9 := ((Below.refl w.heap.size w).alloc (Nat.le_refl _) ten).trans (hb10.mono (by simp))
          have hRB : w.heap.size < B := by
            have := HB3.out.size
            rw [HBB.out]
            simp at this
            omega
          have hcell : ∀ i, i < 10 → w9.cell? ⟨w.heap.size, i, none⟩ = some (.int .i64 0) := fun i hi => by
            rw [hb10.cell (by simp)]
            have : i = 0 ∨ i = 1 ∨ i = 2 ∨ i = 3 ∨ i = 4 ∨ i = 5 ∨ i = 6 ∨ i = 7 ∨ i = 8 ∨ i = 9 := by omega
            rcases this with rfl | rfl | rfl | rfl | rfl | rfl | rfl | rfl | rfl | rfl <;> simp [go_sem]
          have hfz : ∀ i, w9.frozen? ⟨w.heap.size, i, none⟩ = false := fun i => by
            rw [hb10.frozen (by simp)]
            simp [go_sem]
          have hne : w.heap.size ≠ B := by omega
          have f0 : w9.cell? ⟨B, 0, none⟩ = some (.int .i64 (400 * cyc + k)) := hT9.1 0 (by omega)
          have f1 : w9.cell? ⟨B, 1, none⟩ = some (.int .i64 j) := hT9.1 1 (by omega)
          have f2 : w9.cell? ⟨B, 2, none⟩ = some (.int .i64 (inC - dB k - cum k j + 1)) := hT9.1 2 (by omega)
          have f3 : w9.cell? ⟨B, 3, none⟩ = some (.int .i64 H) := hT9.1 3 (by omega)
          have f4 : w9.cell? ⟨B, 4, none⟩ = some (.int .i64 MI) := hT9.1 4 (by omega)
          have f5 : w9.cell? ⟨B, 5, none⟩ = some (.int .i64 S) := hT9.1 5 (by omega)
          have f6 : w9.cell? ⟨B, 6, none⟩ = some (.int .i64 ML) := hT9.1 6 (by omega)
          have f7 : w9.cell? ⟨B, 7, none⟩ = some (.int .i64 ((days + 4) % 7)) := hT9.1 7 (by omega)
          have f8 : w9.cell? ⟨B, 8, none⟩ = some (.int .i64 (inC - dB k + 1)) := hT9.1 8 (by omega)
          have f9 : w9.cell? ⟨B, 9, none⟩ = some (.int .i64 (md k j)) := hT9.1 9 (by omega)
          have p0 := hcell 0 (by omega)
          have p1 := hcell 1 (by omega)
          have p2 := hcell 2 (by omega)
          have p3 := hcell 3 (by omega)
          have p4 := hcell 4 (by omega)
          have p5 := hcell 5 (by omega)
          have p6 := hcell 6 (by omega)
          have p7 := hcell 7 (by omega)
          have p8 := hcell 8 (by omega)
          have p9 := hcell 9 (by omega)
          have HBW := hidden hbw
          clear hT9 hcell hb9 hb10 hbw HB3 hRB
          go_wp2
          obtain ⟨rfl, rfl, rfl, rfl⟩ := HE.out
          rw [show 400 * cyc + k = cyc * 400 + k by omega]
          refine bodyPost_ret (v := .agg (civV days rest cyc inC k j)) ?_ rfl ⟨rfl, ?_⟩
          · unfold civV
            simp [results, Tryd.results18, go_sem, p0, p1, p2, p3, p4, p5, p6, p7, p8, p9]
          · exact (((((((((HBW.out.setCell (Nat.le_refl _) _).setCell (Nat.le_refl _) _).setCell (Nat.le_refl _) _).setCell (Nat.le_refl _) _).setCell (Nat.le_refl _) _).setCell (Nat.le_refl _) _).setCell (Nat.le_refl _) _).setCell (Nat.le_refl _) _).setCell (Nat.le_refl _) _).setCell (Nat.le_refl _) _
end Go.Proofs.YtmfeckpcnofkhabDoor
