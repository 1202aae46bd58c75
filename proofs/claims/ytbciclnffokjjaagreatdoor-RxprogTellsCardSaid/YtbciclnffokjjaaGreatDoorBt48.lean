/- A bundle of texts. -/
import Derived.Test.YtbciclnffokjjaaGreatDoorBt26
import Derived.Test.YtbciclnffokjjaaGreatDoorBt44
/- Hollow: the reference's. -/
namespace Go.Proofs.YtbciclnffokjjaaGreatDoor
open Go.RowKit

def RhC (m : Nat) : Prop := ∀ (t : Tr) (w : World), WF m t → Tat w.heap.size w t → Calls Tryz.prog 23 #[ndV (t [])] w fun e w' => e = .returned (.bool (holF m t)) ∧ Below w.heap.size w w'
set_option maxHeartbeats 4000000 in
set_option maxRecDepth 100000 in
theorem rhollow_step (m : Nat) (hIH : RhC m) : RhC (m + 1) := by
  intro t w hw ht
  obtain ⟨⟨hnd, _⟩, hkn, hk⟩ := hw
  have hkd := ndB_kind hnd
  have hb : Below w.heap.size w (w.alloc (ndX (t []))) := (Below.refl _ w).alloc (Nat.le_refl _) _
  have ht1 := (ht.below hb).mono hb.size
  have hC : ∀ j, j < (t []).kn → ∀ V, Below (w.alloc (ndX (t []))).heap.size (w.alloc (ndX (t []))) V → Calls Tryz.prog 23 #[ndV (t [j])] V fun e w' => e = .returned (.bool (holF m (kid t j))) ∧ Below V.heap.size V w' := fun j hj V b => hIH (kid t j) V (hk j hj) (((ht1.kid j hj).below b).mono b.size)
  have HB : Hid _ := hb
  have x := box_lo w (t []) (Below.refl _ (w.alloc (ndX (t []))))
  have HEQ : Hid (holF (m + 1) t = (if (t []).kind = 2 ∨ (t []).kind = 3 ∨ (t []).kind = 12 then false
    else if (t []).kind = 4 then !anyN (fun q => !holF m (kid t q)) (t []).kn
    else if (t []).kind = 5 then anyN (fun q => holF m (kid t q)) (t []).kn
    else if (t []).kind = 6 then decide ((t []).mn = 0) || holF m (kid t 0)
    else if (t []).kind = 7 then holF m (kid t 0)
    else true)) := rfl
  by_cases k2 : (t []).kind = 2 ∨ (t []).kind = 3 ∨ (t []).kind = 12
  · have HE : Hid (holF (m + 1) t = false) := by unfold Hid; rw [HEQ.out, if_pos k2]
    clear HEQ hC ht1 hb ht hk hIH
    generalize holF (m + 1) t = A at *
    rcases k2 with k | k | k
    · obtain ⟨x0, x1, x2, x3, x4, x5, x6, x7, x8⟩ := x
      simp only [Nat.zero_add] at x0 x1 x2 x3 x4 x5 x6 x7 x8
      rw [k] at x0
      obtain ⟨W, hW⟩ : ∃ W, W = w.alloc (ndX (t [])) := ⟨_, rfl⟩
      rw [← hW] at x0 x1 x2 x3 x4 x5 x6 x7 x8 HB
      have HW : Hid (w.alloc (ndX (t [])) = W) := hW.symm
      clear hW k hkd hnd
      generalize t [] = d at *
      go_enter Tryz.func23, Tryz.ntmps23
      go_upto_region 1 with fail
      rw [HW.out]
      go_wp2
      go_ret
      exact ⟨ret_bool (by rw [HE.out]), HB.out⟩
    · obtain ⟨x0, x1, x2, x3, x4, x5, x6, x7, x8⟩ := x
      simp only [Nat.zero_add] at x0 x1 x2 x3 x4 x5 x6 x7 x8
      rw [k] at x0
      obtain ⟨W, hW⟩ : ∃ W, W = w.alloc (ndX (t [])) := ⟨_, rfl⟩
      rw [← hW] at x0 x1 x2 x3 x4 x5 x6 x7 x8 HB
      have HW : Hid (w.alloc (ndX (t [])) = W) := hW.symm
      clear hW k hkd hnd
      generalize t [] = d at *
      go_enter Tryz.func23, Tryz.ntmps23
      go_upto_region 1 with fail
      rw [HW.out]
      go_wp2
      go_ret
      exact ⟨ret_bool (by rw [HE.out]), HB.out⟩
    · obtain ⟨x0, x1, x2, x3, x4, x5, x6, x7, x8⟩ := x
      simp only [Nat.zero_add] at x0 x1 x2 x3 x4 x5 x6 x7 x8
      rw [k] at x0
      obtain ⟨W, hW⟩ : ∃ W, W = w.alloc (ndX (t [])) := ⟨_, rfl⟩
      rw [← hW] at x0 x1 x2 x3 x4 x5 x6 x7 x8 HB
      have HW : Hid (w.alloc (ndX (t [])) = W) := hW.symm
      clear hW k hkd hnd
      generalize t [] = d at *
      go_enter Tryz.func23, Tryz.ntmps23
      go_upto_region 1 with fail
      rw [HW.out]
      go_wp2
      go_ret
      exact ⟨ret_bool (by rw [HE.out]), HB.out⟩
  by_cases k4 : (t []).kind = 4
  · have HM : Hid (Kmb (w.alloc (ndX (t []))).heap.size (w.alloc (ndX (t []))) (t []).ka (fun j => t [j]) (t []).kn) := ht1.kids
    have HE : Hid (holF (m + 1) t = !anyN (fun q => !holF m (kid t q)) (t []).kn) := by unfold Hid; rw [HEQ.out, if_neg k2, if_pos k4]
    obtain ⟨x0, x1, x2, x3, x4, x5, x6, x7, x8⟩ := x
    simp only [Nat.zero_add] at x0 x1 x2 x3 x4 x5 x6 x7 x8
    rw [k4] at x0
    obtain ⟨W, hW⟩ : ∃ W, W = w.alloc (ndX (t [])) := ⟨_, rfl⟩
    rw [← hW] at x0 x1 x2 x3 x4 x5 x6 x7 x8 HB hC HM
    have HW : Hid (w.alloc (ndX (t [])) = W) := hW.symm
    clear HEQ ht1 hb ht hk hIH hW k4 k2 hkd hnd
    generalize holF (m + 1) t = A at *
    obtain ⟨F, hF⟩ : ∃ F : Nat → Bool, F = fun q => holF m (kid t q) := ⟨_, rfl⟩
    have HC : Hid (∀ j, j < (t []).kn → ∀ V, Below W.heap.size W V → Calls Tryz.prog 23 #[ndV (t [j])] V fun e w' => e = .returned (.bool (F j)) ∧ Below V.heap.size V w') := by rw [hF]; exact hC
    have HX : Hid (∀ V, Below W.heap.size W V → V.cell? ⟨w.heap.size, 8, none⟩ = some (.slice (t []).ka (t []).kn (t []).kc)) := fun V b => (b.cell (p := ⟨w.heap.size, 8, none⟩) (by rw [← HW.out, World.size_alloc]; show w.heap.size < _; omega)).trans x8
    have hnI : ((t []).kn : Int) ≤ 8194 := by omega
    obtain ⟨x, hx⟩ : ∃ x : Nat → Nd, x = fun j => t [j] := ⟨_, rfl⟩
    have hxj : ∀ j, t [j] = x j := fun j => by rw [hx]
    simp only [hxj] at HC HM
    rw [show (fun q => !holF m (kid t q)) = (fun q => !F q) by rw [hF]] at HE
    clear hC hF hx hxj hkn
    generalize t [] = d at *
    go_enter Tryz.func23, Tryz.ntmps23
    go_upto_region 1 with fail
    rw [HW.out]
    go_wp2_with fail
    go_loopw [3] (fun ivv w' => ∃ i : Nat, ivv = .int .i64 (i : Int) ∧ i ≤ d.kn ∧ anyN (fun q => !F q) i = false ∧ Hid (Below W.heap.size W w')) (fun ivv _ => d.kn - (RowKit.intOf ivv).toNat)
    case atStart => exact ⟨0, rfl, Nat.zero_le _, rfl, Below.refl _ _⟩
    case round =>
      clear x0 x1 x2 x3 x4 x5 x6 x7 x8
      obtain ⟨i, rfl, hi, hno, hbw⟩ := hrel
      have x8 := HX.out wr hbw.out
      by_cases hlt : i < d.kn
      · have hii : (i : Int) < d.kn := by omega
        obtain ⟨g1, o1, hka, hg1, hcs⟩ := (HM.out.below hbw.out).at i hlt
        have kC := HC.out i hlt wr hbw.out
        have HT : Hid (F i = false → anyN (fun q => !F q) d.kn = true) := fun h => anyN_true.2 ⟨i, hlt, by show (!F i) = true; rw [h]; try rfl⟩
        have HFF : Hid (F i = true → anyN (fun q => !F q) (i + 1) = false) := fun h => by unfold anyN; rw [hno, h]; rfl
        obtain ⟨p0, p1, p2, p3, p4, p5, p6, p7, p8⟩ := hcs
        rw [hka] at x8
        generalize x i = dk at *
        clear hno hka
        cases hF : F i
        · rw [hF] at kC
          have HG : Hid _ := HT.out hF
          clear hF HT HFF
          go_wp2_with fail
          go_fit kC
          rintro e w5 ⟨rfl, b5⟩
          have B5 : Hid (Below W.heap.size W w5) := hbw.out.trans (b5.mono hbw.out.size)
          clear b5 kC
          go_wp2
          go_ret
          exact ⟨ret_bool (by rw [HE.out, HG.out]; try rfl), HB.out.trans (B5.out.mono HB.out.size)⟩
        · rw [hF] at kC
          have HG : Hid _ := HFF.out hF
          clear hF HT HFF
          go_wp2_with fail
          go_fit kC
          rintro e w5 ⟨rfl, b5⟩
          have B5 : Hid (Below W.heap.size W w5) := hbw.out.trans (b5.mono hbw.out.size)
          clear b5 kC
          go_wp2
          exact ⟨⟨i + 1, by go_num, by omega, HG.out, B5⟩, by simp [RowKit.intOf]; omega⟩
      · have hii : ¬ (i : Int) < d.kn := by omega
        obtain rfl : i = d.kn := by omega
        have HN : Hid _ := hno
        clear hno
        go_wp2
        go_ret
        exact ⟨ret_bool (by rw [HE.out, HN.out]; try rfl), HB.out.trans (hbw.out.mono HB.out.size)⟩
  by_cases k5 : (t []).kind = 5
  · have HM : Hid (Kmb (w.alloc (ndX (t []))).heap.size (w.alloc (ndX (t []))) (t []).ka (fun j => t [j]) (t []).kn) := ht1.kids
    have HE : Hid (holF (m + 1) t = anyN (fun q => holF m (kid t q)) (t []).kn) := by unfold Hid; rw [HEQ.out, if_neg k2, if_neg k4, if_pos k5]
    obtain ⟨x0, x1, x2, x3, x4, x5, x6, x7, x8⟩ := x
    simp only [Nat.zero_add] at x0 x1 x2 x3 x4 x5 x6 x7 x8
    rw [k5] at x0
    obtain ⟨W, hW⟩ : ∃ W, W = w.alloc (ndX (t [])) := ⟨_, rfl⟩
    rw [← hW] at x0 x1 x2 x3 x4 x5 x6 x7 x8 HB hC HM
    have HW : Hid (w.alloc (ndX (t [])) = W) := hW.symm
    clear HEQ ht1 hb ht hk hIH hW k5 k4 k2 hkd hnd
    generalize holF (m + 1) t = A at *
    obtain ⟨F, hF⟩ : ∃ F : Nat → Bool, F = fun q => holF m (kid t q) := ⟨_, rfl⟩
    have HC : Hid (∀ j, j < (t []).kn → ∀ V, Below W.heap.size W V → Calls Tryz.prog 23 #[ndV (t [j])] V fun e w' => e = .returned (.bool (F j)) ∧ Below V.heap.size V w') := by rw [hF]; exact hC
    have HX : Hid (∀ V, Below W.heap.size W V → V.cell? ⟨w.heap.size, 8, none⟩ = some (.slice (t []).ka (t []).kn (t []).kc)) := fun V b => (b.cell (p := ⟨w.heap.size, 8, none⟩) (by rw [← HW.out, World.size_alloc]; show w.heap.size < _; omega)).trans x8
    have hnI : ((t []).kn : Int) ≤ 8194 := by omega
    obtain ⟨x, hx⟩ : ∃ x : Nat → Nd, x = fun j => t [j] := ⟨_, rfl⟩
    have hxj : ∀ j, t [j] = x j := fun j => by rw [hx]
    simp only [hxj] at HC HM
    rw [show (fun q => holF m (kid t q)) = (fun q => F q) by rw [hF]] at HE
    clear hC hF hx hxj hkn
    generalize t [] = d at *
    go_enter Tryz.func23, Tryz.ntmps23
    go_upto_region 1 with fail
    rw [HW.out]
    go_wp2_with fail
    go_loopw [4] (fun ivv w' => ∃ i : Nat, ivv = .int .i64 (i : Int) ∧ i ≤ d.kn ∧ anyN (fun q => F q) i = false ∧ Hid (Below W.heap.size W w')) (fun ivv _ => d.kn - (RowKit.intOf ivv).toNat)
    case atStart => exact ⟨0, rfl, Nat.zero_le _, rfl, Below.refl _ _⟩
    case round =>
      clear x0 x1 x2 x3 x4 x5 x6 x7 x8
      obtain ⟨i, rfl, hi, hno, hbw⟩ := hrel
      have x8 := HX.out wr hbw.out
      by_cases hlt : i < d.kn
      · have hii : (i : Int) < d.kn := by omega
        obtain ⟨g1, o1, hka, hg1, hcs⟩ := (HM.out.below hbw.out).at i hlt
        have kC := HC.out i hlt wr hbw.out
        have HT : Hid (F i = true → anyN (fun q => F q) d.kn = true) := fun h => anyN_true.2 ⟨i, hlt, by show (F i) = true; rw [h]; try rfl⟩
        have HFF : Hid (F i = false → anyN (fun q => F q) (i + 1) = false) := fun h => by unfold anyN; rw [hno, h]; rfl
        obtain ⟨p0, p1, p2, p3, p4, p5, p6, p7, p8⟩ := hcs
        rw [hka] at x8
        generalize x i = dk at *
        clear hno hka
        cases hF : F i
        · rw [hF] at kC
          have HG : Hid _ := HFF.out hF
          clear hF HT HFF
          go_wp2_with fail
          go_fit kC
          rintro e w5 ⟨rfl, b5⟩
          have B5 : Hid (Below W.heap.size W w5) := hbw.out.trans (b5.mono hbw.out.size)
          clear b5 kC
          go_wp2
          exact ⟨⟨i + 1, by go_num, by omega, HG.out, B5⟩, by simp [RowKit.intOf]; omega⟩
        · rw [hF] at kC
          have HG : Hid _ := HT.out hF
          clear hF HT HFF
          go_wp2_with fail
          go_fit kC
          rintro e w5 ⟨rfl, b5⟩
          have B5 : Hid (Below W.heap.size W w5) := hbw.out.trans (b5.mono hbw.out.size)
          clear b5 kC
          go_wp2
          go_ret
          exact ⟨ret_bool (by rw [HE.out, HG.out]), HB.out.trans (B5.out.mono HB.out.size)⟩
      · have hii : ¬ (i : Int) < d.kn := by omega
        obtain rfl : i = d.kn := by omega
        have HN : Hid _ := hno
        clear hno
        go_wp2
        go_ret
        exact ⟨ret_bool (by rw [HE.out, HN.out]), HB.out.trans (hbw.out.mono HB.out.size)⟩
  by_cases k6 : (t []).kind = 6
  · have h1 := ndB_rep hnd k6
    have HE : Hid (holF (m + 1) t = (decide ((t []).mn = 0) || holF m (kid t 0))) := by unfold Hid; rw [HEQ.out, if_neg k2, if_neg k4, if_neg k5, if_pos k6]
    have kC := hC 0 (by omega) _ (Below.refl _ _)
    obtain ⟨g, o, hka, hg, hcs⟩ := ht1.kids.at 0 (by omega)
    obtain ⟨p0, p1, p2, p3, p4, p5, p6, p7, p8⟩ := hcs
    simp only [Nat.zero_mul, Nat.add_zero] at p0 p1 p2 p3 p4 p5 p6 p7 p8
    obtain ⟨x0, x1, x2, x3, x4, x5, x6, x7, x8⟩ := x
    simp only [Nat.zero_add] at x0 x1 x2 x3 x4 x5 x6 x7 x8
    rw [hka, h1.1] at x8
    rw [k6] at x0
    obtain ⟨W, hW⟩ : ∃ W, W = w.alloc (ndX (t [])) := ⟨_, rfl⟩
    rw [← hW] at x0 x1 x2 x3 x4 x5 x6 x7 x8 p0 p1 p2 p3 p4 p5 p6 p7 p8 kC HB
    have HW : Hid (w.alloc (ndX (t [])) = W) := hW.symm
    clear HEQ hC ht1 hb ht hk hIH hka h1 hW k6 k5 k4 k2 hkd hnd
    generalize holF m (kid t 0) = R at *
    generalize holF (m + 1) t = A at *
    generalize t [0] = dk at *
    generalize t [] = d at *
    go_enter Tryz.func23, Tryz.ntmps23
    go_upto_region 1 with fail
    rw [HW.out]
    by_cases hm : d.mn = 0
    · have HE2 : Hid (A = true) := by unfold Hid; rw [HE.out, hm]; simp
      rw [hm] at x3
      clear HE kC
      go_wp2
      go_ret
      exact ⟨ret_bool (by rw [HE2.out]), HB.out⟩
    · have hmb : (d.mn == 0) = false := by simpa using hm
      have HE2 : Hid (A = R) := by unfold Hid; rw [HE.out, decide_eq_false hm]; rfl
      clear HE
      go_wp2_with fail
      go_fit kC
      rintro e w1 ⟨rfl, b1⟩
      have B1 : Hid _ := HB.out.trans (b1.mono HB.out.size)
      clear b1 kC
      go_wp2
      go_ret
      exact ⟨ret_bool (by rw [HE2.out]), B1.out⟩
  by_cases k7 : (t []).kind = 7
  · have h1 := ndB_grp hnd k7
    have HE : Hid (holF (m + 1) t = holF m (kid t 0)) := by unfold Hid; rw [HEQ.out, if_neg k2, if_neg k4, if_neg k5, if_neg k6, if_pos k7]
    have kC := hC 0 (by omega) _ (Below.refl _ _)
    obtain ⟨g, o, hka, hg, hcs⟩ := ht1.kids.at 0 (by omega)
    obtain ⟨p0, p1, p2, p3, p4, p5, p6, p7, p8⟩ := hcs
    simp only [Nat.zero_mul, Nat.add_zero] at p0 p1 p2 p3 p4 p5 p6 p7 p8
    obtain ⟨x0, x1, x2, x3, x4, x5, x6, x7, x8⟩ := x
    simp only [Nat.zero_add] at x0 x1 x2 x3 x4 x5 x6 x7 x8
    rw [hka, h1] at x8
    rw [k7] at x0
    obtain ⟨W, hW⟩ : ∃ W, W = w.alloc (ndX (t [])) := ⟨_, rfl⟩
    rw [← hW] at x0 x1 x2 x3 x4 x5 x6 x7 x8 p0 p1 p2 p3 p4 p5 p6 p7 p8 kC HB
    have HW : Hid (w.alloc (ndX (t [])) = W) := hW.symm
    clear HEQ hC ht1 hb ht hk hIH hka h1 hW k7 k6 k5 k4 k2 hkd hnd
    generalize holF m (kid t 0) = R at *
    generalize holF (m + 1) t = A at *
    generalize t [0] = dk at *
    generalize t [] = d at *
    go_enter Tryz.func23, Tryz.ntmps23
    go_upto_region 1 with fail
    rw [HW.out]
    go_wp2_with fail
    go_fit kC
    rintro e w1 ⟨rfl, b1⟩
    have B1 : Hid _ := HB.out.trans (b1.mono HB.out.size)
    clear b1 kC
    go_wp2
    go_ret
    exact ⟨ret_bool (by rw [HE.out]), B1.out⟩
  · have HE : Hid (holF (m + 1) t = true) := by unfold Hid; rw [HEQ.out, if_neg k2, if_neg k4, if_neg k5, if_neg k6, if_neg k7]
    have hq : ((t []).kind == 2) = false ∧ ((t []).kind == 3) = false ∧ ((t []).kind == 12) = false ∧ ((t []).kind == 4) = false ∧ ((t []).kind == 5) = false ∧ ((t []).kind == 6) = false ∧ ((t []).kind == 7) = false := by
      simp only [beq_eq_false_iff_ne, ne_eq]
      omega
    obtain ⟨q1, q2, q3, q4, q5, q6, q7⟩ := hq
    clear HEQ hC ht1 hb x ht hk hIH
    generalize holF (m + 1) t = A at *
    generalize t [] = d at *
    go_enter Tryz.func23, Tryz.ntmps23
    go_wp2
    go_ret
    exact ⟨ret_bool (by rw [HE.out]), HB.out⟩
theorem rhollow_any : ∀ m, RhC m
  | 0 => fun _ _ h => by cases h
  | m + 1 => rhollow_step m (rhollow_any m)
end Go.Proofs.YtbciclnffokjjaaGreatDoor
/- Hollow, both. -/
namespace Go.Proofs.YtbciclnffokjjaaGreatDoor
open Go.RowKit

set_option maxHeartbeats 1000000 in
set_option maxRecDepth 100000 in
theorem hollowP_any (t : Tr) (w : World) (ht : Tat w.heap.size w t) : Calls Tryz.prog 8 #[ndV (t [])] w fun e w' => e = .returned (.bool (okT t && holF 8195 t)) ∧ Below w.heap.size w w' := by
  have hb : Below w.heap.size w (w.alloc (ndX (t []))) := (Below.refl _ w).alloc (Nat.le_refl _) _
  have ht1 := (ht.below hb).mono hb.size
  have kV := valid_any t _ ht1
  have HB : Hid _ := hb
  cases hok : okT t
  · rw [hok] at kV
    clear ht ht1 hb hok
    generalize holF 8195 t = A at *
    generalize t [] = d at *
    go_enter Tryz.func8, Tryz.ntmps8
    go_wp2_with fail
    go_fit kV
    rintro e w1 ⟨rfl, b1⟩
    have B1 : Hid _ := HB.out.trans (b1.mono HB.out.size)
    clear b1 kV
    go_wp2
    go_ret
    exact ⟨ret_bool rfl, B1.out⟩
  · rw [hok] at kV
    have HC : Hid (∀ w1, Below (w.alloc (ndX (t []))).heap.size (w.alloc (ndX (t []))) w1 → (Calls Tryz.prog 17 #[ndV (t [])] w1 fun e w' => e = .returned (.bool (holF 8195 t)) ∧ Below w1.heap.size w1 w') ∧ Cs w1 w.heap.size 0 (t [])) := fun w1 b => ⟨hollow_any 8195 t w1 (WF_ok hok) ((ht1.below b).mono b.size), ndX_cells (w := w) (t []) b⟩
    clear ht ht1 hb hok
    generalize holF 8195 t = A at *
    generalize t [] = d at *
    go_enter Tryz.func8, Tryz.ntmps8
    go_wp2_with fail
    go_fit kV
    rintro e w1 ⟨rfl, b1⟩
    obtain ⟨kH, hc⟩ := HC.out w1 b1
    obtain ⟨q0, q1, q2, q3, q4, q5, q6, q7, q8⟩ := hc
    simp only [Nat.zero_add] at q0 q1 q2 q3 q4 q5 q6 q7 q8
    have B1 : Hid _ := HB.out.trans (b1.mono HB.out.size)
    clear b1 kV HC
    go_wp2_with fail
    go_fit kH
    rintro e w2 ⟨rfl, b2⟩
    have B2 : Hid _ := B1.out.trans (b2.mono B1.out.size)
    clear b2 kH
    go_wp2
    go_ret
    exact ⟨ret_bool (by simp), B2.out⟩

set_option maxHeartbeats 1000000 in
set_option maxRecDepth 100000 in
theorem hollowR_any (t : Tr) (w : World) (ht : Tat w.heap.size w t) : Calls Tryz.prog 11 #[ndV (t [])] w fun e w' => e = .returned (.bool (okT t && holF 8195 t)) ∧ Below w.heap.size w w' := by
  have hb : Below w.heap.size w (w.alloc (ndX (t []))) := (Below.refl _ w).alloc (Nat.le_refl _) _
  have ht1 := (ht.below hb).mono hb.size
  have kV := rvalid_any t _ ht1
  have HB : Hid _ := hb
  cases hok : okT t
  · rw [hok] at kV
    clear ht ht1 hb hok
    generalize holF 8195 t = A at *
    generalize t [] = d at *
    go_enter Tryz.func11, Tryz.ntmps11
    go_wp2_with fail
    go_fit kV
    rintro e w1 ⟨rfl, b1⟩
    have B1 : Hid _ := HB.out.trans (b1.mono HB.out.size)
    clear b1 kV
    go_wp2
    go_ret
    exact ⟨ret_bool rfl, B1.out⟩
  · rw [hok] at kV
    have HC : Hid (∀ w1, Below (w.alloc (ndX (t []))).heap.size (w.alloc (ndX (t []))) w1 → (Calls Tryz.prog 23 #[ndV (t [])] w1 fun e w' => e = .returned (.bool (holF 8195 t)) ∧ Below w1.heap.size w1 w') ∧ Cs w1 w.heap.size 0 (t [])) := fun w1 b => ⟨rhollow_any 8195 t w1 (WF_ok hok) ((ht1.below b).mono b.size), ndX_cells (w := w) (t []) b⟩
    clear ht ht1 hb hok
    generalize holF 8195 t = A at *
    generalize t [] = d at *
    go_enter Tryz.func11, Tryz.ntmps11
    go_wp2_with fail
    go_fit kV
    rintro e w1 ⟨rfl, b1⟩
    obtain ⟨kH, hc⟩ := HC.out w1 b1
    obtain ⟨q0, q1, q2, q3, q4, q5, q6, q7, q8⟩ := hc
    simp only [Nat.zero_add] at q0 q1 q2 q3 q4 q5 q6 q7 q8
    have B1 : Hid _ := HB.out.trans (b1.mono HB.out.size)
    clear b1 kV HC
    go_wp2_with fail
    go_fit kH
    rintro e w2 ⟨rfl, b2⟩
    have B2 : Hid _ := B1.out.trans (b2.mono B1.out.size)
    clear b2 kH
    go_wp2
    go_ret
    exact ⟨ret_bool (by simp), B2.out⟩
end Go.Proofs.YtbciclnffokjjaaGreatDoor
