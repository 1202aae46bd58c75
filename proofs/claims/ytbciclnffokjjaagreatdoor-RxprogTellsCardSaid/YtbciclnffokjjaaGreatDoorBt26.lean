/- A bundle of texts. -/
import Derived.Test.YtbciclnffokjjaaGreatDoorBt25
import Derived.Test.YtbciclnffokjjaaGreatDoorBt24
/- Hollow: the program's. -/
namespace Go.Proofs.YtbciclnffokjjaaGreatDoor
open Go.RowKit

def holF : Nat → Tr → Bool
  | 0, _ => true
  | m + 1, t =>
    if (t []).kind = 2 ∨ (t []).kind = 3 ∨ (t []).kind = 12 then false
    else if (t []).kind = 4 then !anyN (fun q => !holF m (kid t q)) (t []).kn
    else if (t []).kind = 5 then anyN (fun q => holF m (kid t q)) (t []).kn
    else if (t []).kind = 6 then decide ((t []).mn = 0) || holF m (kid t 0)
    else if (t []).kind = 7 then holF m (kid t 0)
    else true
def HlC (m : Nat) : Prop := ∀ (t : Tr) (w : World), WF m t → Tat w.heap.size w t → Calls Tryz.prog 17 #[ndV (t [])] w fun e w' => e = .returned (.bool (holF m t)) ∧ Below w.heap.size w w'
set_option maxHeartbeats 2000000 in
set_option maxRecDepth 100000 in
theorem holFunc_any (F : Nat → Bool) (x : Nat → Nd) (a : Option Addr) (n c : Nat) (w : World) (hn : n ≤ 8194) (hm : Kmb w.heap.size w a x n) (hC : ∀ j, j < n → ∀ V, Below w.heap.size w V → Calls Tryz.prog 17 #[ndV (x j)] V fun e w' => e = .returned (.bool (F j)) ∧ Below V.heap.size V w') :
    Calls Tryz.prog 50 #[.slice a n c, .func (.func 17) #[] #[]] w fun e w' => (∃ i : Int, e = .returned (.int .i64 i) ∧ decide (0 ≤ i) = anyN F n) ∧ Below w.heap.size w w' := by
  have HM : Hid (Kmb w.heap.size w a x n) := hm
  have HC : Hid (∀ j, j < n → ∀ V, Below w.heap.size w V → Calls Tryz.prog 17 #[ndV (x j)] V fun e w' => e = .returned (.bool (F j)) ∧ Below V.heap.size V w') := hC
  have hnI : (n : Int) ≤ 8194 := by omega
  clear hm hC
  go_enter Tryz.func50, Tryz.ntmps50
  go_wp2_with fail
  go_loopw [8] (fun ivv w' => ∃ i : Nat, ivv = .int .i64 (i : Int) ∧ i ≤ n ∧ anyN F i = false ∧ Hid (Below w.heap.size w w')) (fun ivv _ => n - (RowKit.intOf ivv).toNat)
  case atStart => exact ⟨0, rfl, Nat.zero_le _, rfl, Below.refl _ _⟩
  case round =>
    obtain ⟨i, rfl, hi, hno, hbw⟩ := hrel
    by_cases hlt : i < n
    · have hii : (i : Int) < n := by omega
      obtain ⟨g1, o1, hka, hg1, hcs⟩ := (HM.out.below hbw.out).at i hlt
      have kC := HC.out i hlt wr hbw.out
      have HT : Hid (F i = true → anyN F n = true) := fun h => anyN_true.2 ⟨i, hlt, h⟩
      have HFF : Hid (F i = false → anyN F (i + 1) = false) := fun h => by unfold anyN; rw [hno, h]; rfl
      obtain ⟨p0, p1, p2, p3, p4, p5, p6, p7, p8⟩ := hcs
      subst hka
      generalize x i = dk at *
      clear hno
      cases hF : F i
      · rw [hF] at kC
        have HG : Hid _ := HFF.out hF
        clear hF HT HFF
        go_wp2_with fail
        go_fit kC
        rintro e w5 ⟨rfl, b5⟩
        have B5 : Hid (Below w.heap.size w w5) := hbw.out.trans (b5.mono hbw.out.size)
        clear b5 kC
        go_wp2
        exact ⟨⟨i + 1, by go_num, by omega, HG.out, B5⟩, by simp [RowKit.intOf]; omega⟩
      · rw [hF] at kC
        have HG : Hid _ := HT.out hF
        clear hF HT HFF
        go_wp2_with fail
        go_fit kC
        rintro e w5 ⟨rfl, b5⟩
        have B5 : Hid (Below w.heap.size w w5) := hbw.out.trans (b5.mono hbw.out.size)
        clear b5 kC
        go_wp2
        go_ret
        exact ⟨⟨i, rfl, by rw [HG.out]; simp⟩, B5.out⟩
    · have hii : ¬ (i : Int) < n := by omega
      obtain rfl : i = n := by omega
      have HN : Hid _ := hno
      clear hno
      go_wp2
      go_ret
      exact ⟨⟨-1, rfl, by rw [HN.out]; rfl⟩, hbw.out⟩

set_option maxHeartbeats 1000000 in
set_option maxRecDepth 100000 in
theorem holAny_any (F : Nat → Bool) (x : Nat → Nd) (a : Option Addr) (n c : Nat) (w : World) (hn : n ≤ 8194) (hm : Kmb w.heap.size w a x n) (hC : ∀ j, j < n → ∀ V, Below w.heap.size w V → Calls Tryz.prog 17 #[ndV (x j)] V fun e w' => e = .returned (.bool (F j)) ∧ Below V.heap.size V w') :
    Calls Tryz.prog 25 #[.slice a n c, .func (.func 17) #[] #[]] w fun e w' => e = .returned (.bool (anyN F n)) ∧ Below w.heap.size w w' := by
  have kI := holFunc_any F x a n c w hn hm hC
  clear hm hC
  go_enter Tryz.func25, Tryz.ntmps25
  go_wp2_with fail
  go_fit kI
  rintro e w1 ⟨⟨i, rfl, hi⟩, b1⟩
  have B1 : Hid _ := b1
  have HI : Hid _ := hi
  clear b1 hi
  go_wp2
  go_ret
  exact ⟨ret_bool (by rw [← HI.out]), B1.out⟩

set_option maxHeartbeats 2000000 in
set_option maxRecDepth 100000 in
theorem solFunc_any (F : Nat → Bool) (x : Nat → Nd) (a : Option Addr) (n c : Nat) (w : World) (hn : n ≤ 8194) (hm : Kmb w.heap.size w a x n) (hC : ∀ j, j < n → ∀ V, Below w.heap.size w V → Calls Tryz.prog 38 #[ndV (x j)] V fun e w' => e = .returned (.bool (F j)) ∧ Below V.heap.size V w') :
    Calls Tryz.prog 50 #[.slice a n c, .func (.func 38) #[] #[]] w fun e w' => (∃ i : Int, e = .returned (.int .i64 i) ∧ decide (0 ≤ i) = anyN F n) ∧ Below w.heap.size w w' := by
  have HM : Hid (Kmb w.heap.size w a x n) := hm
  have HC : Hid (∀ j, j < n → ∀ V, Below w.heap.size w V → Calls Tryz.prog 38 #[ndV (x j)] V fun e w' => e = .returned (.bool (F j)) ∧ Below V.heap.size V w') := hC
  have hnI : (n : Int) ≤ 8194 := by omega
  clear hm hC
  go_enter Tryz.func50, Tryz.ntmps50
  go_wp2_with fail
  go_loopw [8] (fun ivv w' => ∃ i : Nat, ivv = .int .i64 (i : Int) ∧ i ≤ n ∧ anyN F i = false ∧ Hid (Below w.heap.size w w')) (fun ivv _ => n - (RowKit.intOf ivv).toNat)
  case atStart => exact ⟨0, rfl, Nat.zero_le _, rfl, Below.refl _ _⟩
  case round =>
    obtain ⟨i, rfl, hi, hno, hbw⟩ := hrel
    by_cases hlt : i < n
    · have hii : (i : Int) < n := by omega
      obtain ⟨g1, o1, hka, hg1, hcs⟩ := (HM.out.below hbw.out).at i hlt
      have kC := HC.out i hlt wr hbw.out
      have HT : Hid (F i = true → anyN F n = true) := fun h => anyN_true.2 ⟨i, hlt, h⟩
      have HFF : Hid (F i = false → anyN F (i + 1) = false) := fun h => by unfold anyN; rw [hno, h]; rfl
      obtain ⟨p0, p1, p2, p3, p4, p5, p6, p7, p8⟩ := hcs
      subst hka
      generalize x i = dk at *
      clear hno
      cases hF : F i
      · rw [hF] at kC
        have HG : Hid _ := HFF.out hF
        clear hF HT HFF
        go_wp2_with fail
        go_fit kC
        rintro e w5 ⟨rfl, b5⟩
        have B5 : Hid (Below w.heap.size w w5) := hbw.out.trans (b5.mono hbw.out.size)
        clear b5 kC
        go_wp2
        exact ⟨⟨i + 1, by go_num, by omega, HG.out, B5⟩, by simp [RowKit.intOf]; omega⟩
      · rw [hF] at kC
        have HG : Hid _ := HT.out hF
        clear hF HT HFF
        go_wp2_with fail
        go_fit kC
        rintro e w5 ⟨rfl, b5⟩
        have B5 : Hid (Below w.heap.size w w5) := hbw.out.trans (b5.mono hbw.out.size)
        clear b5 kC
        go_wp2
        go_ret
        exact ⟨⟨i, rfl, by rw [HG.out]; simp⟩, B5.out⟩
    · have hii : ¬ (i : Int) < n := by omega
      obtain rfl : i = n := by omega
      have HN : Hid _ := hno
      clear hno
      go_wp2
      go_ret
      exact ⟨⟨-1, rfl, by rw [HN.out]; rfl⟩, hbw.out⟩

set_option maxHeartbeats 1000000 in
set_option maxRecDepth 100000 in
theorem solAny_any (F : Nat → Bool) (x : Nat → Nd) (a : Option Addr) (n c : Nat) (w : World) (hn : n ≤ 8194) (hm : Kmb w.heap.size w a x n) (hC : ∀ j, j < n → ∀ V, Below w.heap.size w V → Calls Tryz.prog 38 #[ndV (x j)] V fun e w' => e = .returned (.bool (F j)) ∧ Below V.heap.size V w') :
    Calls Tryz.prog 25 #[.slice a n c, .func (.func 38) #[] #[]] w fun e w' => e = .returned (.bool (anyN F n)) ∧ Below w.heap.size w w' := by
  have kI := solFunc_any F x a n c w hn hm hC
  clear hm hC
  go_enter Tryz.func25, Tryz.ntmps25
  go_wp2_with fail
  go_fit kI
  rintro e w1 ⟨⟨i, rfl, hi⟩, b1⟩
  have B1 : Hid _ := b1
  have HI : Hid _ := hi
  clear b1 hi
  go_wp2
  go_ret
  exact ⟨ret_bool (by rw [← HI.out]), B1.out⟩


set_option maxHeartbeats 1000000 in
set_option maxRecDepth 100000 in
theorem solid_of (d : Nd) (b : Bool) (w : World) (k : ∀ V, Below w.heap.size w V → Calls Tryz.prog 17 #[ndV d] V fun e w' => e = .returned (.bool b) ∧ Below V.heap.size V w') : Calls Tryz.prog 38 #[ndV d] w fun e w' => e = .returned (.bool (!b)) ∧ Below w.heap.size w w' := by
  have hb : Below w.heap.size w (w.alloc (ndX d)) := (Below.refl _ w).alloc (Nat.le_refl _) _
  have kK := k _ hb
  have HB : Hid _ := hb
  clear hb k
  go_enter Tryz.func38, Tryz.ntmps38
  go_wp2_with fail
  go_fit kK
  rintro e w1 ⟨rfl, b1⟩
  have B1 : Hid _ := HB.out.trans (b1.mono HB.out.size)
  clear b1 kK
  go_wp2
  go_ret
  exact ⟨ret_bool rfl, B1.out⟩
set_option maxHeartbeats 4000000 in
set_option maxRecDepth 100000 in
theorem hollow_step (m : Nat) (hIH : HlC m) : HlC (m + 1) := by
  intro t w hw ht
  obtain ⟨⟨hnd, _⟩, hkn, hk⟩ := hw
  have hkd := ndB_kind hnd
  have hb : Below w.heap.size w (w.alloc (ndX (t []))) := (Below.refl _ w).alloc (Nat.le_refl _) _
  have ht1 := (ht.below hb).mono hb.size
  have hC : ∀ j, j < (t []).kn → ∀ V, Below (w.alloc (ndX (t []))).heap.size (w.alloc (ndX (t []))) V → Calls Tryz.prog 17 #[ndV (t [j])] V fun e w' => e = .returned (.bool (holF m (kid t j))) ∧ Below V.heap.size V w' := fun j hj V b => hIH (kid t j) V (hk j hj) (((ht1.kid j hj).below b).mono b.size)
  have HB : Hid _ := hb
  have x := box_lo w (t []) (Below.refl _ (w.alloc (ndX (t []))))
  have HEQ : Hid (holF (m + 1) t = (if (t []).kind = 2 ∨ (t []).kind = 3 ∨ (t []).kind = 12 then false
    else if (t []).kind = 4 then !anyN (fun q => !holF m (kid t q)) (t []).kn
    else if (t []).kind = 5 then anyN (fun q => holF m (kid t q)) (t []).kn
    else if (t []).kind = 6 then decide ((t []).mn = 0) || holF m (kid t 0)
    else if (t []).kind = 7 then holF m (kid t 0)
    else true)) := rfl
  by_cases k2 : (t []).kind = 2 ∨ (t []).kind = 3 ∨ (t []).kind = 12
  · have HE : Hid (holF (m + 1) t = false) := by unfold Hid; rw [HEQ.out, if_pos k2]
    clear HEQ hC ht1 hb ht hk hIH
    generalize holF (m + 1) t = A at *
    rcases k2 with k | k | k
    · obtain ⟨x0, x1, x2, x3, x4, x5, x6, x7, x8⟩ := x
      simp only [Nat.zero_add] at x0 x1 x2 x3 x4 x5 x6 x7 x8
      rw [k] at x0
      obtain ⟨W, hW⟩ : ∃ W, W = w.alloc (ndX (t [])) := ⟨_, rfl⟩
      rw [← hW] at x0 x1 x2 x3 x4 x5 x6 x7 x8 HB
      have HW : Hid (w.alloc (ndX (t [])) = W) := hW.symm
      clear hW k hkd hnd
      generalize t [] = d at *
      go_enter Tryz.func17, Tryz.ntmps17
      go_upto_region 1 with fail
      rw [HW.out]
      go_wp2
      go_ret
      exact ⟨ret_bool (by rw [HE.out]), HB.out⟩
    · obtain ⟨x0, x1, x2, x3, x4, x5, x6, x7, x8⟩ := x
      simp only [Nat.zero_add] at x0 x1 x2 x3 x4 x5 x6 x7 x8
      rw [k] at x0
      obtain ⟨W, hW⟩ : ∃ W, W = w.alloc (ndX (t [])) := ⟨_, rfl⟩
      rw [← hW] at x0 x1 x2 x3 x4 x5 x6 x7 x8 HB
      have HW : Hid (w.alloc (ndX (t [])) = W) := hW.symm
      clear hW k hkd hnd
      generalize t [] = d at *
      go_enter Tryz.func17, Tryz.ntmps17
      go_upto_region 1 with fail
      rw [HW.out]
      go_wp2
      go_ret
      exact ⟨ret_bool (by rw [HE.out]), HB.out⟩
    · obtain ⟨x0, x1, x2, x3, x4, x5, x6, x7, x8⟩ := x
      simp only [Nat.zero_add] at x0 x1 x2 x3 x4 x5 x6 x7 x8
      rw [k] at x0
      obtain ⟨W, hW⟩ : ∃ W, W = w.alloc (ndX (t [])) := ⟨_, rfl⟩
      rw [← hW] at x0 x1 x2 x3 x4 x5 x6 x7 x8 HB
      have HW : Hid (w.alloc (ndX (t [])) = W) := hW.symm
      clear hW k hkd hnd
      generalize t [] = d at *
      go_enter Tryz.func17, Tryz.ntmps17
      go_upto_region 1 with fail
      rw [HW.out]
      go_wp2
      go_ret
      exact ⟨ret_bool (by rw [HE.out]), HB.out⟩
  by_cases k4 : (t []).kind = 4
  · have kS := solAny_any (fun q => !holF m (kid t q)) (fun j => t [j]) (t []).ka (t []).kn (t []).kc (w.alloc (ndX (t []))) hkn ht1.kids (fun j hj V b => solid_of _ _ V (fun V' b' => hC j hj V' (b.trans (b'.mono b.size))))
    have HE : Hid (holF (m + 1) t = !anyN (fun q => !holF m (kid t q)) (t []).kn) := by unfold Hid; rw [HEQ.out, if_neg k2, if_pos k4]
    obtain ⟨x0, x1, x2, x3, x4, x5, x6, x7, x8⟩ := x
    simp only [Nat.zero_add] at x0 x1 x2 x3 x4 x5 x6 x7 x8
    rw [k4] at x0
    obtain ⟨W, hW⟩ : ∃ W, W = w.alloc (ndX (t [])) := ⟨_, rfl⟩
    rw [← hW] at x0 x1 x2 x3 x4 x5 x6 x7 x8 HB kS
    have HW : Hid (w.alloc (ndX (t [])) = W) := hW.symm
    clear HEQ hC ht1 hb ht hk hIH hW k4 k2 hkd hnd
    generalize anyN (fun q => !holF m (kid t q)) (t []).kn = S at *
    generalize holF (m + 1) t = A at *
    generalize t [] = d at *
    go_enter Tryz.func17, Tryz.ntmps17
    go_upto_region 1 with fail
    rw [HW.out]
    go_wp2_with fail
    go_fit kS
    rintro e w1 ⟨rfl, b1⟩
    have B1 : Hid _ := HB.out.trans (b1.mono HB.out.size)
    clear b1 kS
    go_wp2
    go_ret
    exact ⟨ret_bool (by rw [HE.out]), B1.out⟩
  by_cases k5 : (t []).kind = 5
  · have kS := holAny_any (fun q => holF m (kid t q)) (fun j => t [j]) (t []).ka (t []).kn (t []).kc (w.alloc (ndX (t []))) hkn ht1.kids (fun j hj V b => hC j hj V b)
    have HE : Hid (holF (m + 1) t = anyN (fun q => holF m (kid t q)) (t []).kn) := by unfold Hid; rw [HEQ.out, if_neg k2, if_neg k4, if_pos k5]
    obtain ⟨x0, x1, x2, x3, x4, x5, x6, x7, x8⟩ := x
    simp only [Nat.zero_add] at x0 x1 x2 x3 x4 x5 x6 x7 x8
    rw [k5] at x0
    obtain ⟨W, hW⟩ : ∃ W, W = w.alloc (ndX (t [])) := ⟨_, rfl⟩
    rw [← hW] at x0 x1 x2 x3 x4 x5 x6 x7 x8 HB kS
    have HW : Hid (w.alloc (ndX (t [])) = W) := hW.symm
    clear HEQ hC ht1 hb ht hk hIH hW k5 k2 hkd hnd k4
    generalize anyN (fun q => holF m (kid t q)) (t []).kn = S at *
    generalize holF (m + 1) t = A at *
    generalize t [] = d at *
    go_enter Tryz.func17, Tryz.ntmps17
    go_upto_region 1 with fail
    rw [HW.out]
    go_wp2_with fail
    go_fit kS
    rintro e w1 ⟨rfl, b1⟩
    have B1 : Hid _ := HB.out.trans (b1.mono HB.out.size)
    clear b1 kS
    go_wp2
    go_ret
    exact ⟨ret_bool (by rw [HE.out]), B1.out⟩
  by_cases k6 : (t []).kind = 6
  · have h1 := ndB_rep hnd k6
    have HE : Hid (holF (m + 1) t = (decide ((t []).mn = 0) || holF m (kid t 0))) := by unfold Hid; rw [HEQ.out, if_neg k2, if_neg k4, if_neg k5, if_pos k6]
    have kC := hC 0 (by omega) _ (Below.refl _ _)
    obtain ⟨g, o, hka, hg, hcs⟩ := ht1.kids.at 0 (by omega)
    obtain ⟨p0, p1, p2, p3, p4, p5, p6, p7, p8⟩ := hcs
    simp only [Nat.zero_mul, Nat.add_zero] at p0 p1 p2 p3 p4 p5 p6 p7 p8
    obtain ⟨x0, x1, x2, x3, x4, x5, x6, x7, x8⟩ := x
    simp only [Nat.zero_add] at x0 x1 x2 x3 x4 x5 x6 x7 x8
    rw [hka, h1.1] at x8
    rw [k6] at x0
    obtain ⟨W, hW⟩ : ∃ W, W = w.alloc (ndX (t [])) := ⟨_, rfl⟩
    rw [← hW] at x0 x1 x2 x3 x4 x5 x6 x7 x8 p0 p1 p2 p3 p4 p5 p6 p7 p8 kC HB
    have HW : Hid (w.alloc (ndX (t [])) = W) := hW.symm
    clear HEQ hC ht1 hb ht hk hIH hka h1 hW k6 k5 k4 k2 hkd hnd
    generalize holF m (kid t 0) = R at *
    generalize holF (m + 1) t = A at *
    generalize t [0] = dk at *
    generalize t [] = d at *
    go_enter Tryz.func17, Tryz.ntmps17
    go_upto_region 1 with fail
    rw [HW.out]
    by_cases hm : d.mn = 0
    · have HE2 : Hid (A = true) := by unfold Hid; rw [HE.out, hm]; simp
      rw [hm] at x3
      clear HE kC
      go_wp2
      go_ret
      exact ⟨ret_bool (by rw [HE2.out]), HB.out⟩
    · have hmb : (d.mn == 0) = false := by simpa using hm
      have HE2 : Hid (A = R) := by unfold Hid; rw [HE.out, decide_eq_false hm]; rfl
      clear HE
      go_wp2_with fail
      go_fit kC
      rintro e w1 ⟨rfl, b1⟩
      have B1 : Hid _ := HB.out.trans (b1.mono HB.out.size)
      clear b1 kC
      go_wp2
      go_ret
      exact ⟨ret_bool (by rw [HE2.out]), B1.out⟩
  by_cases k7 : (t []).kind = 7
  · have h1 := ndB_grp hnd k7
    have HE : Hid (holF (m + 1) t = holF m (kid t 0)) := by unfold Hid; rw [HEQ.out, if_neg k2, if_neg k4, if_neg k5, if_neg k6, if_pos k7]
    have kC := hC 0 (by omega) _ (Below.refl _ _)
    obtain ⟨g, o, hka, hg, hcs⟩ := ht1.kids.at 0 (by omega)
    obtain ⟨p0, p1, p2, p3, p4, p5, p6, p7, p8⟩ := hcs
    simp only [Nat.zero_mul, Nat.add_zero] at p0 p1 p2 p3 p4 p5 p6 p7 p8
    obtain ⟨x0, x1, x2, x3, x4, x5, x6, x7, x8⟩ := x
    simp only [Nat.zero_add] at x0 x1 x2 x3 x4 x5 x6 x7 x8
    rw [hka, h1] at x8
    rw [k7] at x0
    obtain ⟨W, hW⟩ : ∃ W, W = w.alloc (ndX (t [])) := ⟨_, rfl⟩
    rw [← hW] at x0 x1 x2 x3 x4 x5 x6 x7 x8 p0 p1 p2 p3 p4 p5 p6 p7 p8 kC HB
    have HW : Hid (w.alloc (ndX (t [])) = W) := hW.symm
    clear HEQ hC ht1 hb ht hk hIH hka h1 hW k7 k6 k5 k4 k2 hkd hnd
    generalize holF m (kid t 0) = R at *
    generalize holF (m + 1) t = A at *
    generalize t [0] = dk at *
    generalize t [] = d at *
    go_enter Tryz.func17, Tryz.ntmps17
    go_upto_region 1 with fail
    rw [HW.out]
    go_wp2_with fail
    go_fit kC
    rintro e w1 ⟨rfl, b1⟩
    have B1 : Hid _ := HB.out.trans (b1.mono HB.out.size)
    clear b1 kC
    go_wp2
    go_ret
    exact ⟨ret_bool (by rw [HE.out]), B1.out⟩
  · have HE : Hid (holF (m + 1) t = true) := by unfold Hid; rw [HEQ.out, if_neg k2, if_neg k4, if_neg k5, if_neg k6, if_neg k7]
    have hq : ((t []).kind == 2) = false ∧ ((t []).kind == 3) = false ∧ ((t []).kind == 12) = false ∧ ((t []).kind == 4) = false ∧ ((t []).kind == 5) = false ∧ ((t []).kind == 6) = false ∧ ((t []).kind == 7) = false := by
      simp only [beq_eq_false_iff_ne, ne_eq]
      omega
    obtain ⟨q1, q2, q3, q4, q5, q6, q7⟩ := hq
    clear HEQ hC ht1 hb x ht hk hIH
    generalize holF (m + 1) t = A at *
    generalize t [] = d at *
    go_enter Tryz.func17, Tryz.ntmps17
    go_wp2
    go_ret
    exact ⟨ret_bool (by rw [HE.out]), HB.out⟩
theorem hollow_any : ∀ m, HlC m
  | 0 => fun _ _ h => by cases h
  | m + 1 => hollow_step m (hollow_any m)
end Go.Proofs.YtbciclnffokjjaaGreatDoor
/- The trees a and of the empty text. -/
namespace Go.Proofs.YtbciclnffokjjaaGreatDoor
open Go.RowKit Go.Lib

def ltN : Nd := ⟨2, 97, none, 0, 0, fun _ => (0, 0), 0, 0, false, 0, ⟨#[]⟩, none, 0, 0⟩
def ltT : Tr := topT ltN (fun _ _ => nd0)
theorem ltT_root : ltT [] = ltN := rfl
theorem ltN_ok : ndB ltN = true := by kernel_rfl
theorem vd_lt (m : Nat) (op : Int) (s : St) (h : s.k + 1 ≤ 8194) (ho : op ≤ 250) : vd (m + 1) ltT op s = some { s with k := s.k + 1 } := by
  unfold vd
  rw [ltT_root, if_neg (by
    rintro (h1 | h1 | h1)
    · omega
    · omega
    · rw [ltN_ok] at h1; cases h1)]
  rfl
theorem len_lt (m : Nat) : lenF (m + 1) ltT = 1 := by
  unfold lenF
  rw [ltT_root]
  have : lenK ltN (sumN (fun j => lenF m (kid ltT j)) ltN.kn) = 1 := by
    unfold lenK
    rw [if_neg (by decide), if_neg (by decide), if_neg (by decide), if_neg (by decide)]
  rw [this]
  decide
theorem fr_lt (m : Nat) : frF cmC (m + 1) ltT = ([97], true) := by
  unfold frF
  rw [ltT_root, if_pos (by rfl), if_pos (by decide)]
  have : (Utf8.encode ltN.r).data.toList = [97] := by decide
  rw [this]
theorem lt_at (B : Nat) (W : World) : Tat B W ltT :=
  topT_at (by decide) (.inl rfl) (.inl rfl) (fun j hj => absurd hj (Nat.not_lt_zero _))
theorem ok_lt : okT ltT = true := by
  unfold okT svd
  rw [show vd 8195 ltT 0 s0 = some { s0 with k := s0.k + 1 } from vd_lt 8194 0 s0 (by decide) (by decide)]
  rfl
theorem siz_lt : sizF ltT = 2 := by
  unfold sizF
  rw [if_pos ok_lt, show lenF 8195 ltT = 1 from len_lt 8194]
  decide
theorem pre_lt : preF ltT = [97] := by
  unfold preF
  rw [siz_lt, if_pos (by decide), show frF cmC 8195 ltT = ([97], true) from fr_lt 8194]
theorem wrd_lt : wrdF 8195 ltT = some [⟨#[97]⟩] := by
  show wrdF (8194 + 1) ltT = _
  unfold wrdF
  rw [ltT_root, if_neg (by decide), if_pos (by rfl)]
  decide
theorem ask_lt : askF 8195 ltT = false := by
  show askF (8194 + 1) ltT = _
  unfold askF
  rw [ltT_root]
  rfl
theorem wds_lt : wdsF ltT = some [⟨#[97]⟩] := by
  unfold wdsF
  rw [siz_lt, if_pos (by decide), ask_lt, if_neg (by decide), wrd_lt]
def emN : Nd := ⟨1, 0, none, 0, 0, fun _ => (0, 0), 0, 0, false, 0, ⟨#[]⟩, none, 0, 0⟩
def emT : Tr := topT emN (fun _ _ => nd0)
theorem emT_root : emT [] = emN := rfl
theorem emN_ok : ndB emN = true := by kernel_rfl
theorem vd_em (m : Nat) (op : Int) (s : St) (h : s.k + 1 ≤ 8194) (ho : op ≤ 250) : vd (m + 1) emT op s = some { s with k := s.k + 1 } := by
  unfold vd
  rw [emT_root, if_neg (by
    rintro (h1 | h1 | h1)
    · omega
    · omega
    · rw [emN_ok] at h1; cases h1)]
  rfl
theorem ok_em : okT emT = true := by
  unfold okT svd
  rw [show vd 8195 emT 0 s0 = some { s0 with k := s0.k + 1 } from vd_em 8194 0 s0 (by decide) (by decide)]
  rfl
theorem hol_em : holF 8195 emT = true := by
  show holF (8194 + 1) emT = _
  unfold holF
  rw [emT_root, if_neg (by decide), if_neg (by decide), if_neg (by decide), if_neg (by decide), if_neg (by decide)]
theorem em_at (B : Nat) (W : World) : Tat B W emT :=
  topT_at (by decide) (.inl rfl) (.inl rfl) (fun j hj => absurd hj (Nat.not_lt_zero _))
end Go.Proofs.YtbciclnffokjjaaGreatDoor
