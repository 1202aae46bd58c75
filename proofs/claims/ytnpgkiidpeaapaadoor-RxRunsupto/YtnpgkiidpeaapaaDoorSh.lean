/- RxprogSounds: the reference's Sound. -/
import Derived.Test.YtnpgkiidpeaapaaDoorSg
namespace Go.Proofs.YtnpgkiidpeaapaaDoor
open Go.RowKit

set_option maxHeartbeats 4000000 in
set_option maxRecDepth 100000 in
theorem rSound_any (ia : Option Addr) (n ic : Nat) (st gr : Int) (na : Option Addr) (nn nc : Nat) (x : Nat → In) (w : World) (hI : Nml w ia x n) (hn : n ≤ 1152921504606846976) (hnn : nn ≤ 1152921504606846976) :
    Calls Tryd.prog 13 #[prV ia n ic st gr na nn nc] w fun r w' => r = .returned (.bool (SdB x n st gr nn)) ∧ Below w.heap.size w w' := by
  have HB : Hid (Below w.heap.size w (w.alloc (prX ia n ic st gr na nn nc))) := (Below.refl _ w).alloc (Nat.le_refl _) _
  have HI0 : Hid (Nml w ia x n) := hI
  have hpl : plB st n = true ↔ 0 ≤ st ∧ st < n := decide_eq_true_iff
  clear hI
  by_cases k1 : (n : Int) < 1
  · have HX : Hid (SdB x n st gr nn = false) := SdB_no (by rw [hpl]; omega)
    clear hpl
    go_enter Tryd.func13, Tryd.ntmps13
    go_wp2
    go_ret
    exact ⟨ret_bool (by rw [HX.out]), HB.out⟩
  by_cases k2 : 10000 < (n : Int)
  · have HX : Hid (SdB x n st gr nn = false) := SdB_no (by rw [hpl]; omega)
    clear hpl
    go_enter Tryd.func13, Tryd.ntmps13
    go_wp2
    go_ret
    exact ⟨ret_bool (by rw [HX.out]), HB.out⟩
  by_cases k3 : st < 0
  · have HX : Hid (SdB x n st gr nn = false) := SdB_no (by rw [hpl]; omega)
    clear hpl
    go_enter Tryd.func13, Tryd.ntmps13
    go_wp2
    go_ret
    exact ⟨ret_bool (by rw [HX.out]), HB.out⟩
  by_cases k4 : (n : Int) ≤ st
  · have HX : Hid (SdB x n st gr nn = false) := SdB_no (by rw [hpl]; omega)
    clear hpl
    go_enter Tryd.func13, Tryd.ntmps13
    go_wp2
    go_ret
    exact ⟨ret_bool (by rw [HX.out]), HB.out⟩
  by_cases k5 : gr < 0
  · have HX : Hid (SdB x n st gr nn = false) := SdB_no (by rw [hpl]; omega)
    clear hpl
    go_enter Tryd.func13, Tryd.ntmps13
    go_wp2
    go_ret
    exact ⟨ret_bool (by rw [HX.out]), HB.out⟩
  by_cases k6 : 100 < gr
  · have HX : Hid (SdB x n st gr nn = false) := SdB_no (by rw [hpl]; omega)
    clear hpl
    go_enter Tryd.func13, Tryd.ntmps13
    go_wp2
    go_ret
    exact ⟨ret_bool (by rw [HX.out]), HB.out⟩
  by_cases k7 : (nn : Int) = gr
  rotate_left
  · have HX : Hid (SdB x n st gr nn = false) := SdB_no (fun h => k7 h.2.2.2)
    have b7 : ((nn : Int) != gr) = true := by simpa using k7
    clear k7 hpl
    go_enter Tryd.func13, Tryd.ntmps13
    go_wp2
    go_ret
    exact ⟨ret_bool (by rw [HX.out]), HB.out⟩
  have b7 : ((nn : Int) != gr) = false := by simpa using k7
  have gg0 : 0 ≤ gr := by omega
  have gg1 : gr ≤ 100 := by omega
  have HT : Hid (allB x n gr n = true → SdB x n st gr nn = true) := fun h => (SdB_iff x n st gr nn).2 ⟨by omega, hpl.2 (by omega), gg1, k7, h⟩
  have HN : Hid (allB x n gr n = false → SdB x n st gr nn = false) := fun h => SdB_bad h
  obtain ⟨W, hW⟩ : ∃ W, W = w.alloc (prX ia n ic st gr na nn nc) := ⟨_, rfl⟩
  obtain ⟨c0, c1, c2, c3⟩ := prX_cells ia n ic st gr na nn nc (Below.refl _ (w.alloc (prX ia n ic st gr na nn nc)))
  rw [← hW] at c0 c1 c2 c3 HB
  have HI : Hid (Nml W ia x n) := HI0.out.below HB.out
  have HW : Hid (W = w.alloc (prX ia n ic st gr na nn nc)) := hW
  obtain ⟨G, hG⟩ : ∃ G, G = w.heap.size := ⟨_, rfl⟩
  have HG : Hid (G = w.heap.size) := hG
  rw [← hG] at c0 c1 c2 c3
  have C0 : Hid _ := c0
  have C2 : Hid _ := c2
  clear hW HI0 hG k7 hpl c0 c1 c2 c3
  go_enter Tryd.func13, Tryd.ntmps13
  go_wp2_with fail
  rw [← HW.out, ← HG.out]
  go_loopw [4] (fun ivv w' => ∃ i : Nat, ivv = .int .i64 (i : Int) ∧ i ≤ n ∧ allB x n gr i = true ∧ Hid (Below W.heap.size W w')) (fun ivv _ => n - (RowKit.intOf ivv).toNat)
  case atStart => exact ⟨0, rfl, by omega, rfl, Below.refl _ _⟩
  case round =>
    obtain ⟨i, rfl, hi, hal, hb⟩ := hrel
    have HAL : Hid (allB x n gr i = true) := hal
    clear hal
    by_cases hlt : i < n
    · have hii : (i : Int) < n := by omega
      obtain ⟨g1, o1, rfl, hg1, x0, x1, x2, x3, x4, hr, hrn⟩ := HI.out.at i hlt
      have e0 := bcell2 hb.out x0
      have e1 := bcell2 hb.out x1
      have e2 := bcell2 hb.out x2
      have e3 := bcell2 hb.out x3
      have e4 := bcell2 hb.out x4
      have HBad : Hid (sdB (x i).op (x i).out (x i).alt (x i).arg (x i).rn (x i).rf n gr = false → SdB x n st gr nn = false) := fun h => HN.out (allB_bad hlt h)
      have HGo : Hid (sdB (x i).op (x i).out (x i).alt (x i).arg (x i).rn (x i).rf n gr = true → allB x n gr (i + 1) = true) := fun h => allB_succ HAL.out h
      have hr2 := hr.below hb.out
      obtain ⟨⟨op, out, alt, arg, ra, rn, rc, rf⟩, hx⟩ : ∃ y, x i = y := ⟨_, rfl⟩
      rw [hx] at e0 e1 e2 e3 e4 HBad HGo hr2 hrn
      dsimp only at e0 e1 e2 e3 e4 HBad HGo hr2 hrn
      have d0 := bcell2 hb.out C0.out
      have d2 := bcell2 hb.out C2.out
      have kS := fun d os => Calls.regrown_of (rsound_any op out alt arg ra rn rc rf n gr (Go.Sort.grow (redrawn wr d) os) (hr2.below (below_regrown wr d os)) (by omega) gg0 gg1)
      have HB6 : Hid (∀ d os, Below W.heap.size W (Go.Sort.grow (redrawn wr d) os)) := fun d os => hb.out.trans ((below_regrown wr d os).mono hb.out.size)
      have HF : Hid (∀ d os, Below w.heap.size w (Go.Sort.grow (redrawn wr d) os)) := fun d os => HB.out.trans ((HB6.out d os).mono HB.out.size)
      have HLT : Hid (i < n) := hlt
      have r0 := fun d os => cell_regrown e0 d os
      have r1 := fun d os => cell_regrown e1 d os
      have r2 := fun d os => cell_regrown e2 d os
      have r3 := fun d os => cell_regrown e3 d os
      have r4 := fun d os => cell_regrown e4 d os
      have s0 := fun d os => cell_regrown d0 d os
      have s2 := fun d os => cell_regrown d2 d os
      clear hx x0 x1 x2 x3 x4 hb hr hr2
      cases hs : sdB op out alt arg rn rf n gr
      · have HX : Hid _ := HBad.out hs
        simp only [hs] at kS
        clear HBad HGo hs
        go_wp2_with fail
        refine wp_region_quiet_below (by kernel_rfl) (by kernel_rfl) ?_
        repeat (first | quiet_step (fail) | quiet_step (exact kS _ _))
        refine wpQuiet_nil ?_
        intro _ hw'
        obtain ⟨⟨dq, osq⟩, hw''⟩ := hw'
        subst hw''
        have B2 : Hid _ := HF.out dq osq
        clear e0 e1 e2 e3 e4 r0 r1 r2 r3 r4 s0 s2 d0 d2 kS HF HB6
        generalize Go.Sort.grow (redrawn wr dq) osq = W2 at *
        go_wp2
        go_ret
        exact ⟨ret_bool (by rw [HX.out]), B2.out⟩
      · have HX : Hid _ := HGo.out hs
        simp only [hs] at kS
        clear HBad HGo hs
        go_wp2_with fail
        refine wp_region_quiet_below (by kernel_rfl) (by kernel_rfl) ?_
        repeat (first | quiet_step (fail) | quiet_step (exact kS _ _))
        refine wpQuiet_nil ?_
        intro _ hw'
        obtain ⟨⟨dq, osq⟩, hw''⟩ := hw'
        subst hw''
        have B2 : Hid _ := HB6.out dq osq
        clear e0 e1 e2 e3 e4 r0 r1 r2 r3 r4 s0 s2 d0 d2 kS HF HB6
        generalize Go.Sort.grow (redrawn wr dq) osq = W2 at *
        go_wp2
        exact ⟨⟨i + 1, by go_num, HLT.out, HX.out, B2.out⟩, by simp [RowKit.intOf]; omega⟩
    · have hii : ¬ (i : Int) < n := by omega
      obtain rfl : i = n := by omega
      have HX : Hid _ := HT.out HAL.out
      go_wp2
      go_ret
      exact ⟨ret_bool (by rw [HX.out]), HB.out.trans (hb.out.mono HB.out.size)⟩
end Go.Proofs.YtnpgkiidpeaapaaDoor
