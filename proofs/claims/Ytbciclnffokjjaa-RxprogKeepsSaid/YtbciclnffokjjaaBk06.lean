/- A bundle of texts. -/
import Derived.Test.YtbciclnffokjjaaBk05
/- RxprogSounds: the law's walk. -/
namespace Go.Proofs.Ytbciclnffokjjaa
open Go.RowKit

def x0 : Nat → In := fun _ => ⟨1, 0, 0, 0, none, 0, 0, fun _ => (0, 0)⟩
theorem one_sound : SdB x0 1 0 0 0 = true := by decide
theorem x0_at (W : World) : Nml (W.alloc (inX 1 0 0 0 none 0 0)) (some ⟨W.heap.size, 0, none⟩) x0 1 := by
  obtain ⟨c0, c1, c2, c3, c4⟩ := inX_cells 1 0 0 0 none 0 0 (Below.refl _ (W.alloc (inX 1 0 0 0 none 0 0)))
  refine .inr ⟨W.heap.size, 0, rfl, by simp, fun j hj => ?_⟩
  obtain rfl : j = 0 := by omega
  exact ⟨c0, c1, c2, c3, c4, .inl rfl, by show 0 * 8 ≤ _; omega⟩

set_option maxHeartbeats 4000000 in
set_option maxRecDepth 100000 in
theorem sounds_walk (ia : Option Addr) (n ic : Nat) (st gr : Int) (na : Option Addr) (nn nc : Nat) (x : Nat → In) (s : Nat → ByteArray) (w : World) (hx : Nml w ia x n) (hs : Sml w na s nn) (hzi : ia = none → n = 0 ∧ ic = 0) (hzn : na = none → nn = 0 ∧ nc = 0) (hz : ∀ j, j < n → (x j).ra = none → (x j).rn = 0 ∧ (x j).rc = 0) (hn : n * 56 ≤ 140737488351232) (hnn : nn * 16 ≤ 140737488351232) :
    Calls Try.prog 3 #[prV ia n ic st gr na nn nc] w fun r w' => r = .returned (.bool true) ∧ Below w.heap.size w w' := by
  have HX : Hid (Nml w ia x n) := hx
  have HS : Hid (Sml w na s nn) := hs
  have HZI : Hid (ia = none → n = 0 ∧ ic = 0) := hzi
  have HZN : Hid (na = none → nn = 0 ∧ nc = 0) := hzn
  have HZ : Hid (∀ j, j < n → (x j).ra = none → (x j).rn = 0 ∧ (x j).rc = 0) := hz
  have HN : Hid (n * 56 ≤ 140737488351232) := hn
  have HNN : Hid (nn * 16 ≤ 140737488351232) := hnn
  have hn1 : n ≤ 1152921504606846976 := by omega
  have hnn1 : nn ≤ 1152921504606846976 := by omega
  obtain ⟨G, hG⟩ : ∃ G, G = w.heap.size := ⟨_, rfl⟩
  have HG : Hid (G = w.heap.size) := hG
  obtain ⟨W, hW⟩ : ∃ W, W = w.alloc (prX ia n ic st gr na nn nc) := ⟨_, rfl⟩
  have HW : Hid (W = w.alloc (prX ia n ic st gr na nn nc)) := hW
  have HBW : Hid (Below w.heap.size w W) := by rw [hW]; exact (Below.refl _ w).alloc (Nat.le_refl _) _
  have hsz : W.heap.size = G + 1 := by rw [hW, hG]; simp
  obtain ⟨c0, c1, c2, c3⟩ := prX_cells ia n ic st gr na nn nc (Below.refl _ (w.alloc (prX ia n ic st gr na nn nc)))
  rw [← hW, ← hG] at c0 c1 c2 c3
  have CC : Hid (∀ q, Below W.heap.size W q → q.cell? ⟨G, 0, none⟩ = some (.slice ia n ic) ∧ q.cell? ⟨G, 1, none⟩ = some (.int .i64 st) ∧ q.cell? ⟨G, 2, none⟩ = some (.int .i64 gr) ∧ q.cell? ⟨G, 3, none⟩ = some (.slice na nn nc)) := fun q h => ⟨bcell2 h c0, bcell2 h c1, bcell2 h c2, bcell2 h c3⟩
  have kS := sound_any (some ⟨W.heap.size, 0, none⟩) 1 1 0 0 none 0 0 x0 _ (x0_at W) (by omega) (by omega)
  rw [one_sound, hsz] at kS
  have HSZ : Hid (W.heap.size = G + 1) := hsz
  clear hx hs hzi hzn hz hn hnn hG hW hsz c0 c1 c2 c3
  go_enter Try.func3, Try.ntmps3
  go_wp2_with fail
  rw [← HW.out, ← HG.out]
  go_fit kS
  rintro r w1 ⟨rfl, b1⟩
  have B1 : Hid (Below W.heap.size W w1) := ((Below.refl _ W).alloc (Nat.le_refl _) _).trans (b1.mono (alloc_lt _ _))
  obtain ⟨c0, c1, c2, c3⟩ := CC.out w1 B1.out
  have kR := rSound_any ia n ic st gr na nn nc x w1 (HX.out.below (HBW.out.trans (B1.out.mono HBW.out.size))) hn1 hnn1
  clear b1 kS
  go_wp2_with fail
  go_fit kR
  rintro r w2 ⟨rfl, b2⟩
  have B2 : Hid (Below W.heap.size W w2) := B1.out.trans (b2.mono B1.out.size)
  clear b2 kR c0 c1 c2 c3 B1
  obtain ⟨c0, c1, c2, c3⟩ := CC.out w2 B2.out
  obtain ⟨Qb, hQb⟩ : ∃ Qb, Qb = w2.heap.size := ⟨_, rfl⟩
  have HQ : Hid (Qb = w2.heap.size) := hQb
  obtain ⟨W3, hW3⟩ : ∃ W3, W3 = w2.alloc (prX ia n ic st gr na nn nc) := ⟨_, rfl⟩
  have HW3 : Hid (W3 = w2.alloc (prX ia n ic st gr na nn nc)) := hW3
  have b3 : Below w2.heap.size w2 W3 := by rw [hW3]; exact (Below.refl _ w2).alloc (Nat.le_refl _) _
  have h3 : W3.heap[w2.heap.size]? = some (prX ia n ic st gr na nn nc) := by rw [hW3]; exact heap_alloc_new w2 _
  have B3 : Hid (Below W.heap.size W W3) := B2.out.trans (b3.mono B2.out.size)
  have z3 : W3.heap.size = Qb + 1 := by rw [hW3, hQb]; simp
  have HQG : Hid (G < Qb) := by
    have e1 := B2.out.size
    have e2 := HSZ.out
    unfold Hid
    omega
  have HQF : Hid (∀ k, k < 4 → ∃ v, W3.cell? ⟨Qb, k, none⟩ = some v ∧ W3.frozen? ⟨Qb, k, none⟩ = false) := fun k hk => by
    rw [hQb]
    unfold World.cell? World.frozen?
    rw [h3]
    rcases (by omega : k = 0 ∨ k = 1 ∨ k = 2 ∨ k = 3) with rfl | rfl | rfl | rfl <;> exact ⟨_, rfl, rfl⟩
  have HQC : Hid (W3.cell? ⟨Qb, 0, none⟩ = some (.slice ia n ic) ∧ W3.cell? ⟨Qb, 1, none⟩ = some (.int .i64 st) ∧ W3.cell? ⟨Qb, 2, none⟩ = some (.int .i64 gr) ∧ W3.cell? ⟨Qb, 3, none⟩ = some (.slice na nn nc)) := by
    have hh := prX_cells ia n ic st gr na nn nc (Below.refl _ (w2.alloc (prX ia n ic st gr na nn nc)))
    rw [← hW3, ← hQb] at hh
    exact hh
  have HWW3 : Hid (Below w.heap.size w W3) := HBW.out.trans (B3.out.mono HBW.out.size)
  obtain ⟨gn, cn, w4, r4, o4, b4, hgn, ln⟩ := fresh_copy (P := Try.prog) W3 23 9 _ 1 16 Try.underlying23 infS rfl (by decide) na nn nc (sc s nn) HZN.out (by rw [sc_len]; omega) (fun p hp => by
    have h2 : Sml W3 (some p) s nn := hp ▸ HS.out.below HWW3.out
    exact h2.cells) (sc_one _ _) (by have := HNN.out; unfold maxLen; omega) (by have := HNN.out; omega)
  obtain ⟨W5, hW5⟩ : ∃ W5, W5 = w4.setCell ⟨Qb, 3, none⟩ (.slice (some ⟨gn, 0, none⟩) nn cn) := ⟨_, rfl⟩
  have HW5 : Hid (W5 = w4.setCell ⟨Qb, 3, none⟩ (.slice (some ⟨gn, 0, none⟩) nn cn)) := hW5
  have k4 : Kp (fun _ => False) W3 w4 := Kp.of b4
  have k45 : Kp (· = Qb) w4 W5 := by rw [hW5]; exact (Kp.refl (· = Qb) w4).setCell (p := ⟨Qb, 3, none⟩) rfl _
  obtain ⟨q0, q1, q2, q3⟩ := HQC.out
  have q0' := k4.cell q0 id
  have q1' := k4.cell q1 id
  have q2' := k4.cell q2 id
  have q3' := k4.cell q3 id
  have fq : ∀ k, k < 4 → w4.frozen? ⟨Qb, k, none⟩ = false := fun k hk => by
    obtain ⟨v, e1, e2⟩ := HQF.out k hk
    exact k4.frozen e1 e2 id
  have fq3 := fq 3 (by omega)
  have s0 : W5.cell? ⟨Qb, 0, none⟩ = some (.slice ia n ic) := by rw [hW5, World.cell?_setCell_other _ _ _ _ (by simp)]; exact q0'
  have s1 : W5.cell? ⟨Qb, 1, none⟩ = some (.int .i64 st) := by rw [hW5, World.cell?_setCell_other _ _ _ _ (by simp)]; exact q1'
  have s2 : W5.cell? ⟨Qb, 2, none⟩ = some (.int .i64 gr) := by rw [hW5, World.cell?_setCell_other _ _ _ _ (by simp)]; exact q2'
  have s3 : W5.cell? ⟨Qb, 3, none⟩ = some (.slice (some ⟨gn, 0, none⟩) nn cn) := by rw [hW5]; exact World.cell?_setCell_same _ _ _ q3'
  have sf0 : W5.frozen? ⟨Qb, 0, none⟩ = false := by rw [hW5, World.frozen?_setCell]; exact fq 0 (by omega)
  have B4 : Hid (Below W.heap.size W w4) := B3.out.trans (b4.mono B3.out.size)
  have HMo : ∀ k, k < W.heap.size → k ≠ Qb := fun k hk e => by
    have e1 := HSZ.out
    have e2 := HQG.out
    omega
  have B5 : Hid (Below W.heap.size W W5) := B4.out.trans (k45.below B4.out.size (fun k hk => HMo k hk))
  have HWW5 : Hid (Below w.heap.size w W5) := HBW.out.trans (B5.out.mono HBW.out.size)
  have HNe : Hid (gn ≠ Qb) := by
    unfold Hid
    omega
  have HT5 : Hid (Sml W5 (some ⟨gn, 0, none⟩) s nn) := by
    rcases Sml.of_row o4 ln with h0 | ⟨g, o, e, hg, hc⟩
    · exact .inl h0
    · cases e
      exact .inr ⟨gn, 0, rfl, Nat.lt_of_lt_of_le hg k45.size, fun j hj => k45.cell (hc j hj) HNe.out⟩
  obtain ⟨gi, ci, w6, r6, o6, b6, hgi, li⟩ := fresh_copy (P := Try.prog) W5 22 29 _ 5 56 Try.underlying22 infN rfl (by decide) ia n ic (n5 x n) HZI.out (n5_len _ _) (fun p hp => by
    have h2 : Nml W5 (some p) x n := hp ▸ HX.out.below HWW5.out
    exact h2.cells) (n5_one _ _) (by have := HN.out; unfold maxLen; omega) (by have := HN.out; omega)
  obtain ⟨W7, hW7⟩ : ∃ W7, W7 = w6.setCell ⟨Qb, 0, none⟩ (.slice (some ⟨gi, 0, none⟩) n ci) := ⟨_, rfl⟩
  have HW7 : Hid (W7 = w6.setCell ⟨Qb, 0, none⟩ (.slice (some ⟨gi, 0, none⟩) n ci)) := hW7
  have k6 : Kp (fun _ => False) W5 w6 := Kp.of b6
  have k67 : Kp (· = Qb) w6 W7 := by rw [hW7]; exact (Kp.refl (· = Qb) w6).setCell (p := ⟨Qb, 0, none⟩) rfl _
  have t0 := k6.cell s0 id
  have t1 := k6.cell s1 id
  have t2 := k6.cell s2 id
  have t3 := k6.cell s3 id
  have tf0 := k6.frozen s0 sf0 id
  have B6 : Hid (Below W.heap.size W w6) := B5.out.trans (b6.mono B5.out.size)
  have B7 : Hid (Below W.heap.size W W7) := B6.out.trans (k67.below B6.out.size (fun k hk => HMo k hk))
  have HWW7 : Hid (Below w.heap.size w W7) := HBW.out.trans (B7.out.mono HBW.out.size)
  have lQ5 : Qb < W5.heap.size := World.block_lt_of_cell? W5 _ s0
  have HGQ : Hid (gi ≠ Qb) := by
    unfold Hid
    omega
  have HGG : Hid (w.heap.size ≤ gi) := Nat.le_trans HWW5.out.size hgi
  have HGi : Hid (G ≠ gi ∧ Qb ≠ gi) := ⟨by
    have e1 := HQG.out
    omega, fun e => HGQ.out e.symm⟩
  have o7 : W7.ownsRow W5.heap.size 29 5 (.slice (some ⟨gi, 0, none⟩) n ci) n (n5 x n) := k67.row o6 (fun k e => by cases e; exact HGQ.out)
  have LQ0 : Hid (LQ W5.heap.size W7 gi ci n x W7) := LQ.start HX.out o7 HWW7.out HGG.out
  have HT7 : Hid (Sml W7 (some ⟨gn, 0, none⟩) s nn) := by
    rcases HT5.out.below b6 with h0 | ⟨g, o, e, hg, hc⟩
    · exact .inl h0
    · cases e
      exact .inr ⟨gn, 0, rfl, Nat.lt_of_lt_of_le hg k67.size, fun j hj => k67.cell (hc j hj) HNe.out⟩
  have HNG : Hid (gn ≠ gi) := by
    unfold Hid
    have e1 := k45.size
    omega
  have HQ7 : Hid (W7.cell? ⟨Qb, 0, none⟩ = some (.slice (some ⟨gi, 0, none⟩) n ci) ∧ W7.cell? ⟨Qb, 1, none⟩ = some (.int .i64 st) ∧ W7.cell? ⟨Qb, 2, none⟩ = some (.int .i64 gr) ∧ W7.cell? ⟨Qb, 3, none⟩ = some (.slice (some ⟨gn, 0, none⟩) nn cn)) := by
    rw [hW7]
    refine ⟨World.cell?_setCell_same _ _ _ t0, ?_, ?_, ?_⟩
    · rw [World.cell?_setCell_other _ _ _ _ (by simp)]; exact t1
    · rw [World.cell?_setCell_other _ _ _ _ (by simp)]; exact t2
    · rw [World.cell?_setCell_other _ _ _ _ (by simp)]; exact t3
  have e33 := bcell2 ((Below.refl W3.heap.size W3).alloc (Nat.le_refl _) (.cells #[] 9)) (CC.out W3 B3.out).2.2.2
  have e55 := bcell2 ((Below.refl W5.heap.size W5).alloc (Nat.le_refl _) (.cells #[] 29)) (CC.out W5 B5.out).1
  rw [z3, hW3, hQb] at r4
  rw [hW3] at e33
  have q3' := q3'
  have tq3 := q3'
  have tqf := fq3
  rw [hQb] at tq3 tqf
  have t0' := t0
  have tf0' := tf0
  rw [hQb] at t0' tf0'
  have HWW5' : Hid (W5 = w4.setCell ⟨w2.heap.size, 3, none⟩ (.slice (some ⟨gn, 0, none⟩) nn cn)) := by rw [← hQb]; exact hW5
  have HWW7' : Hid (W7 = w6.setCell ⟨w2.heap.size, 0, none⟩ (.slice (some ⟨gi, 0, none⟩) n ci)) := by rw [← hQb]; exact hW7
  have z5 : W5.heap.size = w4.heap.size := by rw [hW5]; simp [World.setCell]
  have R5 : Hid (W5.heap.size = w4.heap.size) := z5
  rw [z5, HWW5'.out] at r6
  rw [HWW5'.out] at e55
  clear hW3 b3 h3 hW5 k4 k45 q0 q1 q2 q3 q0' q1' q2' q3' fq fq3 o4 b4 ln hgn s0 s1 s2 s3 sf0 t0 t1 t2 t3 tf0 HMo k6 k67 hW7 o6 b6 hgi li o7 lQ5 HT5 hQb z3 z5
  go_wp2_with (first | (at_builtin; refine wpList_append_run rfl (.tmp 14) (.tmp 16) 23 23 rfl _ _ rfl rfl r4 ?_) | (at_builtin; refine wpList_append_run rfl (.tmp 19) (.tmp 21) 22 22 rfl _ _ rfl rfl r6 ?_))
  rw [← HWW7'.out, ← HQ.out]
  clear r4 r6 e33 e55 tq3 tqf t0' tf0' c0 c1 c2 c3
  have HSW : Hid (SdB x n st gr nn = SdB x n st gr nn) := rfl
  generalize hV : SdB x n st gr nn = V at *
  have HV : Hid (SdB x n st gr nn = V) := hV
  clear hV HSW
  go_loopw [5] (fun ivv w' => ∃ i : Nat, ivv = .int .i64 (i : Int) ∧ i ≤ n ∧ Hid (LQ W5.heap.size W7 gi ci n x w')) (fun ivv _ => n - (RowKit.intOf ivv).toNat)
  case atStart => exact ⟨0, rfl, by omega, LQ0⟩
  case round =>
    obtain ⟨i, rfl, hi, lq⟩ := hrel
    have kw := lq.out.1
    have d0 := kw.cell HQ7.out.1 HGi.out.2
    have d1 := kw.cell HQ7.out.2.1 HGi.out.2
    have d2 := kw.cell HQ7.out.2.2.1 HGi.out.2
    have d3 := kw.cell HQ7.out.2.2.2 HGi.out.2
    obtain ⟨p0, p1, p2, p3⟩ := CC.out W7 B7.out
    have f0 := kw.cell p0 HGi.out.1
    have f1 := kw.cell p1 HGi.out.1
    have f2 := kw.cell p2 HGi.out.1
    have f3 := kw.cell p3 HGi.out.1
    have bw : Below w.heap.size w wr := HWW7.out.trans (kw.below HWW7.out.size (fun k hk e => by have := HGG.out; omega))
    clear p0 p1 p2 p3
    by_cases hlt : i < n
    · have hii : (i : Int) < n := by omega
      obtain ⟨g1, o1, hia, hg1, x0_, x1_, x2_, x3_, x4, hR, hrn⟩ := HX.out.at i hlt
      have e4 := bcell2 bw x4
      obtain ⟨g, c, w9, v9, r9, v4, vf, kq, LN⟩ := lq.out.step i hlt (hR.below bw) (HZ.out i hlt)
      have D0 := kq.cell HQ7.out.1 HGi.out.2
      have LNH : Hid _ := LN
      have HLT : Hid (i < n) := hlt
      subst hia
      generalize (x i).ra = ra at *
      generalize (x i).rn = rn at *
      generalize (x i).rc = rc at *
      have al := fun o => bcell2 ((Below.refl _ wr).alloc (Nat.le_refl _) o) e4
      have ad := fun o => bcell2 ((Below.refl _ wr).alloc (Nat.le_refl _) o) d0
      have af := fun o => bcell2 ((Below.refl _ wr).alloc (Nat.le_refl _) o) f0
      clear x0_ x1_ x2_ x3_ x4 hR hrn bw kw kq LN lq
      go_wp2_with fail
      go_region_law (refine step_append_run rfl (.tmp 34) (.tmp 40) 27 27 rfl _ _ rfl rfl r9 ?_)
      all_goals go_wp2
      all_goals exact ⟨⟨i + 1, by go_num, HLT.out, LNH⟩, by simp [RowKit.intOf]; omega⟩
    · have hii : ¬ (i : Int) < n := by omega
      obtain ⟨y, hy, hal⟩ := lq.out.nml
      have kS2 := sound_any (some ⟨gi, 0, none⟩) n ci st gr (some ⟨gn, 0, none⟩) nn cn y wr hy hn1 hnn1
      rw [SdB_congr hal, HV.out] at kS2
      have ht7 : Sml wr (some ⟨gn, 0, none⟩) s nn := by
        rcases HT7.out with h0 | ⟨g, o, e, hg, hc⟩
        · exact .inl h0
        · cases e
          exact .inr ⟨gn, 0, rfl, Nat.lt_of_lt_of_le hg kw.size, fun j hj => kw.cell (hc j hj) HNG.out⟩
      have kP2 := fun q (h : Below wr.heap.size wr q) => sameProg_true ia (some ⟨gi, 0, none⟩) n ic ci st gr na (some ⟨gn, 0, none⟩) nn nc cn x y s q ((HX.out.below bw).below h) (hy.below h) hal ((HS.out.below bw).below h) (ht7.below h) hn1 hnn1
      have HK : Hid (∀ q, Below wr.heap.size wr q → (q.cell? ⟨G, 0, none⟩ = some (.slice ia n ic) ∧ q.cell? ⟨G, 1, none⟩ = some (.int .i64 st) ∧ q.cell? ⟨G, 2, none⟩ = some (.int .i64 gr) ∧ q.cell? ⟨G, 3, none⟩ = some (.slice na nn nc)) ∧ q.cell? ⟨Qb, 0, none⟩ = some (.slice (some ⟨gi, 0, none⟩) n ci) ∧ q.cell? ⟨Qb, 1, none⟩ = some (.int .i64 st) ∧ q.cell? ⟨Qb, 2, none⟩ = some (.int .i64 gr) ∧ q.cell? ⟨Qb, 3, none⟩ = some (.slice (some ⟨gn, 0, none⟩) nn cn)) := fun q h => ⟨⟨bcell2 h f0, bcell2 h f1, bcell2 h f2, bcell2 h f3⟩, bcell2 h d0, bcell2 h d1, bcell2 h d2, bcell2 h d3⟩
      have BW : Hid (Below w.heap.size w wr) := bw
      clear hy hal bw kw lq ht7 HV
      cases V
      all_goals
        go_wp2_with fail
        go_fit kS2
        rintro r w8 ⟨rfl, b8⟩
        have B8 : Hid (Below wr.heap.size wr w8) := b8
        have kP3 := kP2 w8 b8
        obtain ⟨⟨m0, m1, m2, m3⟩, v0, v1, v2, v3⟩ := HK.out w8 b8
        clear b8 kP2 d0 d1 d2 d3 f0 f1 f2 f3
        go_wp2_with fail
        go_fit kP3
        rintro r w9 ⟨rfl, b9⟩
        have B9 : Hid (Below w.heap.size w w9) := BW.out.trans ((B8.out.trans (b9.mono B8.out.size)).mono BW.out.size)
        clear b9 m0 m1 m2 m3 v0 v1 v2 v3
        go_wp2
        go_ret
        exact ⟨rfl, B9.out⟩
end Go.Proofs.Ytbciclnffokjjaa
