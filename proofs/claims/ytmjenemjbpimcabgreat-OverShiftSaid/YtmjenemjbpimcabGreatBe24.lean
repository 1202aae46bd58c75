/- A bundle of texts. -/
import Derived.Test.YtmjenemjbpimcabGreatBe23
import Derived.Test.YtmjenemjbpimcabGreatBe22
import Derived.ProofKit
import Derived.OpenShut
import Derived.ChangeSlices
import Derived.ChangeSame
import Derived.ChangeOld
import Derived.Carry
import Derived.Deep.Slices
import Derived.SizedLaws
/- OverShift: the walk. -/
namespace Go.Proofs.YtmjenemjbpimcabGreat
open Go.RowKit

set_option maxHeartbeats 16000000 in
set_option maxRecDepth 100000 in
theorem shift_walk (a : Option Addr) (n c : Nat) (F T N by_ : Int) (x : Nat) (ss : Nat → Smp) (w : World) (h : HypW a n ss w) (hc : n ≤ c) (hz : ∀ j, n ≤ j → ss j = ⟨0, 0, false⟩) :
    Calls Tryz.prog 3 #[Wn a n c F T N, .int .i64 by_, .float .f64 x] w fun r w' => r = .returned (.bool true) ∧ Below w.heap.size w w' := by
  have HB0 : Hid (Below w.heap.size w (w.alloc (wnX a n c F T N))) := (Below.refl _ w).alloc (Nat.le_refl _) _
  have HC : Hid (∀ W, Below (w.alloc (wnX a n c F T N)).heap.size (w.alloc (wnX a n c F T N)) W → WnC a n c F T N w.heap.size W) := wnC_new a n c F T N w
  have HH : Hid (∀ W, Below w.heap.size w W → HypW a n ss W) := fun W b => h.below b
  have HL : Hid (n ≤ 9223372036854775807 ∧ n ≤ c ∧ 24 * n ≤ 140737488355328) := ⟨by have := h.2.2; omega, hc, h.2.2⟩
  have HZ : Hid (∀ j, n ≤ j → ss j = ⟨0, 0, false⟩) := hz
  clear h hc hz
  go_enter Tryz.func3, Tryz.ntmps3
  go_wp2_with fail
  go_fit (alive_any _)
  rintro e w1 ⟨rfl, b1⟩
  obtain ⟨x0, x1, x2, x3⟩ := HC.out w1 b1
  have B1 : Hid (Below (w.alloc (wnX a n c F T N)).heap.size (w.alloc (wnX a n c F T N)) w1) := b1
  have B1w : Hid (Below w.heap.size w w1) := HB0.out.trans (b1.mono HB0.out.size)
  clear b1
  have k13 := made_any a n c F T N ss w1 (HH.out w1 B1w.out).1 HL.out.1
  go_wp2_with fail
  go_fit k13
  rintro e w2 ⟨m1, rfl, hm1, b2⟩
  have HM1 : Hid (m1 = true ↔ Snd ss n F T N) := hm1
  have B2 : Hid (Below (w.alloc (wnX a n c F T N)).heap.size (w.alloc (wnX a n c F T N)) w2) := B1.out.trans (b2.mono B1.out.size)
  have B2w : Hid (Below w.heap.size w w2) := HB0.out.trans (B2.out.mono HB0.out.size)
  obtain ⟨y0, y1, y2, y3⟩ := HC.out w2 B2.out
  have HD : Hid (-4503599627370496 < by_.tmod 4503599627370496 ∧ by_.tmod 4503599627370496 < 4503599627370496) := (show _ ∧ _ by
    have h9 := Int.natAbs_tmod by_ 4503599627370496
    have h8 : by_.natAbs % (4503599627370496 : Int).natAbs < 4503599627370496 := Nat.mod_lt _ (by decide)
    omega)
  generalize by_.tmod 4503599627370496 = d at *
  clear k13 x0 x1 x2 x3 hm1 b2 B1 B1w
  cases m1
  · go_wp2
    go_ret
    exact ⟨rfl, B2w.out⟩
  have HS : Hid (Snd ss n F T N) := (show Snd ss n F T N by simpa using HM1.out)
  have kcp := copied_any a n c F T N d ss w2 (HH.out w2 B2w.out).1 HL.out.2.2
  clear HM1
  go_wp2_with fail
  go_fit kcp
  rintro e w3 ⟨b3, a', c', rfl, hc', hs', _⟩
  have HN0 : Hid (∀ W, Below (w3.alloc (wnX a' n c' (wrap64 (F + d)) (wrap64 (T + d)) (wrap64 (N + d)))).heap.size (w3.alloc (wnX a' n c' (wrap64 (F + d)) (wrap64 (T + d)) (wrap64 (N + d)))) W → WnC a' n c' (wrap64 (F + d)) (wrap64 (T + d)) (wrap64 (N + d)) w3.heap.size W) := wnC_new a' n c' _ _ _ w3
  have B3w : Hid (Below w.heap.size w (w3.alloc (wnX a' n c' (wrap64 (F + d)) (wrap64 (T + d)) (wrap64 (N + d))))) := (B2w.out.trans (b3.mono B2w.out.size)).alloc (Nat.le_trans B2w.out.size b3.size) _
  have B3c : Hid (Below (w.alloc (wnX a n c F T N)).heap.size (w.alloc (wnX a n c F T N)) (w3.alloc (wnX a' n c' (wrap64 (F + d)) (wrap64 (T + d)) (wrap64 (N + d))))) := (B2.out.trans (b3.mono B2.out.size)).alloc (Nat.le_trans B2.out.size b3.size) _
  have HSM : Hid (Sml (w3.alloc (wnX a' n c' (wrap64 (F + d)) (wrap64 (T + d)) (wrap64 (N + d)))) a' (fun j => mvS d (ss j)) n) := hs'.below ((Below.refl _ _).alloc (Nat.le_refl _) _)
  have HC' : Hid (n ≤ c') := hc'
  have HSW : Hid (SW (fun j => mvS d (ss j)) n) := (show SW _ _ from fun j hj => by
    have h1 := (HH.out w (Below.refl _ _)).2.1 j hj
    refine ⟨?_, ?_, h1.2.2⟩
    · show _ ≤ wrap64 _
      unfold wrap64
      omega
    · show wrap64 _ ≤ _
      unfold wrap64
      omega)
  clear kcp b3 hs' hc' y0 y1 y2 y3 B2 B2w
  obtain ⟨W1, hW1⟩ : ∃ W1, W1 = w3.alloc (wnX a' n c' (wrap64 (F + d)) (wrap64 (T + d)) (wrap64 (N + d))) := ⟨_, rfl⟩
  rw [← hW1] at HN0 B3w B3c HSM
  have C3 : Hid (∀ W, Below W1.heap.size W1 W → WnC a n c F T N w.heap.size W) := (show ∀ W, _ → _ from fun W b => HC.out W (B3c.out.trans (b.mono B3c.out.size)))
  have HH2 : Hid (∀ W, Below W1.heap.size W1 W → HypW a' n (fun j => mvS d (ss j)) W) := (show ∀ W, _ → _ from fun W b => ⟨HSM.out.below b, HSW.out, HL.out.2.2⟩)
  obtain ⟨F2, hF2⟩ : ∃ F2, F2 = wrap64 (F + d) := ⟨_, rfl⟩
  obtain ⟨T2, hT2⟩ : ∃ T2, T2 = wrap64 (T + d) := ⟨_, rfl⟩
  obtain ⟨N2, hN2⟩ : ∃ N2, N2 = wrap64 (N + d) := ⟨_, rfl⟩
  rw [← hF2, ← hT2, ← hN2] at HN0 hW1
  go_wp2_with fail
  dsimp only [wnX] at hW1
  rw [← hF2, ← hT2, ← hN2, ← hW1]
  clear hW1
  have HF2 : Hid (F2 = F + d ∧ T2 = T + d ∧ N2 = N + d) := (show _ ∧ _ by
    obtain ⟨⟨h1, h2, h3, h4, h5⟩, _⟩ := HS.out
    have h6 := HD.out
    rw [hF2, hT2, hN2]
    unfold wrap64
    omega)
  have HET : Hid (∀ j, (mvS d (ss j)).t = (ss j).t + d) := (show ∀ j, _ from fun j => by
    show wrap64 _ = _
    have h6 := HD.out
    by_cases hj : j < n
    · have g := snd_gd HS.out j hj
      obtain ⟨⟨h1, h2, h3, h4, h5⟩, _⟩ := HS.out
      have g2 := g.2.1
      have g3 := g.2.2.1
      unfold wrap64
      omega
    · rw [HZ.out j (by omega)]
      unfold wrap64
      show (0 + d + _) % _ - _ = 0 + d
      omega)
  obtain ⟨qq, hqq⟩ : ∃ qq, qq = w3.heap.size := ⟨_, rfl⟩
  obtain ⟨pp, hpp⟩ : ∃ pp, pp = w.heap.size := ⟨_, rfl⟩
  rw [← hqq] at HN0 ⊢
  rw [← hpp] at C3 ⊢
  have C4 : Hid (∀ W, Below W1.heap.size W1 W → WnC a' n c' F2 T2 N2 qq W) := HN0
  clear hF2 hT2 hN2 hqq hpp HC HB0 B3c HSM HN0
  have k13 := made_any a' n c' F2 T2 N2 (fun j => mvS d (ss j)) W1 (HH2.out W1 (Below.refl _ _)).1 HL.out.1
  obtain ⟨y0, y1, y2, y3⟩ := C4.out W1 (Below.refl _ _)
  go_fit k13
  rintro e w4 ⟨m2, rfl, hm2, b4⟩
  have HM2 : Hid (m2 = true ↔ Snd (fun j => mvS d (ss j)) n F2 T2 N2) := hm2
  have B4 : Hid (Below W1.heap.size W1 w4) := b4
  clear hm2 b4 k13 y0 y1 y2 y3
  cases m2
  · have B9 : Hid (Below w.heap.size w w4) := B3w.out.trans (B4.out.mono B3w.out.size)
    go_wp2
    go_ret
    exact ⟨rfl, B9.out⟩
  have HS2 : Hid (Snd (fun j => mvS d (ss j)) n F2 T2 N2) := (show Snd _ n F2 T2 N2 by simpa using HM2.out)
  clear HM2
  go_wp2_with fail
  go_fit (names_any _)
  rintro e w5 ⟨b5, gn, rfl, hgn, _, hcn⟩
  have BR : Hid (Below W1.heap.size W1 w5) := B4.out.trans (b5.mono B4.out.size)
  have HNM : Hid (∀ W, Below w5.heap.size w5 W → ∀ j, j < 23 → W.cell? ⟨gn, j, none⟩ = some (.string (fnAt (piF j)).1)) := (show ∀ W, _ → _ from fun W b j hj => bcell b (hcn j hj) hgn)
  clear b5 hgn hcn B4
  go_wp2_with fail
  go_loopw [9] (fun iv W => ∃ i : Nat, iv = .int .i64 (i : Nat) ∧ i ≤ 23 ∧ Hid (Below w5.heap.size w5 W)) (fun iv _ => 23 - (RowKit.intOf iv).toNat)
  case atStart => exact ⟨0, rfl, by omega, Below.refl _ _⟩
  case round =>
    obtain ⟨i, rfl, hi, hb⟩ := hrel
    have BRr : Hid (Below W1.heap.size W1 wr) := BR.out.trans (hb.out.mono BR.out.size)
    have HRW : Hid (Below w.heap.size w wr) := B3w.out.trans (BRr.out.mono B3w.out.size)
    by_cases hlt : i < 23
    · have hii : (i : Int) < 23 := by omega
      have i0 : (0 : Int) ≤ (i : Int) := by omega
      have i1 : ¬ (i : Int) < 0 := by omega
      have nI := HNM.out wr hb.out i hlt
      have HI : Hid (i + 1 ≤ 23) := hlt
      have HK : Hid (piF i < 23) := pi_lt i hlt
      have HNI : Hid (∀ W, Below wr.heap.size wr W → W.cell? ⟨gn, i, none⟩ = some (.string (fnAt (piF i)).1)) := (show ∀ W, _ → _ from fun W b => HNM.out W (hb.out.trans (b.mono hb.out.size)) i hlt)
      obtain ⟨k, hk⟩ : ∃ k, k = piF i := ⟨_, rfl⟩
      rw [← hk] at nI HK HNI
      clear hk
      obtain ⟨nm, hnm⟩ : ∃ nm, nm = (fnAt k).1 := ⟨_, rfl⟩
      rw [← hnm] at nI HNI
      have HNm : Hid (nm = (fnAt k).1) := hnm
      clear hnm
      obtain ⟨R, R', hR, hR', hRR⟩ := fn_pair k HK.out ss (fun j => mvS d (ss j)) n d (nums k x 4602678819172646912) HL.out.2.2 (fun j => rfl) HET.out
      have HReq : Hid (R F T N = R' F2 T2 N2) := (show _ = _ by rw [HF2.out.1, HF2.out.2.1, HF2.out.2.2]; exact hRR F T N)
      have h9 : (fnAt k).2.1 ≤ 9223372036854775807 := by
        have h8 : ∀ k, k < 23 → (fnAt k).2.1 ≤ 2 := by decide +kernel
        have := h8 k HK.out
        omega
      have HC1 : Hid (∀ W aa ca, Below w.heap.size w W → Fm W aa (nums k x 4602678819172646912) → Calls Tryz.prog 9 #[.string nm, Wn a n c F T N, .slice aa (fnAt k).2.1 ca] W (RX W ((fnAt k).2.2.1 ≤ n) (R F T N))) := (show ∀ W aa ca, _ → _ → _ from fun W aa ca b hf => (call_gen k HK.out nm HNm.out a n c F T N ss aa (fnAt k).2.1 ca _ R hR W (HH.out W b) HL.out.2.1 hf (nums_len k _ _ HK.out) h9).mono fun r w' hx => by
        obtain ⟨z, b, e, h1, h2⟩ := hx
        exact ⟨z, b, e, h1.trans ⟨fun h => h.2.1, fun h => ⟨rfl, h, HS.out⟩⟩, h2⟩)
      have HC2 : Hid (∀ W aa ca, Below W1.heap.size W1 W → Fm W aa (nums k x 4602678819172646912) → Calls Tryz.prog 9 #[.string nm, Wn a' n c' F2 T2 N2, .slice aa (fnAt k).2.1 ca] W (RX W ((fnAt k).2.2.1 ≤ n) (R' F2 T2 N2))) := (show ∀ W aa ca, _ → _ → _ from fun W aa ca b hf => (call_gen k HK.out nm HNm.out a' n c' F2 T2 N2 (fun j => mvS d (ss j)) aa (fnAt k).2.1 ca _ R' hR' W (HH2.out W b) HC'.out hf (nums_len k _ _ HK.out) h9).mono fun r w' hx => by
        obtain ⟨z, b, e, h1, h2⟩ := hx
        exact ⟨z, b, e, h1.trans ⟨fun h => h.2.1, fun h => ⟨rfl, h, HS2.out⟩⟩, h2⟩)
      have HNum : Hid (∀ W, Calls Tryz.prog 10 #[.string nm, .float .f64 x, .float .f64 4602678819172646912] W fun r w' => Below W.heap.size W w' ∧ ∃ aa ca, r = .returned (.slice aa (fnAt k).2.1 ca) ∧ Fm w' aa (nums k x 4602678819172646912)) := (show ∀ W, _ from fun W => (numbers_any k HK.out nm HNm.out _ _ W).mono (fun r w' hx => by
        obtain ⟨bx, aa, ca, e, _, hf, _⟩ := hx
        exact ⟨bx, aa, ca, e, hf⟩))
      clear hR hR' hRR h9
      generalize nums k x 4602678819172646912 = ARGS at *
      generalize ((fnAt k).2.2.1 ≤ n) = P1 at *
      generalize (fnAt k).2.1 = sc at *
      generalize R F T N = Ra at *
      generalize R' F2 T2 N2 = Rb at *
      have HS1 : Hid (∀ W, Below wr.heap.size wr W → (W.cell? ⟨gn, i, none⟩ = some (.string nm) ∧ WnC a n c F T N pp W) ∧ Below wr.heap.size wr W) := (show ∀ W, _ → _ from fun W b => ⟨⟨HNI.out W b, C3.out W (BRr.out.trans (b.mono BRr.out.size))⟩, b⟩)
      obtain ⟨⟨_, y0, y1, y2, y3⟩, _⟩ := HS1.out wr (Below.refl _ _)
      have bd : Below wr.heap.size wr wr.drew := (Below.refl _ _).drew
      unfold WnC at HS1
      go_wp2_with fail
      go_region_held3 (fun w2 => (w2.cell? ⟨gn, i, none⟩ = some (.string nm) ∧ w2.cell? ⟨pp, 0, none⟩ = some (.slice a n c) ∧ w2.cell? ⟨pp, 1, none⟩ = some (.int .i64 F) ∧ w2.cell? ⟨pp, 2, none⟩ = some (.int .i64 T) ∧ w2.cell? ⟨pp, 3, none⟩ = some (.int .i64 N)) ∧ Below wr.heap.size wr w2) (first | exact HS1.out _ (by assumption) | exact HS1.out _ (Below.drew (by assumption))) (first | (go_at_call 10; go_fit (HNum.out _); rintro e w6 ⟨b6, aa, ca, rfl, hfa⟩; have bb : Below wr.heap.size wr w6 := bd.trans (b6.mono bd.size)) | (go_at_call 9; go_fit (HC1.out _ _ _ (HRW.out.trans (bb.mono HRW.out.size)) hfa); rintro e w7 ⟨z1, b1, rfl, hz1, b7, hl1, hv1, hn1⟩; have bc : Below wr.heap.size wr w7 := bb.trans (b7.mono bb.size)))
      rename_i hh
      have HZ1 : Hid ((b1 = true ↔ P1) ∧ (b1 = true → cl z1 = Ra) ∧ (b1 = false → z1 = 0)) := ⟨hz1, hv1, hn1⟩
      have BC : Hid (Below wr.heap.size wr w7) := bc
      clear hh hz1 hv1 hn1 y0 y1 y2 y3 nI bd bb b6 b7 hfa HS1 HC1 bc
      have B75 : Hid (Below w5.heap.size w5 w7) := hb.out.trans (BC.out.mono hb.out.size)
      have B71 : Hid (Below W1.heap.size W1 w7) := BRr.out.trans (BC.out.mono BRr.out.size)
      have HS3 : Hid (∀ W, Below w7.heap.size w7 W → (W.cell? ⟨gn, i, none⟩ = some (.string nm) ∧ WnC a' n c' F2 T2 N2 qq W) ∧ Below w7.heap.size w7 W) := (show ∀ W, _ → _ from fun W b => ⟨⟨HNI.out W (BC.out.trans (b.mono BC.out.size)), C4.out W (B71.out.trans (b.mono B71.out.size))⟩, b⟩)
      obtain ⟨⟨nI, y0, y1, y2, y3⟩, _⟩ := HS3.out w7 (Below.refl _ _)
      have bd : Below w7.heap.size w7 w7.drew := (Below.refl _ _).drew
      unfold WnC at HS3
      go_wp2_with fail
      go_region_held3 (fun w2 => (w2.cell? ⟨gn, i, none⟩ = some (.string nm) ∧ w2.cell? ⟨qq, 0, none⟩ = some (.slice a' n c') ∧ w2.cell? ⟨qq, 1, none⟩ = some (.int .i64 F2) ∧ w2.cell? ⟨qq, 2, none⟩ = some (.int .i64 T2) ∧ w2.cell? ⟨qq, 3, none⟩ = some (.int .i64 N2)) ∧ Below w7.heap.size w7 w2) (first | exact HS3.out _ (by assumption) | exact HS3.out _ (Below.drew (by assumption))) (first | (go_at_call 10; go_fit (HNum.out _); rintro e w8 ⟨b8, aa, ca, rfl, hfa⟩; have bb : Below w7.heap.size w7 w8 := bd.trans (b8.mono bd.size)) | (go_at_call 9; go_fit (HC2.out _ _ _ (B71.out.trans (bb.mono B71.out.size)) hfa); rintro e w9 ⟨z2, b2, rfl, hz2, b9, hl2, hv2, hn2⟩; have bc : Below w7.heap.size w7 w9 := bb.trans (b9.mono bb.size)))
      rename_i hh
      have HZ2 : Hid ((b2 = true ↔ P1) ∧ (b2 = true → cl z2 = Rb) ∧ (b2 = false → z2 = 0)) := ⟨hz2, hv2, hn2⟩
      have B95 : Hid (Below w5.heap.size w5 w9) := B75.out.trans (bc.mono B75.out.size)
      clear hh hz2 hv2 hn2 y0 y1 y2 y3 nI bd bb b8 b9 hfa HS3 HC2 bc
      have hbb : b2 = b1 := by
        have h3 : b1 = true ↔ b2 = true := HZ1.out.1.trans HZ2.out.1.symm
        cases b1 <;> cases b2 <;> simp_all
      have HCL : Hid (smB (cl z1) (cl z2) = true) := (show _ = _ by
        have h3 : cl z1 = cl z2 := by
          subst hbb
          cases b2
          · rw [HZ1.out.2.2 rfl, HZ2.out.2.2 rfl]
          · rw [HZ1.out.2.1 rfl, HZ2.out.2.1 rfl, HReq.out]
        unfold smB
        simp [h3])
      have k15 : ∀ W, Calls Tryz.prog 11 #[.float .f64 z1, .float .f64 z2] W fun r w' => r = .returned (.bool true) ∧ w' = W := fun W => (same_any z1 z2 W).mono (fun r w' hx => by rw [HCL.out] at hx; exact hx)
      subst hbb
      clear HZ1 HZ2 HCL HReq
      have hxx : (b2 != b2) = false := by cases b2 <;> rfl
      go_wp2_with fail
      go_fit (k15 _)
      rintro e w10 ⟨rfl, rfl⟩
      go_wp2
      exact ⟨⟨i + 1, by go_num, HI.out, B95⟩, by simp [RowKit.intOf]; omega⟩
    · have hii : ¬ (i : Int) < 23 := by omega
      go_wp2
      go_ret
      exact ⟨rfl, HRW.out⟩
end Go.Proofs.YtmjenemjbpimcabGreat
/- Windows that came in. -/
namespace Go.Proofs.YtmjenemjbpimcabGreat
open Go.ChangeShapes Go.WideShapes Go.ChangeAt Go.RowKit

theorem own : ownKnob Tryz.prog.godebug = none := by kernel_rfl
theorem laidOut : laidOutB Tryz.prog = true := by kernel_rfl

theorem trod_float0 {H : Type} {enc : TypeId × Value → H} {W : World} {t : TypeId} {cs : List Value} {x : DataW H × List MemPlace} {fuel : Nat} (ht : Tryz.prog.underlying t = some (.float .f64))
    (h : DataW.trod enc Tryz.prog W 0 (fun _ => true) true fuel t cs = some x) : ∃ z, cs = [.float .f64 z] ∧ x = (.lit (.float .f64 z), []) ∧ (Lit.float .f64 z).wf = true := by
  cases fuel with
  | zero => simp [DataW.trod] at h
  | succ n =>
    unfold DataW.trod at h
    rw [ht] at h
    split at h <;> simp_all
theorem trod_float {H : Type} {enc : TypeId × Value → H} {W : World} {t : TypeId} {v : Value} {x : DataW H × List MemPlace} {fuel : Nat} (ht : Tryz.prog.underlying t = some (.float .f64))
    (h : DataW.trod enc Tryz.prog W 0 (fun _ => true) true fuel t [v] = some x) : ∃ z, v = .float .f64 z ∧ z < 18446744073709551616 ∧ x = (.lit (.float .f64 z), []) := by
  obtain ⟨z, h1, h2, h3⟩ := trod_float0 ht h
  exact ⟨z, by simpa using h1, by simpa [Lit.wf] using h3, h2⟩

set_option maxRecDepth 100000 in
/-- Samples that came in. -/
theorem samples_open {H : Type} {enc : TypeId × Value → H} {W : World} {v : Value} {d : DataW H} {p : List MemPlace} {fuel : Nat}
    (hf : DataW.trod enc Tryz.prog W 0 (fun _ => true) true fuel 22 [v] = some (d, p)) (hz : ∀ n ∈ d.weights Tryz.prog 22, n ≤ reachBytes) :
    ∃ (a : Option Addr) (len cap : Nat) (ss : Nat → Smp), v = .slice a len cap ∧ HypW a len ss W ∧ len ≤ cap := by
  rcases Go.Deep.open_slice Tryz.underlying22 hf with ⟨hcs, _⟩ | ⟨x, l, c, m, n, D, Pl, hcs, _, hl, hm, hmm, hd, hall⟩
  · simp at hcs
    subst hcs
    exact ⟨none, 0, 0, fun _ => ⟨0, 0, false⟩, rfl, ⟨.inl rfl, fun j hj => absurd hj (by omega), by omega⟩, Nat.le_refl _⟩
  · simp at hcs
    subst hcs
    have hm' : m = c := by simpa using hmm
    subst hm'
    obtain ⟨rfl, _⟩ := Prod.mk.inj hd
    have hC : Tryz.prog.cellsOf 43 = 3 := by kernel_rfl
    have each : ∀ i, i < m → ∃ u : Smp, W.cell? (x.add (i * 3)) = some (.int .i64 u.t) ∧ W.cell? (x.add (i * 3 + 1)) = some (.float .f64 u.v) ∧ W.cell? (x.add (i * 3 + 2)) = some (.bool u.s) ∧
        -9223372036854775808 ≤ u.t ∧ u.t ≤ 9223372036854775807 ∧ u.v < 18446744073709551616 := by
      intro i hi
      obtain ⟨cs', h1, h2⟩ := hall i hi
      rw [hC] at h1
      obtain ⟨_, hlen, hcell⟩ := World.cells?_some h1
      obtain ⟨xs, k, hk, hxy, _, hxl, hff⟩ := DataW.trod_struct Tryz.underlying43 h2
      match xs, hxl, cs', hlen with
      | [y0, y1, y2], _, [v0, v1, v2], _ =>
        have g0 := hff 0 _ rfl
        have g1 := hff 1 _ rfl
        have g2 := hff 2 _ rfl
        have c2 : Tryz.prog.cellsOf 2 = 1 := by kernel_rfl
        have c25 : Tryz.prog.cellsOf 25 = 1 := by kernel_rfl
        have c4 : Tryz.prog.cellsOf 4 = 1 := by kernel_rfl
        simp [c2, c25, c4] at g0 g1 g2
        obtain ⟨t, e0, _, wf⟩ := DataW.trod_int Tryz.underlying2 g0
        obtain ⟨v, e1, hv, _⟩ := trod_float Tryz.underlying25 g1
        obtain ⟨s, e2, _⟩ := DataW.trod_bool Tryz.underlying4 g2
        have q0 := hcell 0 (by omega)
        have q1 := hcell 1 (by omega)
        have q2 := hcell 2 (by omega)
        rw [Go.Deep.add_add] at q0 q1 q2
        have w0 : v0 = .int .i64 t := by simpa using e0
        have w2 : v2 = .bool s := by simpa using e2
        rw [w0, e1, w2] at q0 q1 q2
        simp [Lit.wf, IntKind.min, IntKind.max, IntKind.signed, IntKind.bits] at wf
        exact ⟨⟨t, v, s⟩, by simpa using q0, by simpa using q1, by simpa using q2, by show _ ≤ t; omega, by show t ≤ _; omega, hv⟩
    have hI : Inhabited Smp := ⟨⟨0, 0, false⟩⟩
    obtain ⟨ss, hss⟩ := Go.Deep.choose_lt each
    refine ⟨_, _, _, ss, rfl, ⟨?_, fun j hj => (hss j (by omega)).2.2.2, ?_⟩, hl⟩
    · by_cases h0 : l = 0
      · exact .inl h0
      · right
        obtain ⟨g, o, sp⟩ := x
        have hsp : sp = none := by
          have := (hss 0 (by omega)).1
          simpa [Addr.add] using World.cell?_spot this
        subst hsp
        have h00 := (hss 0 (by omega)).1
        rw [Go.WideShapes.add_plain] at h00
        refine ⟨g, o, rfl, block_lt_of_cell h00, fun j hj => ?_⟩
        obtain ⟨q0, q1, q2, _⟩ := hss j (by omega)
        rw [Go.WideShapes.add_plain] at q0 q1 q2
        exact ⟨q0, by rw [Nat.add_assoc]; exact q1, by rw [Nat.add_assoc]; exact q2⟩
    · have hb : Tryz.prog.bytesOf 43 = 24 := by kernel_rfl
      have hr : reachBytes = 140737488351232 := by decide
      have := hz ((((List.range l).map D).length + ((List.range (m - l)).map fun j => D (l + j)).length) * 24) (by
        simp only [DataW.weights, Tryz.underlying22, hb]
        exact List.mem_cons.2 (.inl rfl))
      simp at this
      omega

set_option maxRecDepth 100000 in
/-- A window that came in. -/
theorem window_open {H : Type} {enc : TypeId × Value → H} {W : World} {cl : List Value} {d : DataW H} {p : List MemPlace} {fuel : Nat}
    (hf : DataW.trod enc Tryz.prog W 0 (fun _ => true) true fuel 24 cl = some (d, p)) (hz : ∀ n ∈ d.weights Tryz.prog 24, n ≤ reachBytes) :
    ∃ (a : Option Addr) (n c : Nat) (F T N : Int) (ss : Nat → Smp), cl = [.slice a n c, .int .i64 F, .int .i64 T, .int .i64 N] ∧ HypW a n ss W ∧ n ≤ c ∧ (-9223372036854775808 ≤ F ∧ F ≤ 9223372036854775807) ∧ (-9223372036854775808 ≤ T ∧ T ≤ 9223372036854775807) ∧ (-9223372036854775808 ≤ N ∧ N ≤ 9223372036854775807) := by
  obtain ⟨xs, k, hk, hxy, hcl, hxl, hff⟩ := DataW.trod_struct Tryz.underlying24 hf
  have h4 : Tryz.prog.cellsOf 24 = 4 := by kernel_rfl
  rw [h4] at hcl
  have g0 := hff 0 _ rfl
  have g1 := hff 1 _ rfl
  have g2 := hff 2 _ rfl
  have g3 := hff 3 _ rfl
  have c2 : Tryz.prog.cellsOf 2 = 1 := by kernel_rfl
  have c28 : Tryz.prog.cellsOf 22 = 1 := by kernel_rfl
  match xs, hxl, cl, hcl with
  | [(e0, p0), (e1, p1), (e2, p2), (e3, p3)], _, [v0, v1, v2, v3], _ =>
    simp [c28] at g0
    simp [c2] at g1 g2 g3
    have hd0 : d = .agg [e0, e1, e2, e3] := (Prod.mk.inj hxy).1
    have zz : ∀ (j : Nat) t d, [22, 2, 2, 2][j]? = some t → [e0, e1, e2, e3][j]? = some d → ∀ n ∈ d.weights Tryz.prog t, n ≤ reachBytes := fun j t d ht hd n hn => by
      refine hz n ?_
      rw [hd0]
      simp only [DataW.weights, Tryz.underlying24]
      exact DataW.weights_mem_each (j := j) (t := t) (d := d) ht hd n hn
    obtain ⟨a, n, c, ss, rfl, hx, hn⟩ := samples_open g0 (zz 0 22 e0 rfl rfl)
    obtain ⟨F, ev1, _, f1⟩ := DataW.trod_int Tryz.underlying2 g1
    obtain ⟨T, ev2, _, f2⟩ := DataW.trod_int Tryz.underlying2 g2
    obtain ⟨N, ev3, _, f3⟩ := DataW.trod_int Tryz.underlying2 g3
    have w1 : v1 = .int .i64 F := by simpa using ev1
    have w2 : v2 = .int .i64 T := by simpa using ev2
    have w3 : v3 = .int .i64 N := by simpa using ev3
    simp [Lit.wf, IntKind.min, IntKind.max, IntKind.signed, IntKind.bits] at f1 f2 f3
    exact ⟨a, n, c, F, T, N, ss, by rw [w1, w2, w3], hx, hn, by omega, by omega, by omega⟩

end Go.Proofs.YtmjenemjbpimcabGreat
/- OverShift: the row. -/
namespace Go.Proofs.YtmjenemjbpimcabGreat
open Go.ChangeShapes Go.WideShapes Go.ChangeAt Go.RowKit

/-- Samples that are nought behind the last one. -/
theorem hyp_cut {a : Option Addr} {n : Nat} {ss : Nat → Smp} {w : World} (h : HypW a n ss w) : ∃ s2 : Nat → Smp, HypW a n s2 w ∧ ∀ j, n ≤ j → s2 j = ⟨0, 0, false⟩ := by
  refine ⟨fun j => if j < n then ss j else ⟨0, 0, false⟩, ⟨?_, fun j hj => ?_, h.2.2⟩, fun j hj => if_neg (by omega)⟩
  · rcases h.1 with h0 | ⟨g, o, e, hg, hat⟩
    · exact .inl h0
    · refine .inr ⟨g, o, e, hg, fun j hj => ?_⟩
      dsimp only
      rw [if_pos hj]
      exact hat j hj
  · dsimp only
    rw [if_pos hj]
    exact h.2.1 j hj

set_option maxRecDepth 100000 in
theorem shift_lifted (os : Os) (started : os.Started) (H : Type) (enc : TypeId × Value → H) :
    ReturnsInHanded {} Tryz.checked os 3 .any (Rows.overShiftSpec.pre6 enc Tryz.prog Tryz.f3 Rows.overShiftRow.domain false) (Rows.overShiftSpec.post enc Tryz.prog Tryz.f3 false true false false) := by
  refine returnsInHanded_of_change_sized (C := Tryz.checked) own started (by kernel_rfl) Tryz.func3
    (ChangeSpec.witness6 (enc := enc) (C := Tryz.checked) false ⟨#[], #[.agg #[.slice none 0 0, .int .i64 0, .int .i64 0, .int .i64 0], .int .i64 0, .float .f64 0], []⟩ 8 (by kernel_rfl) (by kernel_rfl) (by kernel_rfl) (by kernel_rfl)) ?_
  intro W base args ds gs before hval0 hW hcnd hsz0 _
  have hval : ∀ (j : Nat) t v, Tryz.f3.params[j]? = some t → args[j]? = some v → Value.okWide Tryz.prog W .any base t v := hval0
  have hsz : (DataW.weightsEach Tryz.prog (Tryz.f3.params.toList ++ Rows.overShiftSpec.plain.varTypes Tryz.prog) (ds ++ gs)).all (· ≤ reachBytes) = true := hsz0
  have hW' := hW
  obtain ⟨p, q, hA0, hV, rfl, hfz, hnd⟩ := hW
  have hA : DataW.TrodAll enc Tryz.prog W 0 (fun _ => true) true Tryz.f3.params.toList args.toList ds p := hA0
  rw [Tryz.params3] at hA hval hsz
  obtain ⟨v0, v1, v2, d0, d1, d2, p0, p1, p2, rfl, rfl, rfl, h0, h1, h2⟩ := trodAll_three hA
  obtain ⟨rfl, rfl⟩ := trodVars_none hV
  obtain ⟨cs, rfl, hcs⟩ := okWide_struct Tryz.underlying24 (hval 0 24 v0 rfl rfl)
  obtain ⟨b, rfl, rfl, rfl, w1⟩ := open_int Tryz.underlying2 (hval 1 2 v1 rfl rfl) h1
  obtain ⟨x, rfl, rfl, rfl, w2⟩ := open_float Tryz.underlying25 (hval 2 25 v2 rfl rfl) h2
  have k0 := h0
  have lt0 : ∀ x ∈ p0, x.block < W.heap.size := by obtain ⟨m, hm⟩ := k0; exact DataW.trod_lt m _ _ _ hm
  have z0 : ∀ n ∈ d0.weights Tryz.prog 24, n ≤ reachBytes := fun n hn => by
    have := List.all_eq_true.1 hsz _ (DataW.weights_mem_each (j := 0) (t := 24) (d := d0) rfl rfl n hn)
    simpa using this
  have walk : Calls Tryz.prog 3 #[.agg cs, .int .i64 b, .float .f64 x] W fun e w' => e = .returned (.bool true) ∧ Below W.heap.size W w' := by
    obtain ⟨fuel, hf0⟩ := h0
    have hf : DataW.trod enc Tryz.prog W 0 (fun _ => true) true fuel 24 cs.toList = some (d0, p0) := hf0
    obtain ⟨a, n, c, F, T, N, ss, ecl, ht, hc, _⟩ := window_open hf z0
    have ecs : cs = #[.slice a n c, .int .i64 F, .int .i64 T, .int .i64 N] := by rw [← Array.toArray_toList (xs := cs), ecl]
    rw [ecs]
    obtain ⟨s2, ht2, hz2⟩ := hyp_cut ht
    exact shift_walk a n c F T N b x s2 W ht2 hc hz2
  refine walk.mono fun e W' ⟨he, bel⟩ => ?_
  subst he
  exact ⟨_, rfl, _, _, _, [], _, [], hW', trodAll_mk1 (shut_bool Tryz.underlying4 _), trodAll_mk3 (Below.trod laidOut (by kernel_rfl) (of_decide_eq_true (by kernel_rfl)) k0 bel lt0) (shut_int Tryz.underlying2 w1) (shut_float Tryz.underlying25 w2), rfl, bel.frame _, fun h => by cases h⟩

theorem shift_said : Rows.OverShiftSaid :=
  OpenClaim.holds_of_wide 3 Tryz.f3 rfl rfl rfl rfl rfl rfl rfl ⟨rfl, rfl, rfl, rfl, rfl⟩ rfl rfl rfl rfl rfl (by kernel_rfl) Tryz.func3 (by kernel_rfl)
    (of_decide_eq_true (by kernel_rfl)) (by unfold Func.isWrapper; first | (rw [if_pos (by decide +kernel)]; kernel_rfl) | (rw [if_neg (by decide +kernel)]; exact ⟨rfl, rfl⟩))
    (fun os started H enc _ => shift_lifted os started H enc)
#print axioms shift_said
end Go.Proofs.YtmjenemjbpimcabGreat
