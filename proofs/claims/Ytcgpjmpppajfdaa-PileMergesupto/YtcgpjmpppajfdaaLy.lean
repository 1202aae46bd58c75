
/- PileMerges: the walk. -/
import Derived.Test.YtcgpjmpppajfdaaLz
import Derived.Test.YtcgpjmpppajfdaaRt
import Derived.Test.YtcgpjmpppajfdaaIb
namespace Go.Proofs.Ytcgpjmpppajfdaa.Li
open Go.RowKit

theorem tot_len {q p : Nat → Ls} : ∀ {n : Nat}, (∀ j, j < n → (q j).2.1 = (p j).2.1) → tot (QL q) n = tot (QL p) n
  | 0, _ => rfl
  | n + 1, h => by
    show tot (QL q) n + (things (q n)).length = tot (QL p) n + (things (p n)).length
    rw [tot_len fun j hj => h j (by omega), things_len, things_len, h n (by omega)]
theorem len_tot {q : Nat → Ls} {n j : Nat} (h : j < n) : (q j).2.1 ≤ tot (QL q) n := by
  have := tot_mono (QL q) n (j + 1) h
  have h2 : tot (QL q) (j + 1) = tot (QL q) j + (things (q j)).length := rfl
  rw [things_len] at h2
  omega
/-- The first loop: so many lists are put. -/
def B1 (q0 : Nat → Ls) (w0 : World) (k : Nat) (vm vi vf : Value) (w : World) : Prop := ∃ q G, LS k q G vm vi vf w0 w ∧ ∀ j, j < k → (q j).2.1 = (q0 j).2.1

set_option maxHeartbeats 8000000 in
set_option maxRecDepth 100000 in
theorem merges_walk (la : Option Addr) (n lc : Nat) (q0 : Nat → Ls) (srt : Bool) (w : World) (hq : Lml w la q0 n) (hn : n ≤ 1048576) (ht : tot (QL q0) n ≤ 1048576) :
    Calls Try.prog 7 #[.slice la n lc, .bool srt] w fun r w' => r = .returned (.bool true) ∧ Below w.heap.size w w' := by
  have HQ : Hid (Lml w la q0 n) := hq
  have HT : Hid (tot (QL q0) n ≤ 1048576) := ht
  have HN : Hid (n ≤ 1048576) := hn
  have hneit := ne_it
  have kM := merge_K (some ⟨w.heap.size + 4, 0, none⟩) 2 2 (qq w.heap.size) (fiveW w) (qq_lml w) (by omega) (by rw [qq_tot]; omega)
  rw [qq_mrg, qq_tot] at kM
  have b5 : Below w.heap.size w (fiveW w) := ((((((Below.refl _ w).alloc (Nat.le_refl _) _).alloc (by simp) _).alloc (by simp; omega) _).alloc (by simp; omega) _).alloc (by simp; omega) _)
  have B5 : Hid _ := b5
  clear hq ht b5
  go_enter Try.func7, Try.ntmps7
  go_wp2_with fail
  go_fit (it_exact 2 1 _)
  rintro r w1 ⟨rfl, rfl⟩
  go_wp2_with fail
  go_fit (it_exact 1 2 _)
  rintro r w2 ⟨rfl, rfl⟩
  go_wp2_with fail
  go_fit kM
  rintro r w3 ⟨v1, rfl, o1, b3⟩
  have B3 : Hid (Below w.heap.size w w3) := B5.out.trans (b3.mono B5.out.size)
  obtain ⟨a1, c1, rfl, im1, _⟩ := o1.iml
  obtain ⟨g1, p1, ha1, e0, e1⟩ := Iml.head im1 (by omega)
  subst ha1
  have e0 : w3.cell? ⟨g1, p1, none⟩ = some (.int .i64 1) := e0
  have e1 : w3.cell? ⟨g1, p1 + 1, none⟩ = some (.int .i64 2) := e1
  have f0 := fun d os => cell_regrown e0 d os
  have f1 := fun d os => cell_regrown e1 d os
  have cI := fun d os => Calls.regrown_of (it_any 1 2 (Go.Sort.grow (redrawn w3 d) os))
  have heq : eqB (1, 2) (1, 2) = true := (eqB_iff _ _).2 rfl
  clear o1 im1 b3 kM B5
  go_wp2_with fail
  refine wp_region_quiet_below (by kernel_rfl) (by kernel_rfl) ?_
  repeat (first | quiet_step (fail) | quiet_step (exact cI _ _))
  refine wpQuiet_nil ?_
  intro _ hw'
  obtain ⟨⟨dq, osq⟩, hw''⟩ := hw'
  subst hw''
  have B4 : Hid (Below w.heap.size w (Go.Sort.grow (redrawn w3 dq) osq)) := B3.out.trans ((below_regrown w3 dq osq).mono B3.out.size)
  clear e0 e1 f0 f1 cI B3 heq
  generalize Go.Sort.grow (redrawn w3 dq) osq = W0 at *
  have HB1 : Hid (B1 q0 w 0 (.slice none 0 0) (.slice none 0 0) (.slice none 0 0) W0) := ⟨q0, fun _ => 0, LS.start w W0 B4.out _ _, fun j hj => by omega⟩
  clear B4
  go_wp2
  go_loopw [6, 7, 8, 39] (fun mv iv fv ivv w' => ∃ (k : Nat) (am ai af : Option Addr) (cm ci cf : Nat), ivv = .int .i64 (k : Int) ∧ k ≤ n ∧ mv = .slice am k cm ∧ iv = .slice ai k ci ∧ fv = .slice af k cf ∧ Hid (B1 q0 w k (.slice am k cm) (.slice ai k ci) (.slice af k cf) w')) (fun _ _ _ ivv _ => n - (RowKit.intOf ivv).toNat)
  case atStart => exact ⟨0, none, none, none, 0, 0, 0, rfl, by omega, rfl, rfl, rfl, HB1⟩
  case round =>
    obtain ⟨k, am, ai, af, cm, ci, cf, rfl, hk, rfl, rfl, rfl, hb1⟩ := hrel
    clear HB1
    by_cases hlt : k < n
    · have hii : (k : Int) < n := by omega
      obtain ⟨q, G, ls, hlen⟩ := hb1.out
      obtain ⟨gl, ol, hla, l0, imx, hxc⟩ := (HQ.out.below ls.bel).at k hlt
      have hxl := len_tot (q := q0) hlt
      have HLS : Hid (LS k q G (.slice am k cm) (.slice ai k ci) (.slice af k cf) w wr) := ls
      have HLN : Hid (∀ j, j < k → (q j).2.1 = (q0 j).2.1) := hlen
      have hL1 : (q0 k).2.1 ≤ 1048576 := by have := HT.out; omega
      have HIM : Hid (Iml wr (q0 k).1 (q0 k).2.2.2 (q0 k).2.1 ∧ (q0 k).2.1 ≤ (q0 k).2.2.1) := ⟨imx, hxc⟩
      have HLT : Hid (k < n) := hlt
      have HOL : Hid (∀ g o, 0 < (q0 k).2.1 → (q0 k).1 = some ⟨g, o, none⟩ → g < w.heap.size) := fun g o h0 e => by
        obtain ⟨g', o', hla', l0', im', _⟩ := HQ.out.at k hlt
        rcases im' with h | ⟨g2, o2, e2, hg2, _⟩
        · omega
        · rw [e] at e2
          cases e2
          exact hg2
      subst hla
      -- what comes behind: the list l lies there as x
      have HPut : Hid (∀ (x : Ls) (w1 : World), Below wr.heap.size wr w1 → x.2.1 = (q0 k).2.1 → Iml w1 x.1 x.2.2.2 x.2.1 → x.2.1 ≤ x.2.2.1 → (∀ b o, 0 < x.2.1 → x.1 = some ⟨b, o, none⟩ → b < w.heap.size ∨ wr.heap.size ≤ b) →
          ∀ w2, Ir w2 w1.heap.size (.slice (some ⟨w1.heap.size, 0, none⟩) (x.2.1 + 40) (x.2.1 + 40)) (x.2.1 + 40) (pf x.2.2.2 x.2.1) → Below w1.heap.size w1 w2 →
          ∃ am' cm' w3 ai' ci' w4 af' cf' w5,
            (Builtin.append_ #[53, 53] 53 #[.slice am k cm, .slice (some ⟨w2.heap.size, 0, none⟩) 1 1]).run Try.prog (w2.alloc (.cells #[sv x] 22)) = .ok (.slice am' (k + 1) cm') w3 ∧
            (Builtin.append_ #[53, 53] 53 #[.slice ai k ci, .slice (some ⟨w3.heap.size, 0, none⟩) 1 1]).run Try.prog (w3.alloc (.cells #[.slice (some ⟨w1.heap.size, 0, none⟩) x.2.1 (x.2.1 + 40)] 22)) = .ok (.slice ai' (k + 1) ci') w4 ∧
            (Builtin.append_ #[53, 53] 53 #[.slice af k cf, .slice (some ⟨w4.heap.size, 0, none⟩) 1 1]).run Try.prog (w4.alloc (.cells #[.slice (some ⟨w1.heap.size, 0, none⟩) (x.2.1 + 40) (x.2.1 + 40)] 22)) = .ok (.slice af' (k + 1) cf') w5 ∧
            B1 q0 w (k + 1) (.slice am' (k + 1) cm') (.slice ai' (k + 1) ci') (.slice af' (k + 1) cf') w5) := fun x w1 b1 hx1 hx2 hx3 hx4 w2 o2 b2 => by
        have ls2 := HLS.out.below (b1.trans (b2.mono b1.size))
        have hs1 := b1.size
        have hrb : ∀ y, Rb (.slice am k cm) (.slice ai k ci) (.slice af k cf) y → w.heap.size ≤ y ∧ y < wr.heap.size := fun y hy => Rb.lt HLS.out hy
        obtain ⟨am', cm', w3, ai', ci', w4, af', cf', w5, r1, r2, r3, ls5⟩ := ls2.push x w1.heap.size (by have := HN.out; have := HLT.out; omega) ⟨hx2.below b2, hx3⟩ (row_base o2 (Nat.le_trans HLS.out.bel.size hs1)) (fun i hi e => by
          have := (World.ownsRow.lt (HLS.out.pt i hi) (G i) rfl).2
          omega) (fun y hy => ⟨fun e => by have := hrb y hy; omega, fun h0 b o e eb => by
            have := hrb y hy
            rcases hx4 b o h0 e with h | h <;> omega⟩)
        refine ⟨am', cm', w3, ai', ci', w4, af', cf', w5, r1, r2, r3, _, _, ls5, fun j hj => ?_⟩
        by_cases e : j = k
        · rw [e, up_same]; exact hx1
        · rw [up_other _ _ _ _ e]; exact HLN.out j (by omega)
      clear ls hlen imx hxc hb1 hxl
      cases srt with
      | true =>
        obtain ⟨⟨xa, xn, xc, xf⟩, hx⟩ : ∃ x, q0 k = x := ⟨_, rfl⟩
        rw [hx] at l0 hL1 HIM HOL HPut
        dsimp only at l0 hL1 HIM HOL
        have kS := rsorted_any false xn xa xc xf wr HIM.out.1 HIM.out.2 (by omega)
        clear hx
        go_wp2_with fail
        go_fit kS
        rintro r w1 ⟨vs, ys, rfl, hyl, o1, _, b1⟩
        obtain ⟨sa, sc, rfl, im1, hsc⟩ := o1.iml
        have kP := put_any sa sc xn (lk ys) w1 im1 (by omega)
        have HP2 : Hid _ := HPut.out (sa, xn, sc, lk ys) w1 b1 rfl im1 hsc (fun b o h0 e => by
          right
          have e' : sa = some ⟨b, o, none⟩ := e
          have h7 := (World.ownsRow.lt o1 b (by rw [e']; rfl)).1
          exact h7)
        clear HPut o1 im1 b1 hsc kS hyl
        go_wp2_with fail
        go_fit kP
        rintro r w2 ⟨rfl, o2, b2⟩
        obtain ⟨am', cm', w3, ai', ci', w4, af', cf', w5, r1, r2, r3, hb⟩ := HP2.out w2 o2 b2
        have HB : Hid _ := hb
        clear o2 b2 hb HP2 kP HIM
        go_wp2_with (first | (at_builtin; refine wpList_append_run rfl (.tmp 51) (.tmp 53) 53 53 rfl _ _ rfl rfl r1 ?_) | (at_builtin; refine wpList_append_run rfl (.tmp 55) (.tmp 57) 53 53 rfl _ _ rfl rfl r2 ?_) | (at_builtin; refine wpList_append_run rfl (.tmp 59) (.tmp 61) 53 53 rfl _ _ rfl rfl r3 ?_))
        exact ⟨⟨k + 1, _, _, _, _, _, _, by go_num, HLT.out, rfl, rfl, rfl, HB⟩, by simp [RowKit.intOf]; omega⟩
      | false =>
        obtain ⟨⟨xa, xn, xc, xf⟩, hx⟩ : ∃ x, q0 k = x := ⟨_, rfl⟩
        rw [hx] at l0 hL1 HIM HOL HPut
        dsimp only at l0 hL1 HIM HOL
        have kP := put_any xa xc xn xf wr HIM.out.1 (by omega)
        have HP2 : Hid _ := HPut.out (xa, xn, xc, xf) wr (Below.refl _ _) rfl HIM.out.1 HIM.out.2 (fun b o h0 e => .inl (HOL.out b o h0 e))
        clear hx HPut
        go_wp2_with fail
        go_fit kP
        rintro r w2 ⟨rfl, o2, b2⟩
        obtain ⟨am', cm', w3, ai', ci', w4, af', cf', w5, r1, r2, r3, hb⟩ := HP2.out w2 o2 b2
        have HB : Hid _ := hb
        clear o2 b2 hb HP2 kP HIM
        go_wp2_with (first | (at_builtin; refine wpList_append_run rfl (.tmp 51) (.tmp 53) 53 53 rfl _ _ rfl rfl r1 ?_) | (at_builtin; refine wpList_append_run rfl (.tmp 55) (.tmp 57) 53 53 rfl _ _ rfl rfl r2 ?_) | (at_builtin; refine wpList_append_run rfl (.tmp 59) (.tmp 61) 53 53 rfl _ _ rfl rfl r3 ?_))
        exact ⟨⟨k + 1, _, _, _, _, _, _, by go_num, HLT.out, rfl, rfl, rfl, HB⟩, by simp [RowKit.intOf]; omega⟩
    · have hii : ¬ (k : Int) < n := by omega
      obtain rfl : k = n := by omega
      obtain ⟨q, G, ls, hlen⟩ := hb1.out
      have htq : tot (QL q) k ≤ 1048576 := by rw [tot_len hlen]; exact HT.out
      obtain ⟨am', cm', em, lm⟩ := ls.lm
      cases em
      have kW := rmerge_any false am k cm q wr lm (by omega) (by omega)
      have HLS : Hid (LS k q G (.slice am k cm) (.slice ai k ci) (.slice af k cf) w wr) := ls
      have HTQ : Hid (tot (QL q) k ≤ 1048576) := htq
      have hqi : QL (inQ q G) = QL q := rfl
      obtain ⟨B0, hB0⟩ : ∃ B0, B0 = wr.heap.size := ⟨_, rfl⟩
      have HB0 : Hid (B0 = wr.heap.size) := hB0
      have HGB : Hid (∀ i, i < k → G i < B0 ∧ w.heap.size ≤ G i) := fun i hi => by
        have := World.ownsRow.lt (ls.pt i hi) (G i) rfl
        rw [hB0]
        exact ⟨this.2, this.1⟩
      clear hB0
      clear ls hlen hb1 lm
      generalize hT1 : mrA false k (QL q) = T1 at *
      generalize hT2 : mrA true k (QL q) = T2 at *
      have HT1 : Hid (mrA false k (QL q) = T1) := hT1
      have HT2 : Hid (mrA true k (QL q) = T2) := hT2
      have htl1 : T1.length = tot (QL q) k := by rw [← hT1]; exact mrA_len _ _ _ _ rfl
      have htl2 : T2.length = tot (QL q) k := by rw [← hT2]; exact mrA_len _ _ _ _ rfl
      rw [← htl1] at kW
      have HTL : Hid (T1.length = tot (QL q) k ∧ T2.length = tot (QL q) k) := ⟨htl1, htl2⟩
      clear hT1 hT2 htl1 htl2 htq
      go_wp2_with fail
      go_fit kW
      rintro r wA ⟨vw, rfl, oW, bA⟩
      have HOW : Hid (Own wr.heap.size wA vw T1) := oW
      have HOW2 : Hid (Own B0 wA vw T1) := by rw [HB0.out]; exact oW
      have lsA := HLS.out.below bA
      obtain ⟨ai', ci', ei, li⟩ := lsA.li
      cases ei
      have kA := merge_K ai k ci (inQ q G) wA li (by omega) (by have := HTQ.out; rw [hqi]; omega)
      rw [hqi, HT1.out, ← HTL.out.1] at kA
      have HBA : Hid (Below wr.heap.size wr wA) := bA
      clear oW bA lsA li kW
      go_wp2_with fail
      go_fit kA
      rintro r w8 ⟨v8, rfl, o8, b8⟩
      have HO8 : Hid (Own wA.heap.size w8 v8 T1) := o8
      have HB8 : Hid (Below wA.heap.size wA w8) := b8
      have ls8 := HLS.out.below (HBA.out.trans (b8.mono HBA.out.size))
      obtain ⟨ai', ci', ei, li⟩ := ls8.li
      cases ei
      have kN := merge_N ai k ci (inQ q G) w8 li (by omega) (by have := HTQ.out; rw [hqi]; omega)
      rw [hqi, HT2.out, ← HTL.out.2] at kN
      clear o8 b8 ls8 li kA
      go_wp2_with fail
      go_fit kN
      rintro r w9 ⟨v9, rfl, o9, b9⟩
      have HO9 : Hid (Own w8.heap.size w9 v9 T2) := o9
      have HB9 : Hid (Below w8.heap.size w8 w9) := b9
      have HAr : Hid (Below wr.heap.size wr w9) := HBA.out.trans ((HB8.out.trans (b9.mono HB8.out.size)).mono HBA.out.size)
      have ls9 := HLS.out.below HAr.out
      obtain ⟨ai', ci', ei, li⟩ := ls9.li
      cases ei
      have kB := merge_K ai k ci (inQ q G) w9 li (by omega) (by have := HTQ.out; rw [hqi]; omega)
      rw [hqi, HT1.out, ← HTL.out.1] at kB
      clear o9 b9 ls9 li kN
      go_wp2_with fail
      go_fit kB
      rintro r w10 ⟨v10, rfl, o10, b10⟩
      have HO10 : Hid (Own w9.heap.size w10 v10 T1) := o10
      have HB10 : Hid (Below w9.heap.size w9 w10) := b10
      clear o10 b10 kB
      obtain ⟨aw, cw, ew, iw⟩ := Own.iml HOW.out
      obtain ⟨a8, c8, e8, i8⟩ := Own.iml HO8.out
      obtain ⟨a9, c9, e9, i9⟩ := Own.iml HO9.out
      obtain ⟨a10, c10, e10, i10⟩ := Own.iml HO10.out
      subst ew e8 e9 e10
      have b910 : Below w8.heap.size w8 w10 := HB9.out.trans (HB10.out.mono HB9.out.size)
      have b810 : Below wA.heap.size wA w10 := HB8.out.trans (b910.mono HB8.out.size)
      have kS1 := same_true a8 aw c8 cw T1.length (lk T1) w10 (i8.below b910) (iw.below b810) (by have := HTL.out.1; have := HTQ.out; omega)
      have HI1 : Hid (∀ W, Below w10.heap.size w10 W → Iml W a10 (lk T1) T1.length ∧ Iml W aw (lk T1) T1.length ∧ Iml W a9 (lk T2) T2.length) := fun W b => ⟨i10.below b, (iw.below b810).below b, (i9.below HB10.out).below b⟩
      have HR10 : Hid (Below wr.heap.size wr w10) := HAr.out.trans (HB10.out.mono HAr.out.size)
      clear iw i8 i9 i10 b910 b810
      go_wp2_with fail
      go_fit kS1
      rintro r w11 ⟨rfl, b11⟩
      have HB11 : Hid (Below w10.heap.size w10 w11) := b11
      obtain ⟨i10, iw, i9⟩ := HI1.out w11 b11
      have kS2 := same_true a10 aw c10 cw T1.length (lk T1) w11 i10 iw (by have := HTL.out.1; have := HTQ.out; omega)
      clear b11 kS1 i10 iw i9
      go_wp2_with fail
      go_fit kS2
      rintro r w12 ⟨rfl, b12⟩
      have HB12 : Hid (Below w10.heap.size w10 w12) := HB11.out.trans (b12.mono HB11.out.size)
      have ls12 := HLS.out.below (HR10.out.trans (HB12.out.mono HR10.out.size))
      obtain ⟨am', cm', em, lm⟩ := ls12.lm
      cases em
      have kW2 := rmerge_any true am k cm q w12 lm (by omega) (by have := HTQ.out; omega)
      rw [HT2.out, ← HTL.out.2] at kW2
      clear b12 ls12 lm kS2
      go_wp2_with fail
      go_fit kW2
      rintro r w13 ⟨v13, rfl, o13, b13⟩
      obtain ⟨a13, c13, e13, i13⟩ := Own.iml (show Own w12.heap.size w13 v13 T2 from o13)
      subst e13
      have HB13 : Hid (Below w10.heap.size w10 w13) := HB12.out.trans (b13.mono HB12.out.size)
      obtain ⟨_, _, i9⟩ := HI1.out w13 HB13.out
      have kS3 := same_true a9 a13 c9 c13 T2.length (lk T2) w13 i9 i13 (by have := HTL.out.2; have := HTQ.out; omega)
      clear o13 b13 i13 i9 kW2
      go_wp2_with fail
      go_fit kS3
      rintro r w14 ⟨rfl, b14⟩
      have HB14 : Hid (Below w10.heap.size w10 w14) := HB13.out.trans (b14.mono HB13.out.size)
      clear b14 kS3
      have hnk : ((k : Int) != (k : Int)) = false := by simp
      have o14 : Own w9.heap.size w14 (.slice a10 T1.length c10) T1 := (Kp.of (M := fun _ => False) HB14.out).row HO10.out (fun _ _ => id)
      have b914 : Below w9.heap.size w9 w14 := HB10.out.trans (HB14.out.mono HB10.out.size)
      have al := AL.start HO8.out HB8.out HO9.out HB9.out o14 b914
      obtain ⟨BL, cp, col, eBL, st0, p1'⟩ := al.colours (by omega)
      cases eBL
      have kAp := apart_any 3 wA.heap.size w14.heap.size 3 _ _ col _ (by omega) (fun j hj => by
        have h1 := HTL.out.1
        have h2 := HTL.out.2
        have h3 := HTQ.out
        rcases (by omega : j = 0 ∨ j = 1 ∨ j = 2) with rfl | rfl | rfl
        · show T1.length ≤ _; omega
        · show T2.length ≤ _; omega
        · show T1.length ≤ _; omega) st0 p1'
      have HAB : Hid (Below wA.heap.size wA (w14.alloc (.cells #[.slice a8 T1.length c8, .slice a9 T2.length c9, .slice a10 T1.length c10] 22))) := al.below
      clear o14 b914 al st0 p1'
      go_wp2_with fail
      go_fit kAp
      rintro r w15 ⟨rfl, b15⟩
      have HA15 : Hid (Below wA.heap.size wA w15) := HAB.out.trans b15
      have HLA : Hid (LS k q G (.slice am k cm) (.slice ai k ci) (.slice af k cf) w wA) := HLS.out.below HBA.out
      have hlq : ∀ j, j < k → (q j).2.1 ≤ 1048576 := fun j hj => by have := len_tot (q := q) hj; have := HTQ.out; omega
      have HLQ : Hid (∀ j, j < k → (q j).2.1 ≤ 1048576) := hlq
      clear b15 kAp HAB hlq HB14 HB13 HB12 HB11 HI1 HR10 HB10 HB9 HB8 HO10 HO9 HO8 HAr hnk
      go_wp2
      go_loopw [104] (fun ivv w' => ∃ (i : Nat), ivv = .int .i64 (i : Int) ∧ i ≤ k ∧ Hid (Below wA.heap.size wA w')) (fun ivv _ => k - (RowKit.intOf ivv).toNat)
      case atStart => exact ⟨0, rfl, by omega, HA15⟩
      case round =>
        obtain ⟨i, rfl, hik, hbw⟩ := hrel
        by_cases hil : i < k
        · have hii2 : (i : Int) < k := by omega
          have lsr := HLA.out.below hbw.out
          obtain ⟨am', cm', em, lm⟩ := lsr.lm
          cases em
          obtain ⟨ai', ci', ei, li⟩ := lsr.li
          cases ei
          obtain ⟨af', cf', ef, lf⟩ := lsr.lf
          cases ef
          obtain ⟨g1', o1', hm', m0, imm, _⟩ := lm.at i hil
          obtain ⟨g2', o2', hi', i0, imi, _⟩ := li.at i hil
          obtain ⟨g3', o3', hf', f0, imf, _⟩ := lf.at i hil
          subst hm' hi' hf'
          have hl := HLQ.out i hil
          have kWh := fun W (b : Below wr.heap.size wr W) => whole_true (G i) (q i).1 (q i).2.2.1 ((q i).2.1 + 40) (q i).2.1 (q i).2.2.2 W (imf.below b) (imm.below b) (Nat.le_refl _) (by omega)
          have kSa := fun W (b : Below wr.heap.size wr W) => same_true (some ⟨G i, 0, none⟩) (q i).1 ((q i).2.1 + 40) (q i).2.2.1 (q i).2.1 (q i).2.2.2 W (imi.below b) (imm.below b) (by omega)
          have HNx : Hid (∀ d os, Below wA.heap.size wA (Go.Sort.grow (redrawn wr d) os)) := fun d os => hbw.out.trans ((below_regrown wr d os).mono hbw.out.size)
          have cW := fun d os => Calls.regrown_of (kWh _ (below_regrown wr d os))
          have cS := fun d os => Calls.regrown_of (kSa _ (below_regrown wr d os))
          have HIL : Hid (i < k) := hil
          clear lsr lm li lf imm imi imf kWh kSa
          dsimp only at i0 f0
          generalize (q i).1 = xa at *
          generalize (q i).2.2.1 = xc at *
          generalize (q i).2.1 = xn at *
          generalize G i = gi at *
          have z0 := fun d os => cell_regrown m0 d os
          have z1 := fun d os => cell_regrown i0 d os
          have z2 := fun d os => cell_regrown f0 d os
          go_wp2_with fail
          refine wp_region_quiet_below (by kernel_rfl) (by kernel_rfl) ?_
          repeat (first | quiet_step (fail) | quiet_step (exact cW _ _) | quiet_step (exact cS _ _))
          refine wpQuiet_nil ?_
          intro _ hw'
          obtain ⟨⟨dq, osq⟩, hw''⟩ := hw'
          subst hw''
          have HN2 : Hid _ := HNx.out dq osq
          clear m0 i0 f0 z0 z1 z2 cW cS HNx
          generalize Go.Sort.grow (redrawn wr dq) osq = W2 at *
          go_wp2
          exact ⟨⟨i + 1, by go_num, HIL.out, HN2⟩, by simp [RowKit.intOf]; omega⟩
        · have hii2 : ¬ (i : Int) < k := by omega
          have lsr := HLA.out.below hbw.out
          obtain ⟨ai', ci', ei, li⟩ := lsr.li
          cases ei
          have kC := merge_K ai k ci (inQ q G) wr li (by omega) (by have := HTQ.out; rw [hqi]; omega)
          rw [hqi, HT1.out, ← HTL.out.1] at kC
          have HLR : Hid (LS k q G (.slice am k cm) (.slice ai k ci) (.slice af k cf) w wr) := lsr
          clear lsr li
          go_wp2_with fail
          go_fit kC
          rintro r w16 ⟨vc, rfl, oC, bC⟩
          obtain ⟨ac, cc, eC, iC⟩ := Own.iml (show Own wr.heap.size w16 vc T1 from oC)
          subst eC
          have MS0 : Hid (MS k q G (.slice ai k ci) (.slice aw T1.length cw) (.slice ac T1.length cc) T1 w B0 w16) := by
            have bA16 : Below wA.heap.size wA w16 := hbw.out.trans (bC.mono hbw.out.size)
            refine ⟨(NS.of HLR.out).below bC, (Kp.of (M := fun _ => False) bA16).row HOW2.out (fun _ _ => id), row_base (show w16.ownsRow _ _ _ _ _ _ from oC) (by
              rw [HB0.out]
              exact Nat.le_trans HBA.out.size hbw.out.size), HGB.out, HLR.out.bel.trans (bC.mono HLR.out.bel.size)⟩
          clear oC bC iC kC HLR HOW2 HOW HLA HLS hbw
          go_wp2
          go_loopw [134] (fun ivv w' => ∃ (i : Nat), ivv = .int .i64 (i : Int) ∧ i ≤ k ∧ Hid (MS k q G (.slice ai k ci) (.slice aw T1.length cw) (.slice ac T1.length cc) T1 w B0 w')) (fun ivv _ => k - (RowKit.intOf ivv).toNat)
          case atStart => exact ⟨0, rfl, by omega, MS0⟩
          case round =>
            obtain ⟨i, rfl, hik, ms⟩ := hrel
            by_cases hil : i < k
            · have hii3 : (i : Int) < k := by omega
              obtain ⟨gv, cv, ev, i0⟩ := ms.out.ns.at i hil
              cases ev
              have HIL : Hid (i < k) := hil
              obtain ⟨xn, hxn⟩ : ∃ xn, xn = (q i).2.1 := ⟨_, rfl⟩
              have HXN : Hid (xn = (q i).2.1) := hxn
              have hl : xn ≤ 1048576 := by rw [hxn]; exact HLQ.out i hil
              rw [← hxn] at i0
              clear hxn
              go_wp2
              go_loopw [142] (fun jv w' => ∃ (j : Nat), jv = .int .i64 (j : Int) ∧ j ≤ xn ∧ Hid (MS k q G (.slice (some ⟨gv, 0, none⟩) k ci) (.slice aw T1.length cw) (.slice ac T1.length cc) T1 w B0 w')) (fun jv _ => xn - (RowKit.intOf jv).toNat)
              case atStart => exact ⟨0, rfl, by omega, ms⟩
              case round =>
                obtain ⟨j, rfl, hj, ms2⟩ := hrel
                by_cases hjl : j < xn
                · have hji : (j : Int) < xn := by omega
                  obtain ⟨⟨z, k0⟩, f0, hz⟩ := ms2.out.key i j HIL.out (by rw [← HXN.out]; exact hjl)
                  obtain ⟨gv', cv', ev, j0⟩ := ms2.out.ns.at i HIL.out
                  cases ev
                  rw [← HXN.out] at j0
                  have HZ : Hid (∀ z, MS k q G (.slice (some ⟨gv, 0, none⟩) k ci) (.slice aw T1.length cw) (.slice ac T1.length cc) T1 w B0 (wr.setCell ⟨G i, j * 2, none⟩ (.int .i64 z)).drew) := fun z => (hz z).below (Below.refl _ _).drew
                  have HJL : Hid (j < xn) := hjl
                  clear hz ms ms2 i0
                  generalize G i = gi at *
                  go_wp2_with fail
                  go_region
                  go_wp2
                  exact ⟨⟨j + 1, by go_num, HJL.out, HZ.out _⟩, by simp [RowKit.intOf]; omega⟩
                · have hji : ¬ (j : Int) < xn := by omega
                  go_wp2
                  exact ⟨⟨i + 1, by go_num, HIL.out, ms2⟩, by simp [RowKit.intOf]; omega⟩
            · have hii3 : ¬ (i : Int) < k := by omega
              obtain ⟨_, _, ewx, iw⟩ := Own.iml ms.out.ow
              cases ewx
              obtain ⟨_, _, ecx, ic⟩ := Own.iml ms.out.oc
              cases ecx
              have kS := same_true ac aw cc cw T1.length (lk T1) wr ic iw (by have := HTL.out.1; have := HTQ.out; omega)
              clear iw ic
              go_wp2_with fail
              go_fit kS
              rintro r w17 ⟨rfl, b17⟩
              have ms17 := ms.out.below b17
              obtain ⟨q', hq', ai', ci', ei, li⟩ := ms17.ns.li
              cases ei
              have htq' : tot (QL q') k ≤ 1073741824 := by rw [tot_len hq']; have := HTQ.out; omega
              have kM1 := merge_K ai k ci q' w17 li (by omega) htq'
              have HL17 : Hid (Lml w17 ai q' k) := li
              have HM17 : Hid (Below w.heap.size w w17) := ms17.bel
              have htl : (mrA false k (QL q')).length = tot (QL q') k := mrA_len _ _ _ _ rfl
              rw [← htl] at kM1
              have HTL2 : Hid ((mrA false k (QL q')).length = tot (QL q') k) := htl
              have HTQ2 : Hid (tot (QL q') k ≤ 1073741824) := htq'
              clear ms17 li b17 kS htl htq' hq' ms MS0
              go_wp2_with fail
              go_fit kM1
              rintro r w18 ⟨v18, rfl, o18, b18⟩
              obtain ⟨a18, c18, e18, i18⟩ := Own.iml (show Own w17.heap.size w18 v18 _ from o18)
              subst e18
              have kR1 := rmerge_any false ai k ci q' w18 (HL17.out.below b18) (by omega) HTQ2.out
              rw [← HTL2.out] at kR1
              have HI18 : Hid (∀ W, Below w18.heap.size w18 W → Iml W a18 (lk (mrA false k (QL q'))) (mrA false k (QL q')).length) := fun W b => i18.below b
              have HB18 : Hid (Below w.heap.size w w18) := HM17.out.trans (b18.mono HM17.out.size)
              clear o18 i18 b18 kM1
              go_wp2_with fail
              go_fit kR1
              rintro r w19 ⟨v19, rfl, o19, b19⟩
              obtain ⟨a19, c19, e19, i19⟩ := Own.iml (show Own w18.heap.size w19 v19 _ from o19)
              subst e19
              have kS4 := same_true a18 a19 c18 c19 _ (lk (mrA false k (QL q'))) w19 (HI18.out _ b19) i19 (by have := HTL2.out; have := HTQ2.out; omega)
              have HB19 : Hid (Below w.heap.size w w19) := HB18.out.trans (b19.mono HB18.out.size)
              clear o19 i19 b19 kR1 HI18
              go_wp2_with fail
              go_fit kS4
              rintro r w20 ⟨rfl, b20⟩
              have HB20 : Hid (Below w.heap.size w w20) := HB19.out.trans (b20.mono HB19.out.size)
              clear b20 kS4
              go_wp2
              go_ret
              exact ⟨rfl, HB20.out⟩
end Go.Proofs.Ytcgpjmpppajfdaa.Li
