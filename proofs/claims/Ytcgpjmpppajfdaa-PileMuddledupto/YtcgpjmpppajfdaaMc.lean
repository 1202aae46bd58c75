/- PileMuddled: the walk. -/
import Derived.Test.YtcgpjmpppajfdaaMb
namespace Go.Proofs.Ytcgpjmpppajfdaa
open Go.RowKit

set_option maxHeartbeats 4000000 in
set_option maxRecDepth 100000 in
theorem muddled_walk (a : Option Addr) (c n : Nat) (xs : Nat → It) (w : World) (hf : Iml w a xs n) (hl : n ≤ 1048576) :
    Calls Try.prog 3 #[.slice a n c] w fun r w' => r = .returned (.bool true) ∧ Below w.heap.size w w' := by
  have HF : Hid (Iml w a xs n) := hf
  obtain ⟨G, hG⟩ : ∃ G, G = w.heap.size := ⟨_, rfl⟩
  have HG : Hid (G = w.heap.size) := hG
  rw [← hG]
  clear hG hf
  obtain ⟨N, hN⟩ : ∃ N, N = n + 1 := ⟨_, rfl⟩
  have HN : Hid (N = n + 1) := hN
  have hNb : N ≤ 1048577 := by omega
  clear hN
  go_enter Try.func3, Try.ntmps3
  go_wp2_with fail
  refine (it_any 1 1 w).mono ?_
  rintro r w1 ⟨rfl, b1⟩
  obtain ⟨va, w2, ra, oa, ba⟩ := app_list w1 (1, 1) a c n xs (HF.out.below b1) (by omega)
  obtain ⟨al, hal⟩ : ∃ al, al = cns (1, 1) xs := ⟨_, rfl⟩
  rw [← hal, ← HN.out] at oa
  obtain ⟨a1, c1, rfl, im1, hc1⟩ := oa.iml
  have B2 : Hid (Below G w w2) := by rw [HG.out]; exact b1.trans (ba.mono b1.size)
  have IM1 : Hid (Iml w2 a1 al N) := im1
  clear oa im1 ba b1 hal
  go_wp2_with (at_builtin; refine wpList_append_run rfl (.tmp 17) (.tmp 18) 22 22 rfl _ _ rfl rfl ra ?_)
  have kS := sorted_any (inO lsM) lvM lvM (fun _ => ((0, 0), 0)) (new_some 11 _) aheadM a1 c1 N al w2 IM1.out (by omega)
  obtain ⟨T, hT⟩ : ∃ T, T = outL (inO lsM) N (inF (inO lsM) (fun _ => ((0, 0), 0)) al N) := ⟨_, rfl⟩
  rw [← hT] at kS
  have HT : Hid (T = outL (inO lsM) N (inF (inO lsM) (fun _ => ((0, 0), 0)) al N)) := hT
  clear hT ra
  go_wp2_with fail
  refine kS.mono ?_
  rintro r w3 ⟨vl, rfl, ol, bl⟩
  obtain ⟨a2, c2, rfl, im2, hc2⟩ := ol.iml
  have B3 : Hid (Below G w w3) := B2.out.trans (bl.mono (by rw [HG.out]; exact (HG.out ▸ B2.out).size))
  have IM2 : Hid (Iml w3 a2 (lk T) N) := im2
  have IM3 : Hid (Iml w3 a1 al N) := IM1.out.below bl
  clear ol im2 bl IM1 B2 kS
  have kN := new_some 11 (fun _ => ((0, 0), 0)) w3
  obtain ⟨B, hB⟩ : ∃ B, B = w3.heap.size := ⟨_, rfl⟩
  have HBB : Hid (B = w3.heap.size) := hB
  rw [← hB] at kN
  clear hB
  go_wp2_with fail
  refine kN.mono ?_
  rintro r w4 ⟨rfl, p4, b4⟩
  have P4 : Hid _ := p4
  have B4 : Hid (Below B w3 w4) := b4
  clear p4 b4 kN
  go_wp2
  go_loopw [25] (fun ivv w' => ∃ (i : Nat) (v : Value), ivv = .int .i64 (i : Int) ∧ i ≤ N ∧ Hid (Pl w' (B + 1) B lvM v i (inF (inO lsM) (fun _ => ((0, 0), 0)) al i) i) ∧ Hid (∀ k, v.ownBlock = some k → B ≤ k) ∧ Hid (Below B w3 w')) (fun ivv _ => N - (RowKit.intOf ivv).toNat)
  case atStart => exact ⟨0, _, rfl, by omega, P4, (fun k e => by cases e), B4⟩
  case round =>
    obtain ⟨i, v, rfl, hi, pl, hv, hb⟩ := hrel
    have hBw : B ≤ wr.heap.size := by rw [HBB.out]; exact (HBB.out ▸ hb.out).size
    by_cases hlt : i < N
    · have hii : (i : Int) < N := by omega
      rcases IM3.out with h0 | ⟨g, o, rfl, hg, hat⟩
      · omega
      rw [← HBB.out] at hg
      have q1 := (hb.out.cell (p := ⟨g, o + i * 2, none⟩) hg).trans (hat i hlt).1
      have q2 := (hb.out.cell (p := ⟨g, o + i * 2 + 1, none⟩) hg).trans (hat i hlt).2
      have HI : Hid (i + 1 ≤ N) := hlt
      have pl2 := pl.out.below ((Below.refl _ wr).alloc (Nat.le_refl _) (iX (al i)))
      have kP := ppush_any (inO lsM) (B + 1) B i i lvM v _ (al i) _ aheadM pl2 (by omega) (by omega)
      obtain ⟨FF, hFF⟩ : ∃ FF, FF = inF (inO lsM) (fun _ => ((0, 0), 0)) al (i + 1) := ⟨_, rfl⟩
      rw [show riseF (inO lsM) (up (inF (inO lsM) (fun _ => ((0, 0), 0)) al i) i (al i, (i : Int))) i = FF from hFF.symm] at kP
      have HFE : Hid (FF = inF (inO lsM) (fun _ => ((0, 0), 0)) al (i + 1)) := hFF
      have HB2 : Hid (Below B w3 (wr.alloc (iX (al i)))) := hb.out.alloc hBw _
      clear hat pl2 hFF
      obtain ⟨⟨xk, xi⟩, hx⟩ : ∃ x, al i = x := ⟨_, rfl⟩
      rw [hx] at q1 q2 kP HB2
      dsimp only at q1 q2
      clear hx
      go_wp2_with fail
      refine kP.mono ?_
      rintro r w5 ⟨rfl, g2, c2, p2, k2, hg2⟩
      have P2 : Hid _ := p2
      have K2 : Hid _ := k2
      have G2 : Hid _ := hg2
      clear p2 k2 hg2 kP
      go_wp2
      refine ⟨⟨i + 1, _, by go_num, HI.out, by rw [← HFE.out]; exact P2, fun k e => ?_, HB2.out.trans (K2.out.below (by simp; omega) (fun k hk e => ?_))⟩, by simp [RowKit.intOf]; omega⟩
      · have e' : g2 = k := Option.some.inj e
        rcases G2.out with h | h
        · exact e' ▸ hv.out g2 h
        · simp at h; omega
      · rcases e with e | e
        · omega
        · have := hv.out k e
          omega
    · have hii : ¬ (i : Int) < N := by omega
      obtain rfl : i = N := by omega
      have pm : PM B i w3 (inO lsM) T lvM wr i [] v (.slice none 0 0) (inF (inO lsM) (fun _ => ((0, 0), 0)) al i) := ⟨pl.out, World.ownsRow_nil _ _ _ _, HT.out.symm, hv.out, hb.out⟩
      have HPM : Hid (∃ v f, PM B i w3 (inO lsM) T lvM wr i [] v (.slice none 0 0) f) := ⟨_, _, pm⟩
      have HTl : Hid (T.length = i) := by show _ = _; rw [HT.out]; exact outL_len _ _ _
      clear pm pl hv hb
      go_wp2
      go_loopw [35, 8] (fun ivv vm w' => ∃ (p : Nat) (pre : List It) (am : Option Addr) (cm : Nat), ivv = .int .i64 (pre.length : Int) ∧ vm = .slice am pre.length cm ∧ pre.length + p = i ∧ Hid (∃ v f, PM B i w3 (inO lsM) T lvM w' p pre v (.slice am pre.length cm) f)) (fun ivv _ _ => i - (RowKit.intOf ivv).toNat)
      case atStart => exact ⟨i, [], none, 0, rfl, rfl, by simp, HPM⟩
      case round =>
        obtain ⟨p, pre, am, cm, rfl, rfl, hp, hpm⟩ := hrel
        obtain ⟨v, f, pm⟩ := hpm.out
        clear hpm HPM
        by_cases hlt : pre.length < i
        · obtain ⟨p, rfl⟩ : ∃ p', p = p' + 1 := ⟨p - 1, by omega⟩
          have hii : (pre.length : Int) < i := by omega
          have kQ := pm.step aheadM (by omega) (by omega)
          obtain ⟨⟨⟨xk, xi⟩, xr⟩, hx⟩ : ∃ x, f 0 = x := ⟨_, rfl⟩
          rw [hx] at kQ
          dsimp only at kQ
          have HP : Hid (pre.length + (p + 1) = i) := hp
          clear pm hx hp
          obtain ⟨L, hL⟩ : ∃ L, L = pre.length := ⟨_, rfl⟩
          have HL : Hid (L = pre.length) := hL
          rw [← hL] at kQ hii hlt ⊢
          clear hL
          go_wp2_with fail
          refine kQ.mono ?_
          rintro r w5 ⟨rfl, g5, c5, w6, v2, f2, r6, pm6⟩
          have PM6 : Hid _ := pm6
          clear pm6 kQ
          go_wp2_with (at_builtin; refine wpList_append_run rfl (.tmp 44) (.tmp 46) 22 22 rfl _ _ rfl rfl r6 ?_)
          refine ⟨⟨p, pre ++ [(xk, xi)], some ⟨g5, 0, none⟩, c5, ?_, ?_, ?_, ?_⟩, by simp [RowKit.intOf]; omega⟩
          · rw [HL.out]; simp
          · rw [HL.out]; simp
          · have := HP.out; simp; omega
          · rw [show (pre ++ [(xk, xi)]).length = L + 1 by rw [HL.out]; simp]; exact ⟨_, _, PM6.out⟩
        · have hii : ¬ (pre.length : Int) < i := by omega
          obtain rfl : p = 0 := by omega
          have hpl : pre.length = i := by omega
          have hpT : pre = T := by have := pm.out; simpa [outL] using this
          subst hpT
          have kE := ppop_none (B + 1) B i lvM v f wr pm.pl
          obtain ⟨am', cm', e3, im3, _⟩ := Ir.iml pm.row
          cases e3
          have b3w : Below w3.heap.size w3 wr := HBB.out ▸ pm.below
          have J1 : Hid (Iml wr a1 al i) := IM3.out.below b3w
          have J2 : Hid (Iml wr a2 (lk pre) i) := IM2.out.below b3w
          have J3 : Hid (Iml wr am (lk pre) i) := by rw [← hpl]; exact im3
          have BB : Hid (Below G w wr) := B3.out.trans (b3w.mono (by rw [HG.out]; exact (HG.out ▸ B3.out).size))
          have HC : Hid (∀ x, cnt x (lk pre) i = cnt x al i) := fun x => by rw [HT.out]; exact cnt_out _ _ _ _ _
          have HGr : Hid (G ≤ wr.heap.size) := by show _ ≤ _; rw [HG.out]; exact (HG.out ▸ BB.out).size
          rw [hpl]
          have hib : i ≤ 1048577 := hNb
          clear pm im3 b3w IM2 IM3 B3 B4 P4 hpl HT HTl hlt hii hp hi
          go_wp2_with fail
          refine kE.mono ?_
          rintro r w5 ⟨er, b5⟩
          have er : r = .returned (.tuple #[.agg #[.int .i64 0, .int .i64 0], .bool false]) := er
          subst er
          have B5 : Hid (Below wr.heap.size wr (w5.alloc (.cells #[.int .i64 0, .int .i64 0] 24))) := b5.alloc b5.size _
          clear b5 kE
          generalize wr = V at *
          go_wp2
          go_loopw [64] (fun ivv w' => ∃ (j : Nat), ivv = .int .i64 (j : Int) ∧ j ≤ i ∧ Hid (Below V.heap.size V w')) (fun ivv _ => i - (RowKit.intOf ivv).toNat)
          case atStart => exact ⟨0, rfl, by omega, B5⟩
          case round =>
            obtain ⟨j, rfl, hj, hb⟩ := hrel
            by_cases hlt : j < i
            · have hii : (j : Int) < i := by omega
              have hbz := hb.out.size
              rcases id J1.out with h0 | ⟨g, o, rfl, hg, hat⟩
              · omega
              have q1 := (hb.out.cell (p := ⟨g, o + j * 2, none⟩) hg).trans (hat j hlt).1
              have q2 := (hb.out.cell (p := ⟨g, o + j * 2 + 1, none⟩) hg).trans (hat j hlt).2
              have HI : Hid (j + 1 ≤ i) := hlt
              obtain ⟨⟨xk, xi⟩, hx⟩ : ∃ x, al j = x := ⟨_, rfl⟩
              rw [hx] at q1 q2
              dsimp only at q1 q2
              obtain ⟨W6, hW6⟩ : ∃ W6, W6 = wr.alloc (.cells #[.int .i64 xk, .int .i64 xi] 24) := ⟨_, rfl⟩
              have x0 : W6.cell? ⟨wr.heap.size, 0, none⟩ = some (.int .i64 xk) := by rw [hW6]; exact iX_cell wr (xk, xi) 0 _ rfl
              have x1 : W6.cell? ⟨wr.heap.size, 1, none⟩ = some (.int .i64 xi) := by rw [hW6]; exact iX_cell wr (xk, xi) 1 _ rfl
              have b6 : Below V.heap.size V W6 := by rw [hW6]; exact hb.out.alloc hbz _
              have HW6 : Hid (W6 = wr.alloc (.cells #[.int .i64 xk, .int .i64 xi] 24)) := hW6
              have kA := count_any (some ⟨g, o, none⟩) c1 i al (xk, xi) W6 (J1.out.below b6) (by omega)
              have B6 : Hid _ := b6
              have X0 : Hid _ := x0
              have X1 : Hid _ := x1
              have CC := HC.out (xk, xi)
              clear hat hx hW6 b6 x0 x1
              go_wp2_with fail
              rw [← HW6.out]
              refine kA.mono ?_
              rintro r w7 ⟨rfl, b7⟩
              have b7' := B6.out.trans (b7.mono B6.out.size)
              have y0 := (Kp.of (M := fun _ => False) b7).cell X0.out id
              have y1 := (Kp.of (M := fun _ => False) b7).cell X1.out id
              have kB := count_any a2 c2 i (lk pre) (xk, xi) w7 (J2.out.below b7') (by omega)
              rw [CC] at kB
              have B7 : Hid _ := b7'
              have Y0 : Hid _ := y0
              have Y1 : Hid _ := y1
              clear b7 b7' kA X0 X1
              go_wp2_with fail
              refine kB.mono ?_
              rintro r w8 ⟨rfl, b8⟩
              have b8' := B7.out.trans (b8.mono B7.out.size)
              have z0 := (Kp.of (M := fun _ => False) b8).cell Y0.out id
              have z1 := (Kp.of (M := fun _ => False) b8).cell Y1.out id
              have kD := count_any am cm i (lk pre) (xk, xi) w8 (J3.out.below b8') (by omega)
              rw [CC] at kD
              have B8 : Hid _ := b8'
              clear b8 b8' kB y0 y1 Y0 Y1 CC
              generalize cnt (xk, xi) al i = C at *
              go_wp2_with fail
              refine kD.mono ?_
              rintro r w9 ⟨rfl, b9⟩
              have B9 : Hid _ := B8.out.trans (b9.mono B8.out.size)
              clear b9 kD
              go_wp2
              exact ⟨⟨j + 1, by go_num, HI.out, B9⟩, by simp [RowKit.intOf]; omega⟩
            · have hii : ¬ (j : Int) < i := by omega
              go_wp2
              go_ret
              exact ⟨rfl, BB.out.trans (hb.out.mono HGr.out)⟩
end Go.Proofs.Ytcgpjmpppajfdaa
