
/- Merge. -/
import Derived.Test.YtcgpjmpppajfdaaLp
import Derived.Test.YtcgpjmpppajfdaaJj
import Derived.Deep.DeepFit
namespace Go.Proofs.Ytcgpjmpppajfdaa.Li
open Go.RowKit

/-- Lists that a slice of lists shows. -/
def Lml (w : World) (a : Option Addr) (q : Nat → Ls) (n : Nat) : Prop := n = 0 ∨ ∃ g o, a = some ⟨g, o, none⟩ ∧ g < w.heap.size ∧ ∀ j, j < n → w.cell? ⟨g, o + j, none⟩ = some (.slice (q j).1 (q j).2.1 (q j).2.2.1) ∧ Iml w (q j).1 (q j).2.2.2 (q j).2.1 ∧ (q j).2.1 ≤ (q j).2.2.1
theorem Lml.below {w w' : World} {a : Option Addr} {q : Nat → Ls} {n : Nat} (h : Lml w a q n) (hb : Below w.heap.size w w') : Lml w' a q n := by
  rcases h with h | ⟨g, o, rfl, hg, hc⟩
  · exact .inl h
  · exact .inr ⟨g, o, rfl, Nat.lt_of_lt_of_le hg hb.size, fun j hj => ⟨(hb.cell (p := ⟨g, o + j, none⟩) hg).trans (hc j hj).1, (hc j hj).2.1.below hb, (hc j hj).2.2⟩⟩
theorem Lml.at {w : World} {a : Option Addr} {q : Nat → Ls} {n : Nat} (h : Lml w a q n) (j : Nat) (hj : j < n) : ∃ g o, a = some ⟨g, o, none⟩ ∧ w.cell? ⟨g, o + j, none⟩ = some (.slice (q j).1 (q j).2.1 (q j).2.2.1) ∧ Iml w (q j).1 (q j).2.2.2 (q j).2.1 ∧ (q j).2.1 ≤ (q j).2.2.1 := by
  rcases h with h | ⟨g, o, rfl, _, hat⟩
  · omega
  · exact ⟨g, o, rfl, hat j hj⟩
theorem hp_start (w wb : World) (bx : Nat) (hb : Below wb.heap.size wb w) (f : Nat → Lk) : Hp (w.alloc (.cells #[av bx, .slice none 0 0] 113)) w.heap.size bx (wb, bx) (.slice none 0 0) 0 f := by
  have e1 : (w.alloc (.cells #[av bx, .slice none 0 0] 113)).heap[w.heap.size]? = some (.cells #[av bx, .slice none 0 0] 113) := heap_alloc_new w _
  refine ⟨?_, ?_, ?_, ⟨rfl, hb.alloc hb.size _⟩, World.ownsRow_nil _ 0 116 2, by simp [Value.ownBlock], fun j e => by simp [Value.ownBlock] at e, hb.size, fun j hj => by omega⟩
  · unfold World.cell?; rw [e1]; rfl
  · unfold World.cell?; rw [e1]; rfl
  · unfold World.frozen?; rw [e1]; rfl
theorem Hp.slice {w : World} {b bx n : Nat} {lv : Ev} {v : Value} {f : Nat → Lk} (h : Hp w b bx lv v n f) : ∃ a c, v = .slice a n c := by
  rcases h.row.2 with ⟨e, e2⟩ | ⟨G, C, _, e, _⟩
  · exact ⟨none, 0, by rw [e, e2]⟩
  · exact ⟨_, _, e⟩
theorem Hp.some {w : World} {b bx p : Nat} {lv : Ev} {v : Value} {f : Nat → Lk} (h : Hp w b bx lv v (p + 1) f) : ∃ g c, v = .slice (some ⟨g, 0, none⟩) (p + 1) c := by
  rcases h.row.2 with ⟨_, e2⟩ | ⟨G, C, _, e, _⟩
  · omega
  · exact ⟨_, _, e⟩
theorem tot_mono (R : Nat → List It) : ∀ n i, i ≤ n → tot R i ≤ tot R n
  | 0, i, h => by obtain rfl : i = 0 := by omega
                  exact Nat.le_refl _
  | n + 1, i, h => by
    by_cases e : i = n + 1
    · rw [e]; exact Nat.le_refl _
    · have := tot_mono R n i (by omega)
      show _ ≤ tot R n + _
      omega
def QL (q : Nat → Ls) : Nat → List It := fun i => things (q i)
/-- The first loop: the lists that came in so far are in the heap. -/
def M1 (fl : Bool) (q : Nat → Ls) (wb : World) (b bx i : Nat) (w : World) : Prop := ∃ v m f, Hp w b bx (wb, bx) v m f ∧ MH fl i (QL q) m f ∧ m ≤ i
def lenV : Value → Nat
  | .slice _ l _ => l
  | _ => 0
/-- The second loop. -/
structure M2 (fl : Bool) (n : Nat) (q : Nat → Ls) (wb : World) (S b bx : Nat) (vo : Value) (j m : Nat) (w : World) : Prop where
  ex : ∃ v f R pre, Hp w b bx (wb, bx) v m f ∧ MH fl n R m f ∧ m ≤ n ∧ Ir w S vo j (lk pre) ∧ pre.length = j ∧ pre ++ mrA fl n R = mrA fl n (QL q) ∧ (∀ g, vo.ownBlock = some g → g ≠ b ∧ v.ownBlock ≠ some g) ∧ tot R n + j = tot (QL q) n

set_option maxHeartbeats 4000000 in
set_option maxRecDepth 100000 in
theorem merge_K (la : Option Addr) (n lc : Nat) (q : Nat → Ls) (w : World) (hq : Lml w la q n) (hn : n ≤ 1073741824) (ht : tot (QL q) n ≤ 1073741824) :
    Calls Try.prog 32 #[lvK, .slice la n lc] w fun r w' => ∃ v, r = .returned v ∧ Ir w' w.heap.size v (tot (QL q) n) (lk (mrA false n (QL q))) ∧ Below w.heap.size w w' := by
  have HQ : Hid (Lml w la q n) := hq
  have HT : Hid (tot (QL q) n ≤ 1073741824) := ht
  have HN : Hid (n ≤ 1073741824) := hn
  have k1 := byHeads_some w
  have k2 := order_some w.heap.size (w.alloc (.cells #[lvK] 27))
  have b2 : Below w.heap.size w ((w.alloc (.cells #[lvK] 27)).alloc (.cells #[lvH w.heap.size] 65)) := ((Below.refl _ w).alloc (Nat.le_refl _) _).alloc (by simp) _
  obtain ⟨wb, hwb⟩ : ∃ wb, wb = (w.alloc (.cells #[lvK] 27)).alloc (.cells #[lvH w.heap.size] 65) := ⟨_, rfl⟩
  have HWB : Hid (wb = (w.alloc (.cells #[lvK] 27)).alloc (.cells #[lvH w.heap.size] 65)) := hwb
  have HB : Hid (Below w.heap.size w wb) := by rw [hwb]; exact b2
  have hsz : (w.alloc (.cells #[lvK] 27)).heap.size = w.heap.size + 1 := by simp
  have HA : Hid (AhC (wb, w.heap.size + 1) (aF false)) := by
    have e2 : wb.cell? ⟨w.heap.size + 1, 0, none⟩ = some (lvH w.heap.size) := by
      rw [hwb]; unfold World.cell?
      rw [show ((w.alloc (.cells #[lvK] 27)).alloc (.cells #[lvH w.heap.size] 65)).heap[w.heap.size + 1]? = some (.cells #[lvH w.heap.size] 65) from heap_alloc2_new w _ _]
      rfl
    have e1 : wb.cell? ⟨w.heap.size, 0, none⟩ = some lvK := by
      rw [hwb]; unfold World.cell?
      rw [show ((w.alloc (.cells #[lvK] 27)).alloc (.cells #[lvH w.heap.size] 65)).heap[w.heap.size]? = some (.cells #[lvK] 27) from (Below.heap_alloc _ _ _ (by simp)).trans (heap_alloc_new w _)]
      rfl
    exact aheadK wb _ _ e2 e1
  rw [hsz] at k2
  clear hq ht b2 hwb hsz hn
  go_enter Try.func32, Try.ntmps32
  go_wp2_with fail
  refine k1.mono ?_
  rintro r w1 ⟨rfl, rfl⟩
  go_wp2_with fail
  refine k2.mono ?_
  rintro r w2 ⟨rfl, rfl⟩
  rw [← HWB.out]
  obtain ⟨bx, hbx⟩ : ∃ bx, bx = w.heap.size + 1 := ⟨_, rfl⟩
  rw [← hbx] at HA ⊢
  obtain ⟨b, hb⟩ : ∃ b, b = wb.heap.size := ⟨_, rfl⟩
  have hp0 := hp_start wb wb bx (Below.refl _ _) (fun _ => z0L)
  rw [← hb] at hp0
  obtain ⟨w3, hw3⟩ : ∃ w3, w3 = wb.alloc (.cells #[av bx, .slice none 0 0] 113) := ⟨_, rfl⟩
  rw [← hw3] at hp0
  have HW3 : Hid (w3 = wb.alloc (.cells #[av bx, .slice none 0 0] 113)) := hw3
  have HBB : Hid (b = wb.heap.size) := hb
  have M10 : Hid (M1 false q wb b bx 0 w3) := ⟨_, 0, _, hp0, MH.start _ _ _, Nat.le_refl _⟩
  clear hp0 hw3 hb hbx k1 k2
  have hn1 := HN.out
  go_wp2_with fail
  rw [← HW3.out, ← HBB.out]
  go_loopw [6, 18] (fun sz ivv w' => ∃ (i : Nat), ivv = .int .i64 (i : Int) ∧ i ≤ n ∧ sz = .int .i64 ((tot (QL q) i : Nat) : Int) ∧ Hid (M1 false q wb b bx i w')) (fun _ ivv _ => n - (RowKit.intOf ivv).toNat)
  case atStart => exact ⟨0, rfl, by omega, rfl, M10⟩
  case round =>
    obtain ⟨i, rfl, hi, rfl, m1⟩ := hrel
    obtain ⟨v, m, f, hp, mh, hm⟩ := m1.out
    have hbw : Below wb.heap.size wb wr := hp.bxc.2
    by_cases hlt : i < n
    · have hii : (i : Int) < n := by omega
      have hq2 := HQ.out.below (HB.out)
      obtain ⟨g1, o1, hla, c0, im, hcap⟩ := hq2.at i hlt
      have c1 := (hbw.cell (p := ⟨g1, o1 + i, none⟩) (World.block_lt_of_cell? wb _ c0)).trans c0
      have HTS : Hid (tot (QL q) (i + 1) = tot (QL q) i + (q i).2.1) := by show tot (QL q) i + (things (q i)).length = _; rw [things_len]
      have hts : tot (QL q) (i + 1) ≤ 1073741824 := by
        have := HT.out
        have := tot_mono (QL q) n (i + 1) hlt
        omega
      have kPu := fun (h0 : 0 < (q i).2.1) => push_any (aF false) b bx m (wb, bx) v f (q i, (i : Int)) wr HA.out ⟨im, h0, hcap⟩ hp (by omega)
      have HPu : Hid (0 < (q i).2.1 → ∀ g c w', Hp w' b bx (wb, bx) (.slice (some ⟨g, 0, none⟩) (m + 1) c) (m + 1) (riseF (aF false) (up f m (q i, (i : Int))) m) → M1 false q wb b bx (i + 1) w') := fun h0 g c w' h => ⟨_, m + 1, _, h, mh.push (things_ne h0) rfl rfl, by omega⟩
      have HSk : Hid (¬ 0 < (q i).2.1 → M1 false q wb b bx (i + 1) wr) := fun h0 => ⟨v, m, f, hp, mh.skip (by
        show things (q i) = []
        exact List.eq_nil_of_length_eq_zero (by rw [things_len]; omega)), by omega⟩
      subst hla
      obtain ⟨⟨xa, xn, xc, xf⟩, hx⟩ : ∃ x, q i = x := ⟨_, rfl⟩
      rw [hx] at c1 HTS hcap kPu HPu HSk
      dsimp only at c1 HTS hcap kPu HPu HSk
      have HLT : Hid (i < n) := hlt
      have htt : (tot (QL q) i : Int) + xn ≤ 1073741824 := by have := HTS.out; omega
      clear m1 hp mh hbw hq2 c0 im hx
      generalize hS1 : tot (QL q) (i + 1) = s1 at *
      generalize tot (QL q) i = s0 at *
      by_cases h0 : 0 < xn
      · have h0i : (0 : Int) < xn := by omega
        have k := kPu h0
        clear kPu
        go_wp2_with fail
        go_fit k
        rintro r w5 ⟨rfl, g, c, hp5, _⟩
        have M15 : Hid _ := HPu.out h0 g c w5 hp5
        clear hp5 HPu HSk
        go_wp2
        exact ⟨⟨i + 1, by go_num, HLT.out, by rw [hS1, HTS.out]; go_num, M15⟩, by simp [RowKit.intOf]; omega⟩
      · have h0i : ¬ (0 : Int) < xn := by omega
        have M15 : Hid _ := HSk.out h0
        clear HPu HSk kPu
        go_wp2
        exact ⟨⟨i + 1, by go_num, HLT.out, by rw [hS1, HTS.out]; go_num, M15⟩, by simp [RowKit.intOf]; omega⟩
    · have hii : ¬ (i : Int) < n := by omega
      obtain rfl : i = n := by omega
      obtain ⟨w2, rmk, omk, bmk⟩ := make0_i wr wr.heap.size (tot (QL q) i) (Nat.le_refl _) (by have := HT.out; omega) (lk [])
      have hgo : wb.heap.size ≤ wr.heap.size := hbw.size
      have hbl : b < wr.heap.size := World.block_lt_of_cell? wr _ hp.ls
      have M20 : Hid (M2 false i q wb wb.heap.size b bx (.slice (some ⟨wr.heap.size, 0, none⟩) 0 (tot (QL q) i)) 0 m w2) := by
        refine ⟨v, f, QL q, [], hp.below bmk, mh, hm, row_base omk hgo, rfl, rfl, fun g e => ?_, rfl⟩
        have e' : wr.heap.size = g := Option.some.inj e
        refine ⟨by omega, fun e2 => ?_⟩
        have := (World.ownsRow.lt hp.row g e2).2
        omega
      have hbI : Below w.heap.size w wr := HB.out.trans (hbw.mono HB.out.size)
      have HBI : Hid (Below w.heap.size w w2) := hbI.trans (bmk.mono hbI.size)
      have htn := HT.out
      have HGN : Hid (tot (QL q) i ≤ 1073741824) := HT.out
      clear hp mh hm hbw hgo hbl omk bmk m1 hbI
      generalize hN : tot (QL q) i = N at *
      go_wp2
      go_loopw [9] (fun u w' => ∃ (va : Option Addr) (vc j m : Nat), u = .slice va j vc ∧ Hid (M2 false i q wb wb.heap.size b bx (.slice va j vc) j m w')) (fun u _ => N - lenV u)
      case atStart => exact ⟨_, _, 0, m, rfl, M20⟩
      case round =>
        obtain ⟨va, vc, j, m, rfl, m2⟩ := hrel
        obtain ⟨v, f, R, pre, hp, mh, hm, ir, hpl, hpre, hdis, htot⟩ := m2.out.ex
        obtain ⟨vo, hvo⟩ : ∃ vo, vo = Value.slice va j vc := ⟨_, rfl⟩
        rw [← hvo] at ir hdis
        cases m with
        | zero =>
          obtain ⟨a0, c0, rfl⟩ := hp.slice
          have hl0 := hp.ls
          have e0 := mrA_none mh.empty
          have et := tot_zero (bst_none mh.empty)
          have HE : Hid (Ir wr w.heap.size (.slice va j vc) N (lk (mrA false i (QL q))) ∧ Below w.heap.size w wr) := by
            refine ⟨?_, HB.out.trans (hp.bxc.2.mono HB.out.size)⟩
            rw [e0, List.append_nil] at hpre
            rw [← hpre]
            have : j = N := by rw [← hN, ← htot, et]; omega
            rw [← this, ← hvo]
            exact row_base ir HB.out.size
          clear hp mh ir hdis m2 e0 et hpre hvo
          go_wp2
          go_ret
          exact ⟨.slice va j vc, rfl, by rw [hN]; exact HE.out.1, HE.out.2⟩
        | succ p =>
          obtain ⟨g, c, rfl⟩ := hp.some
          have hl0 := hp.ls
          have rr : Rr wr g c (p + 1) f := hp.row
          have r0 := rr.c0 0 (by omega)
          have r1 := rr.c1 0 (by omega)
          simp only [Nat.zero_mul, Nat.zero_add] at r0 r1
          obtain ⟨bb, hbst, hbn, e1, e2⟩ := mh.top (fun j hj => (hp.lok j hj).2.1)
          obtain ⟨_, hne, _⟩ := bst_some hbst
          obtain ⟨hmr, htt⟩ := mrA_some hbst
          obtain ⟨im0, hx0, hxc⟩ := hp.lok 0 (by omega)
          have hbw : Below wb.heap.size wb wr := hp.bxc.2
          obtain ⟨⟨⟨xa, xn, xc, xf⟩, xr⟩, hx⟩ : ∃ x, f 0 = x := ⟨_, rfl⟩
          rw [hx] at r0 r1 e1 e2 im0 hx0 hxc
          dsimp only at r0 r1 e1 e2 im0 hx0 hxc
          obtain ⟨k, rfl⟩ : ∃ k, xn = k + 1 := ⟨xn - 1, by omega⟩
          obtain ⟨kc, rfl⟩ : ∃ kc, xc = kc + 1 := ⟨xc - 1, by omega⟩
          rcases id im0 with h0 | ⟨g1, o1, rfl, hg1, hat⟩
          · omega
          have hh0 := hat 0 (by omega)
          rw [Nat.zero_mul, Nat.add_zero] at hh0
          have w0 := (hbw.cell (p := ⟨g1, o1, none⟩) hg1).trans hh0.1
          have w1 := (hbw.cell (p := ⟨g1, o1 + 1, none⟩) hg1).trans hh0.2
          have hhd : (R bb).getD 0 (0, 0) = xf 0 := by rw [← e1]; exact things_get _ 0 (by show 0 < k + 1; omega)
          obtain ⟨⟨yk, yi⟩, hy⟩ : ∃ y, xf 0 = y := ⟨_, rfl⟩
          rw [hy] at w0 w1 hhd
          dsimp only at w0 w1
          have Bt : Below wr.heap.size wr (wr.alloc (.cells #[.slice (some ⟨g1, o1, none⟩) (k + 1) (kc + 1), .int .i64 xr] 116)) := (Below.refl _ wr).alloc (Nat.le_refl _) _
          have ir1 := ir.below Bt
          obtain ⟨go, co, w3, r3, o3, k3, hgo⟩ := append_i (wr.alloc (.cells #[.slice (some ⟨g1, o1, none⟩) (k + 1) (kc + 1), .int .i64 xr] 116)) wb.heap.size vo j (lk pre) (yk, yi) (Nat.le_trans hbw.size Bt.size) (by have := HGN.out; omega) ir1
          have a0 := cell_al (.cells #[.slice (some ⟨g1, o1, none⟩) (k + 1) (kc + 1), .int .i64 xr] 116) w0
          have a1 := cell_al (.cells #[.slice (some ⟨g1, o1, none⟩) (k + 1) (kc + 1), .int .i64 xr] 116) w1
          have hT : (wr.alloc (.cells #[.slice (some ⟨g1, o1, none⟩) (k + 1) (kc + 1), .int .i64 xr] 116)).heap[wr.heap.size]? = some (.cells #[.slice (some ⟨g1, o1, none⟩) (k + 1) (kc + 1), .int .i64 xr] 116) := heap_alloc_new wr _
          have tw : (wr.alloc (.cells #[.slice (some ⟨g1, o1, none⟩) (k + 1) (kc + 1), .int .i64 xr] 116)).cell? ⟨wr.heap.size, 0, none⟩ = some (.slice (some ⟨g1, o1, none⟩) (k + 1) (kc + 1)) := by unfold World.cell?; rw [hT]; rfl
          have tw1 : (wr.alloc (.cells #[.slice (some ⟨g1, o1, none⟩) (k + 1) (kc + 1), .int .i64 xr] 116)).cell? ⟨wr.heap.size, 1, none⟩ = some (.int .i64 xr) := by unfold World.cell?; rw [hT]; rfl
          have tf : (wr.alloc (.cells #[.slice (some ⟨g1, o1, none⟩) (k + 1) (kc + 1), .int .i64 xr] 116)).frozen? ⟨wr.heap.size, 0, none⟩ = false := by unfold World.frozen?; rw [hT]; rfl
          have hno : ∀ x, vo.ownBlock = some x → x < wr.heap.size := fun x e => (World.ownsRow.lt ir x e).2
          have t3 := k3.cell tw (fun e => by have := hno _ e; simp at this)
          have t3' := k3.cell tw1 (fun e => by have := hno _ e; simp at this)
          have f3 := k3.frozen tw tf (fun e => by have := hno _ e; simp at this)
          have hbl : b < wr.heap.size := World.block_lt_of_cell? wr _ hl0
          have hgl : g < wr.heap.size := rr.lt
          have hgo2 : go ≠ b ∧ go ≠ g ∧ go ≠ wr.heap.size := by
            rcases hgo with e | e
            · have := hdis go e
              have h5 := hno go e
              exact ⟨this.1, fun e3 => this.2 (by rw [e3]; rfl), by omega⟩
            · have : wr.heap.size + 1 ≤ go := by simpa using e
              omega
          have hwbo : ∀ x, x < wb.heap.size → vo.ownBlock ≠ some x := fun x hxl e => by
            have := (World.ownsRow.lt ir x e).1
            omega
          have hor : Ir w3 wb.heap.size (.slice (some ⟨go, 0, none⟩) (j + 1) co) (j + 1) (lk (pre ++ [(yk, yi)])) := o3.congr (fun x hx => by rw [← hpl]; exact lk_push pre (yk, yi) x (by omega))
          have kAll : ∀ W4, Kp (· = wr.heap.size) w3 W4 → Kp (fun x => vo.ownBlock = some x ∨ x = wr.heap.size) wr W4 := fun W4 k4 => (((Kp.of Bt).trans (k3.mono (fun x _ e => .inl e))).trans (k4.mono (fun x _ e => .inr e)))
          have hp4 : ∀ W4, Kp (· = wr.heap.size) w3 W4 → Hp W4 b bx (wb, bx) (.slice (some ⟨g, 0, none⟩) (p + 1) c) (p + 1) f := fun W4 k4 => hp.kp (kAll W4 k4) (fun e => by
            rcases e with e | e
            · exact (hdis b e).1 rfl
            · omega) (fun x hxl e => by
            rcases e with e | e
            · exact hwbo x hxl e
            · have := hbw.size
              have h7 : x < wb.heap.size := hxl
              omega) (fun x e1 e => by
            have e3 : g = x := Option.some.inj e1
            subst e3
            rcases e with e | e
            · exact (hdis g e).2 rfl
            · omega)
          have hj1 : tot (up R bb ((R bb).drop 1)) i + (j + 1) = N := by rw [← hN]; omega
          have hpr2 : (pre ++ [(yk, yi)]) ++ mrA false i (up R bb ((R bb).drop 1)) = mrA false i (QL q) := by
            rw [← hpre, hmr, hhd, List.append_assoc]
            rfl
          have hjN : j < N := by omega
          have HRep : Hid (∀ (x : Lk) W4 w5, 0 < k → things x.1 = (R bb).drop 1 → x.2 = xr → Kp (· = wr.heap.size) w3 W4 → Hp w5 b bx (wb, bx) (.slice (some ⟨g, 0, none⟩) (p + 1) c) (p + 1) (sinkF (aF false) (p + 1) (up f 0 x) 0) → Kp (· = g) W4 w5 → M2 false i q wb wb.heap.size b bx (.slice (some ⟨go, 0, none⟩) (j + 1) co) (j + 1) (p + 1) w5) := fun x W4 w5 hk hx1 hx2 k4 h5 k5 => by
            have hl : (R bb).drop 1 ≠ [] := fun e => by
              have := congrArg List.length e
              rw [← e1, List.length_drop, things_len] at this
              simp at this
              omega
            refine ⟨_, _, up R bb ((R bb).drop 1), pre ++ [(yk, yi)], h5, mh.repl hbn hne (by rw [hx]; exact e1) (by rw [hx]; exact e2) hl hx1 (hx2.trans e2), hm, k5.row (k4.row hor (fun y e => by cases e; exact hgo2.2.2)) (fun y e => by cases e; exact hgo2.2.1), by simp [hpl], hpr2, fun y e => ?_, hj1.trans hN.symm⟩
            have e3 : go = y := Option.some.inj e
            subst e3
            exact ⟨hgo2.1, fun e4 => hgo2.2.1 (Option.some.inj e4).symm⟩
          have hgn : ∀ y, (Value.slice (some ⟨go, 0, none⟩) (j + 1) co).ownBlock = some y → ¬ (y = b ∨ y = g) := fun y e h => by
            have e3 : go = y := Option.some.inj e
            subst e3
            rcases h with h | h
            · exact hgo2.1 h
            · exact hgo2.2.1 h
          have HPop : Hid (∀ W4 w5, k = 0 → Kp (· = wr.heap.size) w3 W4 → Hp w5 b bx (wb, bx) (.slice (some ⟨g, 0, none⟩) p c) p (sinkF (aF false) p (up f 0 (f p)) 0) → Kp (fun x => x = b ∨ x = g) W4 w5 → M2 false i q wb wb.heap.size b bx (.slice (some ⟨go, 0, none⟩) (j + 1) co) (j + 1) p w5) := fun W4 w5 hk k4 h5 k5 => by
            have hl : (R bb).drop 1 = [] := List.eq_nil_of_length_eq_zero (by rw [← e1, List.length_drop, things_len]; simp; omega)
            refine ⟨_, _, up R bb ((R bb).drop 1), pre ++ [(yk, yi)], h5, mh.pop hbn hne (by rw [hx]; exact e1) (by rw [hx]; exact e2) hl, by omega, k5.row (k4.row hor (fun y e => by cases e; exact hgo2.2.2)) hgn, by simp [hpl], hpr2, fun y e => ?_, hj1.trans hN.symm⟩
            have e3 : go = y := Option.some.inj e
            subst e3
            exact ⟨hgo2.1, fun e4 => hgo2.2.1 (Option.some.inj e4).symm⟩
          have htl : ∀ a' kc', things (a', k, kc', fun z => xf (z + 1)) = (R bb).drop 1 := fun a' kc' => by rw [← e1]; exact things_drop (some ⟨g1, o1, none⟩) (k + 1) (kc + 1) kc' a' xf
          have hr3 : (Builtin.append_ #[22, 22] 22 #[.slice va j vc, .slice (some ⟨wr.heap.size + 1, 0, none⟩) 1 1]).run Try.prog ((wr.alloc (.cells #[.slice (some ⟨g1, o1, none⟩) (k + 1) (kc + 1), .int .i64 xr] 116)).alloc (.cells #[.int .i64 yk, .int .i64 yi] 24)) = .ok (.slice (some ⟨go, 0, none⟩) (j + 1) co) w3 := by
            have := r3
            rw [hvo, World.size_alloc] at this
            exact this
          have ksc : ∀ u, Kp (· = wr.heap.size) w3 (w3.setCell ⟨wr.heap.size, 0, none⟩ u) := fun u => (Kp.refl (· = wr.heap.size) w3).setCell (p := ⟨wr.heap.size, 0, none⟩) rfl u
          have hJ : Hid (j < N) := hjN
          by_cases hk : 0 < k
          · have hkc : 0 < kc := by omega
            have kRep := replace_any (aF false) b bx g c p (wb, bx) f ((some ⟨g1, o1 + 2, none⟩, k, kc, fun z => xf (z + 1)), xr) (w3.setCell ⟨wr.heap.size, 0, none⟩ (.slice (some ⟨g1, o1 + 2, none⟩) k kc)) HA.out ⟨by
              refine .inr ⟨g1, o1 + 2, rfl, hg1, fun z hz => ?_⟩
              have := hat (z + 1) (by dsimp only at hz; omega)
              rw [show o1 + (z + 1) * 2 = o1 + 2 + z * 2 by omega] at this
              exact this, hk, by show k ≤ kc; omega⟩ (hp4 _ (ksc _)) (by have := HN.out; omega)
            have HM : Hid (∀ w5, Hp w5 b bx (wb, bx) (.slice (some ⟨g, 0, none⟩) (p + 1) c) (p + 1) (sinkF (aF false) (p + 1) (up f 0 ((some ⟨g1, o1 + 2, none⟩, k, kc, fun z => xf (z + 1)), xr)) 0) → Kp (· = g) (w3.setCell ⟨wr.heap.size, 0, none⟩ (.slice (some ⟨g1, o1 + 2, none⟩) k kc)) w5 → M2 false i q wb wb.heap.size b bx (.slice (some ⟨go, 0, none⟩) (j + 1) co) (j + 1) (p + 1) w5) := fun w5 h5 k5 => HRep.out _ _ w5 hk (htl _ _) rfl (ksc _) h5 k5
            have s0 := World.cell?_setCell_same _ ⟨wr.heap.size, 0, none⟩ (.slice (some ⟨g1, o1 + 2, none⟩) k kc) t3
            have s1 : (w3.setCell ⟨wr.heap.size, 0, none⟩ (.slice (some ⟨g1, o1 + 2, none⟩) k kc)).cell? ⟨wr.heap.size, 1, none⟩ = some (.int .i64 xr) := by rw [World.cell?_setCell_other _ _ _ _ (by simp)]; exact t3'
            have hki : (0 : Int) < k := by omega
            clear HRep HPop htl ksc hp4 kAll hor o3 k3 r3 hp mh rr ir ir1 hdis m2 hbst hmr htt im0 hat hh0 hx e1 e2 hne hbn hhd hpre hpr2 hj1 htot hT tw tw1 tf hno hwbo hgo hgo2 hgn Bt hbw hvo
            go_wp2_with (first | (at_builtin; refine wpList_append_run rfl (.tmp 50) (.tmp 55) 22 22 rfl _ _ rfl rfl hr3 ?_))
            go_fit kRep
            rintro r w5 ⟨rfl, h5, k5⟩
            have M25 : Hid _ := HM.out w5 h5 k5
            clear h5 k5 HM
            go_wp2
            exact ⟨⟨_, _, j + 1, p + 1, rfl, M25⟩, by show N - (j + 1) < N - j; have := hJ.out; omega⟩
          · obtain rfl : k = 0 := by omega
            by_cases hkc : 0 < kc
            · have kPop := pop_any (aF false) b bx g c p (wb, bx) f (w3.setCell ⟨wr.heap.size, 0, none⟩ (.slice (some ⟨g1, o1 + 2, none⟩) 0 kc)) HA.out (hp4 _ (ksc _)) (by have := HN.out; omega)
              have HM : Hid (∀ w5, Hp w5 b bx (wb, bx) (.slice (some ⟨g, 0, none⟩) p c) p (sinkF (aF false) p (up f 0 (f p)) 0) → Kp (fun x => x = b ∨ x = g) (w3.setCell ⟨wr.heap.size, 0, none⟩ (.slice (some ⟨g1, o1 + 2, none⟩) 0 kc)) w5 → M2 false i q wb wb.heap.size b bx (.slice (some ⟨go, 0, none⟩) (j + 1) co) (j + 1) p w5) := fun w5 h5 k5 => HPop.out _ w5 rfl (ksc _) h5 k5
              have s0 := World.cell?_setCell_same _ ⟨wr.heap.size, 0, none⟩ (.slice (some ⟨g1, o1 + 2, none⟩) 0 kc) t3
              clear HRep HPop htl ksc hp4 kAll hor o3 k3 r3 hp mh rr ir ir1 hdis m2 hbst hmr htt im0 hat hh0 hx e1 e2 hne hbn hhd hpre hpr2 hj1 htot hT tw tw1 tf hno hwbo hgo hgo2 hgn Bt hbw hvo
              go_wp2_with (first | (at_builtin; refine wpList_append_run rfl (.tmp 50) (.tmp 55) 22 22 rfl _ _ rfl rfl hr3 ?_))
              go_fit kPop
              rintro r w5 ⟨rfl, h5, k5, _⟩
              have M25 : Hid _ := HM.out w5 h5 k5
              clear h5 k5 HM
              go_wp2
              exact ⟨⟨_, _, j + 1, p, rfl, M25⟩, by show N - (j + 1) < N - j; have := hJ.out; omega⟩
            · obtain rfl : kc = 0 := by omega
              have kPop := pop_any (aF false) b bx g c p (wb, bx) f (w3.setCell ⟨wr.heap.size, 0, none⟩ (.slice (some ⟨g1, o1, none⟩) 0 0)) HA.out (hp4 _ (ksc _)) (by have := HN.out; omega)
              have HM : Hid (∀ w5, Hp w5 b bx (wb, bx) (.slice (some ⟨g, 0, none⟩) p c) p (sinkF (aF false) p (up f 0 (f p)) 0) → Kp (fun x => x = b ∨ x = g) (w3.setCell ⟨wr.heap.size, 0, none⟩ (.slice (some ⟨g1, o1, none⟩) 0 0)) w5 → M2 false i q wb wb.heap.size b bx (.slice (some ⟨go, 0, none⟩) (j + 1) co) (j + 1) p w5) := fun w5 h5 k5 => HPop.out _ w5 rfl (ksc _) h5 k5
              have s0 := World.cell?_setCell_same _ ⟨wr.heap.size, 0, none⟩ (.slice (some ⟨g1, o1, none⟩) 0 0) t3
              clear HRep HPop htl ksc hp4 kAll hor o3 k3 r3 hp mh rr ir ir1 hdis m2 hbst hmr htt im0 hat hh0 hx e1 e2 hne hbn hhd hpre hpr2 hj1 htot hT tw tw1 tf hno hwbo hgo hgo2 hgn Bt hbw hvo
              go_wp2_with (first | (at_builtin; refine wpList_append_run rfl (.tmp 50) (.tmp 55) 22 22 rfl _ _ rfl rfl hr3 ?_))
              go_fit kPop
              rintro r w5 ⟨rfl, h5, k5, _⟩
              have M25 : Hid _ := HM.out w5 h5 k5
              clear h5 k5 HM
              go_wp2
              exact ⟨⟨_, _, j + 1, p, rfl, M25⟩, by show N - (j + 1) < N - j; have := hJ.out; omega⟩

set_option maxHeartbeats 4000000 in
set_option maxRecDepth 100000 in
theorem merge_N (la : Option Addr) (n lc : Nat) (q : Nat → Ls) (w : World) (hq : Lml w la q n) (hn : n ≤ 1073741824) (ht : tot (QL q) n ≤ 1073741824) :
    Calls Try.prog 32 #[.nilFunc, .slice la n lc] w fun r w' => ∃ v, r = .returned v ∧ Ir w' w.heap.size v (tot (QL q) n) (lk (mrA true n (QL q))) ∧ Below w.heap.size w w' := by
  have HQ : Hid (Lml w la q n) := hq
  have HT : Hid (tot (QL q) n ≤ 1073741824) := ht
  have HN : Hid (n ≤ 1073741824) := hn
  have k1 := byHeads_nil w
  have k2 := order_nil (w.alloc (.cells #[.nilFunc] 27))
  have b2 : Below w.heap.size w ((w.alloc (.cells #[.nilFunc] 27)).alloc (.cells #[lvM] 65)) := ((Below.refl _ w).alloc (Nat.le_refl _) _).alloc (by simp) _
  obtain ⟨wb, hwb⟩ : ∃ wb, wb = (w.alloc (.cells #[.nilFunc] 27)).alloc (.cells #[lvM] 65) := ⟨_, rfl⟩
  have HWB : Hid (wb = (w.alloc (.cells #[.nilFunc] 27)).alloc (.cells #[lvM] 65)) := hwb
  have HB : Hid (Below w.heap.size w wb) := by rw [hwb]; exact b2
  have hsz : (w.alloc (.cells #[.nilFunc] 27)).heap.size = w.heap.size + 1 := by simp
  have HA : Hid (AhC (wb, w.heap.size + 1) (aF true)) := by
    have e2 : wb.cell? ⟨w.heap.size + 1, 0, none⟩ = some (lvM) := by
      rw [hwb]; unfold World.cell?
      rw [show ((w.alloc (.cells #[.nilFunc] 27)).alloc (.cells #[lvM] 65)).heap[w.heap.size + 1]? = some (.cells #[lvM] 65) from heap_alloc2_new w _ _]
      rfl
    exact aheadN wb _ e2
  rw [hsz] at k2
  clear hq ht b2 hwb hsz hn
  go_enter Try.func32, Try.ntmps32
  go_wp2_with fail
  refine k1.mono ?_
  rintro r w1 ⟨rfl, rfl⟩
  go_wp2_with fail
  refine k2.mono ?_
  rintro r w2 ⟨rfl, rfl⟩
  rw [← HWB.out]
  obtain ⟨bx, hbx⟩ : ∃ bx, bx = w.heap.size + 1 := ⟨_, rfl⟩
  rw [← hbx] at HA ⊢
  obtain ⟨b, hb⟩ : ∃ b, b = wb.heap.size := ⟨_, rfl⟩
  have hp0 := hp_start wb wb bx (Below.refl _ _) (fun _ => z0L)
  rw [← hb] at hp0
  obtain ⟨w3, hw3⟩ : ∃ w3, w3 = wb.alloc (.cells #[av bx, .slice none 0 0] 113) := ⟨_, rfl⟩
  rw [← hw3] at hp0
  have HW3 : Hid (w3 = wb.alloc (.cells #[av bx, .slice none 0 0] 113)) := hw3
  have HBB : Hid (b = wb.heap.size) := hb
  have M10 : Hid (M1 true q wb b bx 0 w3) := ⟨_, 0, _, hp0, MH.start _ _ _, Nat.le_refl _⟩
  clear hp0 hw3 hb hbx k1 k2
  have hn1 := HN.out
  go_wp2_with fail
  rw [← HW3.out, ← HBB.out]
  go_loopw [6, 18] (fun sz ivv w' => ∃ (i : Nat), ivv = .int .i64 (i : Int) ∧ i ≤ n ∧ sz = .int .i64 ((tot (QL q) i : Nat) : Int) ∧ Hid (M1 true q wb b bx i w')) (fun _ ivv _ => n - (RowKit.intOf ivv).toNat)
  case atStart => exact ⟨0, rfl, by omega, rfl, M10⟩
  case round =>
    obtain ⟨i, rfl, hi, rfl, m1⟩ := hrel
    obtain ⟨v, m, f, hp, mh, hm⟩ := m1.out
    have hbw : Below wb.heap.size wb wr := hp.bxc.2
    by_cases hlt : i < n
    · have hii : (i : Int) < n := by omega
      have hq2 := HQ.out.below (HB.out)
      obtain ⟨g1, o1, hla, c0, im, hcap⟩ := hq2.at i hlt
      have c1 := (hbw.cell (p := ⟨g1, o1 + i, none⟩) (World.block_lt_of_cell? wb _ c0)).trans c0
      have HTS : Hid (tot (QL q) (i + 1) = tot (QL q) i + (q i).2.1) := by show tot (QL q) i + (things (q i)).length = _; rw [things_len]
      have hts : tot (QL q) (i + 1) ≤ 1073741824 := by
        have := HT.out
        have := tot_mono (QL q) n (i + 1) hlt
        omega
      have kPu := fun (h0 : 0 < (q i).2.1) => push_any (aF true) b bx m (wb, bx) v f (q i, (i : Int)) wr HA.out ⟨im, h0, hcap⟩ hp (by omega)
      have HPu : Hid (0 < (q i).2.1 → ∀ g c w', Hp w' b bx (wb, bx) (.slice (some ⟨g, 0, none⟩) (m + 1) c) (m + 1) (riseF (aF true) (up f m (q i, (i : Int))) m) → M1 true q wb b bx (i + 1) w') := fun h0 g c w' h => ⟨_, m + 1, _, h, mh.push (things_ne h0) rfl rfl, by omega⟩
      have HSk : Hid (¬ 0 < (q i).2.1 → M1 true q wb b bx (i + 1) wr) := fun h0 => ⟨v, m, f, hp, mh.skip (by
        show things (q i) = []
        exact List.eq_nil_of_length_eq_zero (by rw [things_len]; omega)), by omega⟩
      subst hla
      obtain ⟨⟨xa, xn, xc, xf⟩, hx⟩ : ∃ x, q i = x := ⟨_, rfl⟩
      rw [hx] at c1 HTS hcap kPu HPu HSk
      dsimp only at c1 HTS hcap kPu HPu HSk
      have HLT : Hid (i < n) := hlt
      have htt : (tot (QL q) i : Int) + xn ≤ 1073741824 := by have := HTS.out; omega
      clear m1 hp mh hbw hq2 c0 im hx
      generalize hS1 : tot (QL q) (i + 1) = s1 at *
      generalize tot (QL q) i = s0 at *
      by_cases h0 : 0 < xn
      · have h0i : (0 : Int) < xn := by omega
        have k := kPu h0
        clear kPu
        go_wp2_with fail
        go_fit k
        rintro r w5 ⟨rfl, g, c, hp5, _⟩
        have M15 : Hid _ := HPu.out h0 g c w5 hp5
        clear hp5 HPu HSk
        go_wp2
        exact ⟨⟨i + 1, by go_num, HLT.out, by rw [hS1, HTS.out]; go_num, M15⟩, by simp [RowKit.intOf]; omega⟩
      · have h0i : ¬ (0 : Int) < xn := by omega
        have M15 : Hid _ := HSk.out h0
        clear HPu HSk kPu
        go_wp2
        exact ⟨⟨i + 1, by go_num, HLT.out, by rw [hS1, HTS.out]; go_num, M15⟩, by simp [RowKit.intOf]; omega⟩
    · have hii : ¬ (i : Int) < n := by omega
      obtain rfl : i = n := by omega
      obtain ⟨w2, rmk, omk, bmk⟩ := make0_i wr wr.heap.size (tot (QL q) i) (Nat.le_refl _) (by have := HT.out; omega) (lk [])
      have hgo : wb.heap.size ≤ wr.heap.size := hbw.size
      have hbl : b < wr.heap.size := World.block_lt_of_cell? wr _ hp.ls
      have M20 : Hid (M2 true i q wb wb.heap.size b bx (.slice (some ⟨wr.heap.size, 0, none⟩) 0 (tot (QL q) i)) 0 m w2) := by
        refine ⟨v, f, QL q, [], hp.below bmk, mh, hm, row_base omk hgo, rfl, rfl, fun g e => ?_, rfl⟩
        have e' : wr.heap.size = g := Option.some.inj e
        refine ⟨by omega, fun e2 => ?_⟩
        have := (World.ownsRow.lt hp.row g e2).2
        omega
      have hbI : Below w.heap.size w wr := HB.out.trans (hbw.mono HB.out.size)
      have HBI : Hid (Below w.heap.size w w2) := hbI.trans (bmk.mono hbI.size)
      have htn := HT.out
      have HGN : Hid (tot (QL q) i ≤ 1073741824) := HT.out
      clear hp mh hm hbw hgo hbl omk bmk m1 hbI
      generalize hN : tot (QL q) i = N at *
      go_wp2
      go_loopw [9] (fun u w' => ∃ (va : Option Addr) (vc j m : Nat), u = .slice va j vc ∧ Hid (M2 true i q wb wb.heap.size b bx (.slice va j vc) j m w')) (fun u _ => N - lenV u)
      case atStart => exact ⟨_, _, 0, m, rfl, M20⟩
      case round =>
        obtain ⟨va, vc, j, m, rfl, m2⟩ := hrel
        obtain ⟨v, f, R, pre, hp, mh, hm, ir, hpl, hpre, hdis, htot⟩ := m2.out.ex
        obtain ⟨vo, hvo⟩ : ∃ vo, vo = Value.slice va j vc := ⟨_, rfl⟩
        rw [← hvo] at ir hdis
        cases m with
        | zero =>
          obtain ⟨a0, c0, rfl⟩ := hp.slice
          have hl0 := hp.ls
          have e0 := mrA_none mh.empty
          have et := tot_zero (bst_none mh.empty)
          have HE : Hid (Ir wr w.heap.size (.slice va j vc) N (lk (mrA true i (QL q))) ∧ Below w.heap.size w wr) := by
            refine ⟨?_, HB.out.trans (hp.bxc.2.mono HB.out.size)⟩
            rw [e0, List.append_nil] at hpre
            rw [← hpre]
            have : j = N := by rw [← hN, ← htot, et]; omega
            rw [← this, ← hvo]
            exact row_base ir HB.out.size
          clear hp mh ir hdis m2 e0 et hpre hvo
          go_wp2
          go_ret
          exact ⟨.slice va j vc, rfl, by rw [hN]; exact HE.out.1, HE.out.2⟩
        | succ p =>
          obtain ⟨g, c, rfl⟩ := hp.some
          have hl0 := hp.ls
          have rr : Rr wr g c (p + 1) f := hp.row
          have r0 := rr.c0 0 (by omega)
          have r1 := rr.c1 0 (by omega)
          simp only [Nat.zero_mul, Nat.zero_add] at r0 r1
          obtain ⟨bb, hbst, hbn, e1, e2⟩ := mh.top (fun j hj => (hp.lok j hj).2.1)
          obtain ⟨_, hne, _⟩ := bst_some hbst
          obtain ⟨hmr, htt⟩ := mrA_some hbst
          obtain ⟨im0, hx0, hxc⟩ := hp.lok 0 (by omega)
          have hbw : Below wb.heap.size wb wr := hp.bxc.2
          obtain ⟨⟨⟨xa, xn, xc, xf⟩, xr⟩, hx⟩ : ∃ x, f 0 = x := ⟨_, rfl⟩
          rw [hx] at r0 r1 e1 e2 im0 hx0 hxc
          dsimp only at r0 r1 e1 e2 im0 hx0 hxc
          obtain ⟨k, rfl⟩ : ∃ k, xn = k + 1 := ⟨xn - 1, by omega⟩
          obtain ⟨kc, rfl⟩ : ∃ kc, xc = kc + 1 := ⟨xc - 1, by omega⟩
          rcases id im0 with h0 | ⟨g1, o1, rfl, hg1, hat⟩
          · omega
          have hh0 := hat 0 (by omega)
          rw [Nat.zero_mul, Nat.add_zero] at hh0
          have w0 := (hbw.cell (p := ⟨g1, o1, none⟩) hg1).trans hh0.1
          have w1 := (hbw.cell (p := ⟨g1, o1 + 1, none⟩) hg1).trans hh0.2
          have hhd : (R bb).getD 0 (0, 0) = xf 0 := by rw [← e1]; exact things_get _ 0 (by show 0 < k + 1; omega)
          obtain ⟨⟨yk, yi⟩, hy⟩ : ∃ y, xf 0 = y := ⟨_, rfl⟩
          rw [hy] at w0 w1 hhd
          dsimp only at w0 w1
          have Bt : Below wr.heap.size wr (wr.alloc (.cells #[.slice (some ⟨g1, o1, none⟩) (k + 1) (kc + 1), .int .i64 xr] 116)) := (Below.refl _ wr).alloc (Nat.le_refl _) _
          have ir1 := ir.below Bt
          obtain ⟨go, co, w3, r3, o3, k3, hgo⟩ := append_i (wr.alloc (.cells #[.slice (some ⟨g1, o1, none⟩) (k + 1) (kc + 1), .int .i64 xr] 116)) wb.heap.size vo j (lk pre) (yk, yi) (Nat.le_trans hbw.size Bt.size) (by have := HGN.out; omega) ir1
          have a0 := cell_al (.cells #[.slice (some ⟨g1, o1, none⟩) (k + 1) (kc + 1), .int .i64 xr] 116) w0
          have a1 := cell_al (.cells #[.slice (some ⟨g1, o1, none⟩) (k + 1) (kc + 1), .int .i64 xr] 116) w1
          have hT : (wr.alloc (.cells #[.slice (some ⟨g1, o1, none⟩) (k + 1) (kc + 1), .int .i64 xr] 116)).heap[wr.heap.size]? = some (.cells #[.slice (some ⟨g1, o1, none⟩) (k + 1) (kc + 1), .int .i64 xr] 116) := heap_alloc_new wr _
          have tw : (wr.alloc (.cells #[.slice (some ⟨g1, o1, none⟩) (k + 1) (kc + 1), .int .i64 xr] 116)).cell? ⟨wr.heap.size, 0, none⟩ = some (.slice (some ⟨g1, o1, none⟩) (k + 1) (kc + 1)) := by unfold World.cell?; rw [hT]; rfl
          have tw1 : (wr.alloc (.cells #[.slice (some ⟨g1, o1, none⟩) (k + 1) (kc + 1), .int .i64 xr] 116)).cell? ⟨wr.heap.size, 1, none⟩ = some (.int .i64 xr) := by unfold World.cell?; rw [hT]; rfl
          have tf : (wr.alloc (.cells #[.slice (some ⟨g1, o1, none⟩) (k + 1) (kc + 1), .int .i64 xr] 116)).frozen? ⟨wr.heap.size, 0, none⟩ = false := by unfold World.frozen?; rw [hT]; rfl
          have hno : ∀ x, vo.ownBlock = some x → x < wr.heap.size := fun x e => (World.ownsRow.lt ir x e).2
          have t3 := k3.cell tw (fun e => by have := hno _ e; simp at this)
          have t3' := k3.cell tw1 (fun e => by have := hno _ e; simp at this)
          have f3 := k3.frozen tw tf (fun e => by have := hno _ e; simp at this)
          have hbl : b < wr.heap.size := World.block_lt_of_cell? wr _ hl0
          have hgl : g < wr.heap.size := rr.lt
          have hgo2 : go ≠ b ∧ go ≠ g ∧ go ≠ wr.heap.size := by
            rcases hgo with e | e
            · have := hdis go e
              have h5 := hno go e
              exact ⟨this.1, fun e3 => this.2 (by rw [e3]; rfl), by omega⟩
            · have : wr.heap.size + 1 ≤ go := by simpa using e
              omega
          have hwbo : ∀ x, x < wb.heap.size → vo.ownBlock ≠ some x := fun x hxl e => by
            have := (World.ownsRow.lt ir x e).1
            omega
          have hor : Ir w3 wb.heap.size (.slice (some ⟨go, 0, none⟩) (j + 1) co) (j + 1) (lk (pre ++ [(yk, yi)])) := o3.congr (fun x hx => by rw [← hpl]; exact lk_push pre (yk, yi) x (by omega))
          have kAll : ∀ W4, Kp (· = wr.heap.size) w3 W4 → Kp (fun x => vo.ownBlock = some x ∨ x = wr.heap.size) wr W4 := fun W4 k4 => (((Kp.of Bt).trans (k3.mono (fun x _ e => .inl e))).trans (k4.mono (fun x _ e => .inr e)))
          have hp4 : ∀ W4, Kp (· = wr.heap.size) w3 W4 → Hp W4 b bx (wb, bx) (.slice (some ⟨g, 0, none⟩) (p + 1) c) (p + 1) f := fun W4 k4 => hp.kp (kAll W4 k4) (fun e => by
            rcases e with e | e
            · exact (hdis b e).1 rfl
            · omega) (fun x hxl e => by
            rcases e with e | e
            · exact hwbo x hxl e
            · have := hbw.size
              have h7 : x < wb.heap.size := hxl
              omega) (fun x e1 e => by
            have e3 : g = x := Option.some.inj e1
            subst e3
            rcases e with e | e
            · exact (hdis g e).2 rfl
            · omega)
          have hj1 : tot (up R bb ((R bb).drop 1)) i + (j + 1) = N := by rw [← hN]; omega
          have hpr2 : (pre ++ [(yk, yi)]) ++ mrA true i (up R bb ((R bb).drop 1)) = mrA true i (QL q) := by
            rw [← hpre, hmr, hhd, List.append_assoc]
            rfl
          have hjN : j < N := by omega
          have HRep : Hid (∀ (x : Lk) W4 w5, 0 < k → things x.1 = (R bb).drop 1 → x.2 = xr → Kp (· = wr.heap.size) w3 W4 → Hp w5 b bx (wb, bx) (.slice (some ⟨g, 0, none⟩) (p + 1) c) (p + 1) (sinkF (aF true) (p + 1) (up f 0 x) 0) → Kp (· = g) W4 w5 → M2 true i q wb wb.heap.size b bx (.slice (some ⟨go, 0, none⟩) (j + 1) co) (j + 1) (p + 1) w5) := fun x W4 w5 hk hx1 hx2 k4 h5 k5 => by
            have hl : (R bb).drop 1 ≠ [] := fun e => by
              have := congrArg List.length e
              rw [← e1, List.length_drop, things_len] at this
              simp at this
              omega
            refine ⟨_, _, up R bb ((R bb).drop 1), pre ++ [(yk, yi)], h5, mh.repl hbn hne (by rw [hx]; exact e1) (by rw [hx]; exact e2) hl hx1 (hx2.trans e2), hm, k5.row (k4.row hor (fun y e => by cases e; exact hgo2.2.2)) (fun y e => by cases e; exact hgo2.2.1), by simp [hpl], hpr2, fun y e => ?_, hj1.trans hN.symm⟩
            have e3 : go = y := Option.some.inj e
            subst e3
            exact ⟨hgo2.1, fun e4 => hgo2.2.1 (Option.some.inj e4).symm⟩
          have hgn : ∀ y, (Value.slice (some ⟨go, 0, none⟩) (j + 1) co).ownBlock = some y → ¬ (y = b ∨ y = g) := fun y e h => by
            have e3 : go = y := Option.some.inj e
            subst e3
            rcases h with h | h
            · exact hgo2.1 h
            · exact hgo2.2.1 h
          have HPop : Hid (∀ W4 w5, k = 0 → Kp (· = wr.heap.size) w3 W4 → Hp w5 b bx (wb, bx) (.slice (some ⟨g, 0, none⟩) p c) p (sinkF (aF true) p (up f 0 (f p)) 0) → Kp (fun x => x = b ∨ x = g) W4 w5 → M2 true i q wb wb.heap.size b bx (.slice (some ⟨go, 0, none⟩) (j + 1) co) (j + 1) p w5) := fun W4 w5 hk k4 h5 k5 => by
            have hl : (R bb).drop 1 = [] := List.eq_nil_of_length_eq_zero (by rw [← e1, List.length_drop, things_len]; simp; omega)
            refine ⟨_, _, up R bb ((R bb).drop 1), pre ++ [(yk, yi)], h5, mh.pop hbn hne (by rw [hx]; exact e1) (by rw [hx]; exact e2) hl, by omega, k5.row (k4.row hor (fun y e => by cases e; exact hgo2.2.2)) hgn, by simp [hpl], hpr2, fun y e => ?_, hj1.trans hN.symm⟩
            have e3 : go = y := Option.some.inj e
            subst e3
            exact ⟨hgo2.1, fun e4 => hgo2.2.1 (Option.some.inj e4).symm⟩
          have htl : ∀ a' kc', things (a', k, kc', fun z => xf (z + 1)) = (R bb).drop 1 := fun a' kc' => by rw [← e1]; exact things_drop (some ⟨g1, o1, none⟩) (k + 1) (kc + 1) kc' a' xf
          have hr3 : (Builtin.append_ #[22, 22] 22 #[.slice va j vc, .slice (some ⟨wr.heap.size + 1, 0, none⟩) 1 1]).run Try.prog ((wr.alloc (.cells #[.slice (some ⟨g1, o1, none⟩) (k + 1) (kc + 1), .int .i64 xr] 116)).alloc (.cells #[.int .i64 yk, .int .i64 yi] 24)) = .ok (.slice (some ⟨go, 0, none⟩) (j + 1) co) w3 := by
            have := r3
            rw [hvo, World.size_alloc] at this
            exact this
          have ksc : ∀ u, Kp (· = wr.heap.size) w3 (w3.setCell ⟨wr.heap.size, 0, none⟩ u) := fun u => (Kp.refl (· = wr.heap.size) w3).setCell (p := ⟨wr.heap.size, 0, none⟩) rfl u
          have hJ : Hid (j < N) := hjN
          by_cases hk : 0 < k
          · have hkc : 0 < kc := by omega
            have kRep := replace_any (aF true) b bx g c p (wb, bx) f ((some ⟨g1, o1 + 2, none⟩, k, kc, fun z => xf (z + 1)), xr) (w3.setCell ⟨wr.heap.size, 0, none⟩ (.slice (some ⟨g1, o1 + 2, none⟩) k kc)) HA.out ⟨by
              refine .inr ⟨g1, o1 + 2, rfl, hg1, fun z hz => ?_⟩
              have := hat (z + 1) (by dsimp only at hz; omega)
              rw [show o1 + (z + 1) * 2 = o1 + 2 + z * 2 by omega] at this
              exact this, hk, by show k ≤ kc; omega⟩ (hp4 _ (ksc _)) (by have := HN.out; omega)
            have HM : Hid (∀ w5, Hp w5 b bx (wb, bx) (.slice (some ⟨g, 0, none⟩) (p + 1) c) (p + 1) (sinkF (aF true) (p + 1) (up f 0 ((some ⟨g1, o1 + 2, none⟩, k, kc, fun z => xf (z + 1)), xr)) 0) → Kp (· = g) (w3.setCell ⟨wr.heap.size, 0, none⟩ (.slice (some ⟨g1, o1 + 2, none⟩) k kc)) w5 → M2 true i q wb wb.heap.size b bx (.slice (some ⟨go, 0, none⟩) (j + 1) co) (j + 1) (p + 1) w5) := fun w5 h5 k5 => HRep.out _ _ w5 hk (htl _ _) rfl (ksc _) h5 k5
            have s0 := World.cell?_setCell_same _ ⟨wr.heap.size, 0, none⟩ (.slice (some ⟨g1, o1 + 2, none⟩) k kc) t3
            have s1 : (w3.setCell ⟨wr.heap.size, 0, none⟩ (.slice (some ⟨g1, o1 + 2, none⟩) k kc)).cell? ⟨wr.heap.size, 1, none⟩ = some (.int .i64 xr) := by rw [World.cell?_setCell_other _ _ _ _ (by simp)]; exact t3'
            have hki : (0 : Int) < k := by omega
            clear HRep HPop htl ksc hp4 kAll hor o3 k3 r3 hp mh rr ir ir1 hdis m2 hbst hmr htt im0 hat hh0 hx e1 e2 hne hbn hhd hpre hpr2 hj1 htot hT tw tw1 tf hno hwbo hgo hgo2 hgn Bt hbw hvo
            go_wp2_with (first | (at_builtin; refine wpList_append_run rfl (.tmp 50) (.tmp 55) 22 22 rfl _ _ rfl rfl hr3 ?_))
            go_fit kRep
            rintro r w5 ⟨rfl, h5, k5⟩
            have M25 : Hid _ := HM.out w5 h5 k5
            clear h5 k5 HM
            go_wp2
            exact ⟨⟨_, _, j + 1, p + 1, rfl, M25⟩, by show N - (j + 1) < N - j; have := hJ.out; omega⟩
          · obtain rfl : k = 0 := by omega
            by_cases hkc : 0 < kc
            · have kPop := pop_any (aF true) b bx g c p (wb, bx) f (w3.setCell ⟨wr.heap.size, 0, none⟩ (.slice (some ⟨g1, o1 + 2, none⟩) 0 kc)) HA.out (hp4 _ (ksc _)) (by have := HN.out; omega)
              have HM : Hid (∀ w5, Hp w5 b bx (wb, bx) (.slice (some ⟨g, 0, none⟩) p c) p (sinkF (aF true) p (up f 0 (f p)) 0) → Kp (fun x => x = b ∨ x = g) (w3.setCell ⟨wr.heap.size, 0, none⟩ (.slice (some ⟨g1, o1 + 2, none⟩) 0 kc)) w5 → M2 true i q wb wb.heap.size b bx (.slice (some ⟨go, 0, none⟩) (j + 1) co) (j + 1) p w5) := fun w5 h5 k5 => HPop.out _ w5 rfl (ksc _) h5 k5
              have s0 := World.cell?_setCell_same _ ⟨wr.heap.size, 0, none⟩ (.slice (some ⟨g1, o1 + 2, none⟩) 0 kc) t3
              clear HRep HPop htl ksc hp4 kAll hor o3 k3 r3 hp mh rr ir ir1 hdis m2 hbst hmr htt im0 hat hh0 hx e1 e2 hne hbn hhd hpre hpr2 hj1 htot hT tw tw1 tf hno hwbo hgo hgo2 hgn Bt hbw hvo
              go_wp2_with (first | (at_builtin; refine wpList_append_run rfl (.tmp 50) (.tmp 55) 22 22 rfl _ _ rfl rfl hr3 ?_))
              go_fit kPop
              rintro r w5 ⟨rfl, h5, k5, _⟩
              have M25 : Hid _ := HM.out w5 h5 k5
              clear h5 k5 HM
              go_wp2
              exact ⟨⟨_, _, j + 1, p, rfl, M25⟩, by show N - (j + 1) < N - j; have := hJ.out; omega⟩
            · obtain rfl : kc = 0 := by omega
              have kPop := pop_any (aF true) b bx g c p (wb, bx) f (w3.setCell ⟨wr.heap.size, 0, none⟩ (.slice (some ⟨g1, o1, none⟩) 0 0)) HA.out (hp4 _ (ksc _)) (by have := HN.out; omega)
              have HM : Hid (∀ w5, Hp w5 b bx (wb, bx) (.slice (some ⟨g, 0, none⟩) p c) p (sinkF (aF true) p (up f 0 (f p)) 0) → Kp (fun x => x = b ∨ x = g) (w3.setCell ⟨wr.heap.size, 0, none⟩ (.slice (some ⟨g1, o1, none⟩) 0 0)) w5 → M2 true i q wb wb.heap.size b bx (.slice (some ⟨go, 0, none⟩) (j + 1) co) (j + 1) p w5) := fun w5 h5 k5 => HPop.out _ w5 rfl (ksc _) h5 k5
              have s0 := World.cell?_setCell_same _ ⟨wr.heap.size, 0, none⟩ (.slice (some ⟨g1, o1, none⟩) 0 0) t3
              clear HRep HPop htl ksc hp4 kAll hor o3 k3 r3 hp mh rr ir ir1 hdis m2 hbst hmr htt im0 hat hh0 hx e1 e2 hne hbn hhd hpre hpr2 hj1 htot hT tw tw1 tf hno hwbo hgo hgo2 hgn Bt hbw hvo
              go_wp2_with (first | (at_builtin; refine wpList_append_run rfl (.tmp 50) (.tmp 55) 22 22 rfl _ _ rfl rfl hr3 ?_))
              go_fit kPop
              rintro r w5 ⟨rfl, h5, k5, _⟩
              have M25 : Hid _ := HM.out w5 h5 k5
              clear h5 k5 HM
              go_wp2
              exact ⟨⟨_, _, j + 1, p, rfl, M25⟩, by show N - (j + 1) < N - j; have := hJ.out; omega⟩
end Go.Proofs.Ytcgpjmpppajfdaa.Li
