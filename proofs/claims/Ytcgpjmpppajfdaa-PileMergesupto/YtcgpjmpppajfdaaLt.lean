
/- The reference's Merge: the walk. -/
import Derived.Test.YtcgpjmpppajfdaaLr
namespace Go.Proofs.Ytcgpjmpppajfdaa.Li
open Go.RowKit

set_option maxHeartbeats 4000000 in
set_option maxRecDepth 100000 in
theorem rmerge_any (fl : Bool) (la : Option Addr) (n lc : Nat) (q : Nat → Ls) (w : World) (hq : Lml w la q n) (hn : n ≤ 1073741824) (ht : tot (QL q) n ≤ 1073741824) :
    Calls Try.prog 36 #[.slice la n lc, .bool fl] w fun r w' => ∃ v, r = .returned v ∧ Ir w' w.heap.size v (tot (QL q) n) (lk (mrA fl n (QL q))) ∧ Below w.heap.size w w' := by
  have HQ : Hid (Lml w la q n) := hq
  have HT : Hid (tot (QL q) n ≤ 1073741824) := ht
  have HN : Hid (n ≤ 1073741824) := hn
  clear hq
  go_enter Try.func36, Try.ntmps36
  go_wp2
  go_loopw [6, 7] (fun av ivv w' => ∃ (i : Nat) (ga : Option Addr) (ca : Nat), ivv = .int .i64 (i : Int) ∧ i ≤ n ∧ av = .slice ga i ca ∧ Hid (Jr w' w.heap.size (.slice ga i ca) i (fun _ => 0)) ∧ Hid (Below w.heap.size w w')) (fun _ ivv _ => n - (RowKit.intOf ivv).toNat)
  case atStart => exact ⟨0, none, 0, rfl, by omega, rfl, World.ownsRow_nil _ _ _ _, Below.refl _ _⟩
  case round =>
    obtain ⟨i, ga, ca, rfl, hi, rfl, jr, hb⟩ := hrel
    by_cases hlt : i < n
    · have hii : (i : Int) < n := by omega
      obtain ⟨g, c, w1, r1, o1, k1⟩ := append_j wr w.heap.size (.slice ga i ca) i (fun _ => 0) rfl hb.out.size (by omega) jr.out
      have O1 : Hid _ := o1
      have B1 : Hid (Below w.heap.size w w1) := hb.out.trans (k1.below hb.out.size (fun k hk e => by
        have := (World.ownsRow.lt jr.out k e).1
        omega))
      have HLT : Hid (i < n) := hlt
      clear jr hb o1 k1
      go_wp2_with (at_builtin; refine wpList_append_run rfl (.tmp 16) (.tmp 17) 118 118 rfl _ _ rfl rfl r1 ?_)
      exact ⟨⟨i + 1, _, _, by go_num, HLT.out, rfl, O1, B1⟩, by simp [RowKit.intOf]; omega⟩
    · have hii : ¬ (i : Int) < n := by omega
      obtain rfl : i = n := by omega
      have hR0 : RT q (fun _ => 0) = QL q := rfl
      have RM0 : Hid (RM fl i q w (.slice ga i ca) (fun _ => 0) (.slice none 0 0) 0 wr) := ⟨jr.out, ⟨[], World.ownsRow_nil _ _ _ _, rfl, rfl⟩, rfl, fun g _ e => by simp [Value.ownBlock] at e, hb.out⟩
      clear jr hb hR0
      generalize hNN : tot (QL q) i = N at *
      go_wp2
      go_loopw [5] (fun u w' => ∃ (vl : Option Addr) (vc j : Nat) (a : Nat → Nat), u = .slice vl j vc ∧ Hid (RM fl i q w (.slice ga i ca) a (.slice vl j vc) j w')) (fun u _ => N - lenV u)
      case atStart => exact ⟨none, 0, 0, _, rfl, RM0⟩
      case round =>
        obtain ⟨vl, vc, j, a, rfl, rm⟩ := hrel
        go_wp2
        go_loopw [8, 9] (fun bv ivv w' => ∃ (x : Nat), ivv = .int .i64 (x : Int) ∧ x ≤ i ∧ bv = .int .i64 (bsI fl (RT q a) x) ∧ Hid (RM fl i q w (.slice ga i ca) a (.slice vl j vc) j w')) (fun _ ivv _ => i - (RowKit.intOf ivv).toNat)
        case atStart => exact ⟨0, rfl, by omega, rfl, rm⟩
        case round =>
          obtain ⟨x, rfl, hx, rfl, rx⟩ := hrel
          clear rm
          by_cases hxl : x < i
          · have hxi : (x : Int) < i := by omega
            obtain ⟨g, c, e, hgS⟩ := rx.out.row.some (by omega)
            cases e
            have aX := rx.out.row.cell x hxl
            obtain ⟨g1, o1, hla, l0, imx, _⟩ := (HQ.out.below rx.out.bel).at x hxl
            subst hla
            have HLX : Hid (x < i) := hxl
            by_cases hax : a x < (q x).2.1
            · have haxi : ((a x : Nat) : Int) < (q x).2.1 := by omega
              cases hbs : bst fl (RT q a) x with
              | none =>
                rw [bsI_none hbs]
                have HBN : Hid (bsI fl (RT q a) (x + 1) = (x : Int)) := bsI_some (bst_first (RT_ne hax) hbs)
                have HR : Hid (∀ m, RM fl i q w (.slice (some ⟨g, 0, none⟩) i ca) a (.slice vl j vc) j (wr.drewN m)) := fun m => rx.out.below (below_drewN (Below.refl _ _) m)
                clear rx imx hbs
                generalize (q x).1 = xa at *
                generalize (q x).2.1 = xn at *
                generalize (q x).2.2.1 = xc at *
                generalize a x = ax at *
                go_wp2_with fail
                go_big_quiet (fail)
                have HR2 : Hid _ := HR.out nq
                generalize wr.drewN nq = W6 at *
                clear aX l0 HR
                go_wp2
                exact ⟨⟨x + 1, by go_num, HLX.out, by rw [HBN.out], HR2⟩, by simp [RowKit.intOf]; omega⟩
              | some b =>
                rw [bsI_some hbs]
                obtain ⟨hbx, hbne, hmin⟩ := bst_some hbs
                clear hmin
                have hab : a b < (q b).2.1 := by
                  by_cases h : a b < (q b).2.1
                  · exact h
                  · exact absurd (RT_nil h) hbne
                have aB := rx.out.row.cell b (by omega)
                obtain ⟨g1', o1', hla', l1, imb, _⟩ := (HQ.out.below rx.out.bel).at b (by omega)
                cases hla'
                rcases id imx with h0 | ⟨gx, ox, hxa, _, hatx⟩
                · omega
                rcases id imb with h0 | ⟨gb, ob, hba, _, hatb⟩
                · omega
                obtain ⟨x0, x1⟩ := hatx (a x) hax
                obtain ⟨y0, y1⟩ := hatb (a b) hab
                rw [hxa] at l0
                rw [hba] at l1
                have kO := fun W => rless_any ((q x).2.2.2 (a x)) ((q b).2.2.2 (a b)) fl W
                rw [← KL_RT fl hax, ← KL_RT fl hab] at kO
                have HE1 : Hid (decide (KL fl (RT q a x) < KL fl (RT q a b)) = true → bsI fl (RT q a) (x + 1) = (x : Int)) := fun h => bsI_some (bst_yes (RT_ne hax) hbs (of_decide_eq_true h))
                have HE2 : Hid (decide (KL fl (RT q a x) < KL fl (RT q a b)) = false → bsI fl (RT q a) (x + 1) = (b : Int)) := fun h => bsI_some (bst_no hbs (of_decide_eq_false h))
                generalize decide (KL fl (RT q a x) < KL fl (RT q a b)) = D at *
                have HR : Hid (∀ d os, RM fl i q w (.slice (some ⟨g, 0, none⟩) i ca) a (.slice vl j vc) j (Go.Sort.grow (redrawn wr d) os)) := fun d os => rx.out.below (below_regrown wr d os)
                have habi : ((a b : Nat) : Int) < (q b).2.1 := by omega
                have hbi : (b : Int) < i := by omega
                have hb0 : decide ((b : Int) < 0) = false := decide_eq_false (by omega)
                have hax2 : decide (((a x : Nat) : Int) < ((q x).2.1 : Int)) = true := decide_eq_true (by omega)
                clear rx imx imb hbs hatx hatb hxa hba hbne
                generalize (q x).2.1 = xn at *
                generalize (q x).2.2.1 = xc at *
                generalize (q b).2.1 = bn at *
                generalize (q b).2.2.1 = bc at *
                generalize ((q x).2.2.2 (a x)).1 = xk at *
                generalize ((q x).2.2.2 (a x)).2 = xi at *
                generalize ((q b).2.2.2 (a b)).1 = yk at *
                generalize ((q b).2.2.2 (a b)).2 = yi at *
                generalize hAx : a x = ax at *
                generalize hAb : a b = ab at *
                clear hAx hAb
                have e0 := fun d os => cell_regrown x0 d os
                have e1 := fun d os => cell_regrown x1 d os
                have e2 := fun d os => cell_regrown y0 d os
                have e3 := fun d os => cell_regrown y1 d os
                have e4 := fun d os => cell_regrown l0 d os
                have e5 := fun d os => cell_regrown l1 d os
                have e6 := fun d os => cell_regrown aX d os
                have e7 := fun d os => cell_regrown aB d os
                have cO := fun d os => Calls.regrown_of (kO (Go.Sort.grow (redrawn wr d) os))
                go_wp2_with fail
                refine wp_region_quiet_below (by kernel_rfl) (by kernel_rfl) ?_
                repeat (first | quiet_step (fail) | quiet_step (exact cO _ _))
                refine wpQuiet_nil ?_
                intro _ hw'
                obtain ⟨⟨dq, osq⟩, hw''⟩ := hw'
                subst hw''
                have HR2 : Hid _ := HR.out dq osq
                clear x0 x1 y0 y1 l0 l1 aX aB e0 e1 e2 e3 e4 e5 e6 e7 cO kO HR
                generalize Go.Sort.grow (redrawn wr dq) osq = W2 at *
                cases D with
                | true =>
                  have HE : Hid _ := HE1.out rfl
                  clear HE1 HE2
                  go_wp2
                  exact ⟨⟨x + 1, by go_num, HLX.out, by rw [HE.out], HR2⟩, by simp [RowKit.intOf]; omega⟩
                | false =>
                  have HE : Hid _ := HE2.out rfl
                  clear HE1 HE2
                  go_wp2
                  exact ⟨⟨x + 1, by go_num, HLX.out, by rw [HE.out], HR2⟩, by simp [RowKit.intOf]; omega⟩
            · have haxi : ¬ ((a x : Nat) : Int) < (q x).2.1 := by omega
              have hax2 : decide (((a x : Nat) : Int) < ((q x).2.1 : Int)) = false := decide_eq_false (by omega)
              have hax3 : decide (a x < (q x).2.1) = false := decide_eq_false (by omega)
              have HBN : Hid (bsI fl (RT q a) (x + 1) = bsI fl (RT q a) x) := by unfold Hid bsI; rw [bst_skip (RT_nil hax)]
              have HR : Hid (∀ m, RM fl i q w (.slice (some ⟨g, 0, none⟩) i ca) a (.slice vl j vc) j (wr.drewN m)) := fun m => rx.out.below (below_drewN (Below.refl _ _) m)
              clear rx imx
              generalize bsI fl (RT q a) x = bv at *
              generalize (q x).1 = xa at *
              generalize (q x).2.1 = xn at *
              generalize (q x).2.2.1 = xc at *
              generalize a x = ax at *
              go_wp2_with fail
              go_big_quiet (fail)
              have HR2 : Hid _ := HR.out nq
              generalize wr.drewN nq = W6 at *
              clear aX l0 HR
              go_wp2
              exact ⟨⟨x + 1, by go_num, HLX.out, by rw [HBN.out], HR2⟩, by simp [RowKit.intOf]; omega⟩
          · have hxi : ¬ (x : Int) < i := by omega
            obtain rfl : x = i := by omega
            cases hbs : bst fl (RT q a) x with
            | none =>
              rw [bsI_none hbs]
              obtain ⟨pre, ir, hpl, hpre⟩ := rx.out.out
              have htt := rx.out.tt
              rw [tot_zero (bst_none hbs), hNN] at htt
              rw [mrA_none hbs, List.append_nil] at hpre
              have HE : Hid (Ir wr w.heap.size (.slice vl j vc) N (lk (mrA fl x (QL q))) ∧ Below w.heap.size w wr) := by
                refine ⟨?_, rx.out.bel⟩
                rw [← hpre, ← htt, Nat.zero_add]
                exact ir
              clear rx ir hpre htt
              go_wp2
              go_ret
              exact ⟨.slice vl j vc, rfl, HE.out.1, HE.out.2⟩
            | some b =>
              rw [bsI_some hbs]
              obtain ⟨hbx, hbne, hmin⟩ := bst_some hbs
              clear hmin
              obtain ⟨hmr, htt⟩ := mrA_some hbs
              have hab : a b < (q b).2.1 := by
                by_cases h : a b < (q b).2.1
                · exact h
                · exact absurd (RT_nil h) hbne
              obtain ⟨g, c, e, hgS⟩ := rx.out.row.some (by omega)
              cases e
              have aB := rx.out.row.cell b hbx
              obtain ⟨g1, o1, hla, l1, imb, _⟩ := (HQ.out.below rx.out.bel).at b hbx
              subst hla
              rcases id imb with h0 | ⟨gb, ob, hba, _, hatb⟩
              · omega
              obtain ⟨y0, y1⟩ := hatb (a b) hab
              rw [hba] at l1
              have hhd := RT_head (q := q) (a := a) hab
              obtain ⟨⟨yk, yi⟩, hy⟩ : ∃ y, (q b).2.2.2 (a b) = y := ⟨_, rfl⟩
              rw [hy] at y0 y1 hhd
              dsimp only at y0 y1
              obtain ⟨pre, ir, hpl, hpre⟩ := rx.out.out
              have htN := rx.out.tt
              rw [hNN] at htN
              obtain ⟨go, co, w6, r6, o6, k6, hgo⟩ := append_i wr.drew w.heap.size (.slice vl j vc) j (lk pre) (yk, yi) rx.out.bel.size (by omega) ir
              have hgl : g < wr.heap.size := World.block_lt_of_cell? wr _ aB
              have hng : (Value.slice vl j vc).ownBlock ≠ some g := rx.out.ap g rfl
              have hgo2 : go ≠ g := fun e => by
                rcases hgo with h | h
                · exact hng (by rw [h, e])
                · have : wr.heap.size ≤ go := h
                  omega
              have k6' : Kp (fun k => (Value.slice vl j vc).ownBlock = some k) wr w6 := ⟨k6.os, k6.tape, k6.output, k6.size, k6.block⟩
              have a6 := k6'.cell aB hng
              have jr6 : Jr w6 w.heap.size (.slice (some ⟨g, 0, none⟩) x ca) x a := k6'.row rx.out.row (fun k e => by cases e; exact hng)
              have f6 : w6.frozen? ⟨g, b, none⟩ = false := World.ownsRow.frozenAt jr6 b
              have ks : Kp (· = g) w6 (w6.setCell ⟨g, b, none⟩ (.int .i64 (((a b + 1 : Nat)) : Int))) := (Kp.refl (· = g) w6).setCell (p := ⟨g, b, none⟩) rfl _
              have HNX : Hid (RM fl x q w (.slice (some ⟨g, 0, none⟩) x ca) (up a b (a b + 1)) (.slice (some ⟨go, 0, none⟩) (j + 1) co) (j + 1) (w6.setCell ⟨g, b, none⟩ (.int .i64 (((a b + 1 : Nat)) : Int)))) := by
                refine ⟨jr6.set b (a b + 1), ⟨pre ++ [(yk, yi)], ?_, by simp [hpl], ?_⟩, ?_, fun y e e2 => ?_, ?_⟩
                · exact ks.row (show Ir w6 w.heap.size (.slice (some ⟨go, 0, none⟩) (j + 1) co) (j + 1) (lk (pre ++ [(yk, yi)])) from o6.congr (fun z hz => by rw [← hpl]; exact lk_push pre (yk, yi) z (by omega))) (fun y e => by cases e; exact hgo2)
                · rw [RT_up, ← hpre, hmr, hhd, List.append_assoc]
                  rfl
                · rw [RT_up]
                  rw [hNN]
                  omega
                · have e3 : g = y := Option.some.inj e
                  have e4 : go = y := Option.some.inj e2
                  exact hgo2 (e4.trans e3.symm)
                · have kk : Kp (fun k => (Value.slice vl j vc).ownBlock = some k ∨ k = g) wr (w6.setCell ⟨g, b, none⟩ (.int .i64 (((a b + 1 : Nat)) : Int))) := (k6'.mono (fun _ _ e => .inl e)).trans (ks.mono (fun _ _ e => .inr e))
                  exact rx.out.bel.trans (kk.below rx.out.bel.size (fun k hk e => by
                    rcases e with e | e
                    · have := (World.ownsRow.lt ir k e).1
                      omega
                    · omega))
              have hJ : Hid (j < N) := by unfold Hid; omega
              have r' : (Builtin.append_ #[22, 22] 22 #[.slice vl j vc, .slice (some ⟨wr.heap.size, 0, none⟩) 1 1]).run Try.prog (wr.alloc (.cells #[.int .i64 yk, .int .i64 yi] 24)).drew = .ok (.slice (some ⟨go, 0, none⟩) (j + 1) co) w6 := r6
              have habi : ((a b : Nat) : Int) < (q b).2.1 := by omega
              have hbi : (b : Int) < x := by omega
              have hbl : ((a b : Nat) : Int) + 1 ≤ 1073741825 := by
                have h1 : (q b).2.1 ≤ tot (QL q) x := by
                  have := tot_mono (QL q) x (b + 1) (by omega)
                  have h2 : tot (QL q) (b + 1) = tot (QL q) b + (things (q b)).length := rfl
                  rw [things_len] at h2
                  omega
                omega
              clear rx ir hpre htt hmr o6 k6 k6' jr6 ks hgo hatb imb hbs hhd hy hba hbne htN
              generalize (q b).2.1 = bn at *
              generalize (q b).2.2.1 = bc at *
              generalize hAb : a b = ab at *
              have z0 := fun o => bcell2 ((Below.refl _ wr).alloc (Nat.le_refl _) o) y0
              have z1 := fun o => bcell2 ((Below.refl _ wr).alloc (Nat.le_refl _) o) y1
              have z2 := fun o => bcell2 ((Below.refl _ wr).alloc (Nat.le_refl _) o) l1
              have z3 := fun o => bcell2 ((Below.refl _ wr).alloc (Nat.le_refl _) o) aB
              have HNX2 : Hid (RM fl x q w (.slice (some ⟨g, 0, none⟩) x ca) (up a b (ab + 1)) (.slice (some ⟨go, 0, none⟩) (j + 1) co) (j + 1) (w6.setCell ⟨g, b, none⟩ (.int .i64 ((ab : Int) + 1)))) := HNX
              clear hAb hng hgo2 hgl hgS hpl hNN hbx hab r6
              have hb0 : decide ((b : Int) < 0) = false := decide_eq_false (by omega)
              have hb1 : ¬ (b : Int) < 0 := by omega
              go_wp2_with fail
              go_region_law (refine step_append_run rfl (.tmp 67) (.tmp 78) 22 22 rfl _ _ rfl rfl r' ?_)
              all_goals go_wp2
              all_goals exact ⟨⟨_, _, j + 1, _, rfl, HNX2⟩, by show N - (j + 1) < N - j; have := hJ.out; omega⟩
end Go.Proofs.Ytcgpjmpppajfdaa.Li
