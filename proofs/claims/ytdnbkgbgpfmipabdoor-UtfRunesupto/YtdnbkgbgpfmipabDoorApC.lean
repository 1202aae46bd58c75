/- UtfRunes: the walk of the law's own apart. -/
import Derived.Test.YtdnbkgbgpfmipabDoorApB
namespace Go.Proofs.YtdnbkgbgpfmipabDoor
open Go.RowKit Go.Lib

theorem inf22 : (Tryd.prog.info? 22).map (fun i => (i.zero, i.size, i.bytes)) = some (some (.slice none 0 0), 1, 24) := by kernel_rfl
theorem make4 (B : Nat) (W : World) (hB : B ≤ W.heap.size) : ∃ W', (Instr.makeSlice 33 (.int .i64 4) (.int .i64 4)).run Tryd.prog W = .ok (.slice (some ⟨W.heap.size, 0, none⟩) 4 4) W' ∧ W'.ownsRow B 22 1 (.slice (some ⟨W.heap.size, 0, none⟩) 4 4) 4 ((List.range 4).map fun _ => .slice none 0 0) ∧ W.grownBy W' none := by
  obtain ⟨i0, hi, hz0, hz1, hz2⟩ := info_parts inf22
  have := run_make_full (P := Tryd.prog) W B 33 22 i0 _ 1 Tryd.underlying33 hi hz0 hz1 .i64 .i64 4 (by rw [hz2]; omega) (by unfold maxLen; omega) hB
  have e : (madeCells (Value.slice none 0 0).cells (4 * 1)).toList = (List.range 4).map fun _ => Value.slice none 0 0 := toList_madeCells_one (.slice none 0 0) 4
  rw [e] at this
  exact this
theorem Chg.of_none {S : Nat → Prop} {W W' : World} (h : W.grownBy W' none) : Chg S W W' := (Chg.refl S W).then h (fun _ e => by cases e)
/-- From the first loop to the second. -/
theorem P1.next {B : Nat} {V : Nat → Value} {col : Nat → Nat} {X : Nat → List Int} {W W' : World} (h : P1 B V col X 4 W) (hg : W.grownBy W' none) (G : Nat → Value) : P2 B V (ext col W.heap.size 5) (fun i => (X i).length) G 0 W' := fun i hi => by
  have r := h i hi
  rw [if_pos hi] at r
  exact ⟨fun x => absurd x (by omega), fun _ => ((r.stay (k := 9) (by omega) (Chg.of_none hg)).ext r.1 (Nat.le_refl _))⟩

theorem make200 (W : World) : ∃ W', (Instr.makeSlice 22 (.int .i64 200) (.int .i64 200)).run Tryd.prog W = .ok (.slice (some ⟨W.heap.size, 0, none⟩) 200 200) W' ∧ W'.ownsRow W.heap.size 21 1 (.slice (some ⟨W.heap.size, 0, none⟩) 200 200) 200 (rcells (List.replicate 200 0)) ∧ W.grownBy W' none := by
  obtain ⟨i0, hi, hz0, hz1, hz2⟩ := info_parts info21
  have := run_make_full (P := Tryd.prog) W W.heap.size 22 21 i0 _ 1 Tryd.underlying22 hi hz0 hz1 .i64 .i64 200 (by rw [hz2]; omega) (by unfold maxLen; omega) (Nat.le_refl _)
  have e : (madeCells (Value.int .i32 0).cells (200 * 1)).toList = rcells (List.replicate 200 0) := by
    have e1 := toList_madeCells_one (.int .i32 0) 200
    have e2 : rcells (List.replicate 200 0) = List.replicate 200 (Value.int .i32 0) := by unfold rcells; rw [List.map_replicate]
    rw [e2]
    exact e1
  rw [e] at this
  exact this

theorem mk1_at (N : Nat → Nat) (i j : Nat) (h : j < N i) : (mk1 N i).getD j 0 = 1000 + (i : Int) := by
  simp [mk1, List.getD, h]
theorem mk2_lo (N : Nat → Nat) (i j : Nat) (h : j < N i) : (mk2 N i).getD j 0 = 1000 + (i : Int) := by
  unfold mk2
  simp only [List.getD]
  rw [List.getElem?_append_left (by rw [mk1_len]; exact h)]
  exact mk1_at N i j h
theorem mk2_hi (N : Nat → Nat) (i j : Nat) (h : N i ≤ j) (h2 : j < N i + 16) : (mk2 N i).getD j 0 = 2000 + (i : Int) := by
  unfold mk2
  simp only [List.getD]
  rw [List.getElem?_append_right (by rw [mk1_len]; exact h), mk1_len, List.getElem?_replicate, if_pos (by omega)]
  rfl
theorem mk3_lo (N : Nat → Nat) (i j : Nat) (h : j < N i + 16) : (mk3 N i).getD j 0 = (mk2 N i).getD j 0 := by
  unfold mk3
  simp only [List.getD]
  rw [List.getElem?_append_left (by rw [mk2_len]; exact h)]
theorem mk3_hi (N : Nat → Nat) (i j : Nat) (h : N i + 16 ≤ j) (h2 : j < N i + 216) : (mk3 N i).getD j 0 = 3000 + (i : Int) := by
  unfold mk3
  simp only [List.getD]
  rw [List.getElem?_append_right (by rw [mk2_len]; exact h), mk2_len, List.getElem?_replicate, if_pos (by omega)]
  rfl

set_option maxHeartbeats 8000000 in
set_option maxRecDepth 100000 in
theorem apart_any (B BL : Nat) (V : Nat → Value) (X : Nat → List Int) (col : Nat → Nat) (w : World) (hX : ∀ i, i < 4 → (X i).length ≤ 1048577) (h0 : St0 B BL V col w) (h1 : P1 B V col X 0 w) :
    Calls Tryd.prog 18 #[.slice (some ⟨BL, 0, none⟩) 4 4] w fun e w' => e = .returned (.bool true) ∧ Below B w w' := by
  have HX : Hid (∀ i, i < 4 → (X i).length ≤ 1048577) := hX
  have H0 : Hid (St0 B BL V col w) := h0
  have H1 : Hid (P1 B V col X 0 w) := h1
  clear hX h0 h1
  go_enter Tryd.func18, Tryd.ntmps18
  go_wp2_with fail
  go_loopw [22] (fun t W => ∃ p : Nat, t = .int .i64 (p : Int) ∧ p ≤ 4 ∧ Hid (St0 B BL V col W) ∧ Hid (P1 B V col X p W) ∧ Below B w W) (fun t _ => 4 - (RowKit.intOf t).toNat)
  case atStart => exact ⟨0, rfl, by omega, H0, H1, Below.refl _ _⟩
  case round =>
    obtain ⟨p, rfl, hp, hs, hq, hbw⟩ := hrel
    by_cases hlt : p < 4
    · have hown := hq.out p hlt
      rw [if_neg (by omega)] at hown
      have d0 := hs.out.cells p hlt
      have hpi : (p : Int) < 4 := by omega
      have hxl := HX.out p hlt
      rcases Nat.eq_zero_or_pos (X p).length with hz | hpos
      · obtain ⟨a, c, hv⟩ := hown.1.rd.len
        rw [hv, hz] at d0
        have HN : Hid (P1 B V col X (p + 1) wr) := hq.out.step (Chg.refl _ _) (by
          have e : mk1 (fun i => (X i).length) p = X p := by
            have hx : X p = [] := List.eq_nil_of_length_eq_zero hz
            unfold mk1
            simp only [hz]
            rw [hx]; rfl
          rw [e]
          exact hown)
        clear hown hv hz hxl
        go_wp2_with fail
        go_loopw [29] (fun t W => t = .int .i64 0 ∧ W = wr) (fun _ _ => 0)
        case atStart => exact ⟨rfl, rfl⟩
        case round =>
          obtain ⟨rfl, rfl⟩ := hrel
          go_wp2
          exact ⟨⟨p + 1, by go_num, by omega, hs, HN, hbw⟩, by simp [RowKit.intOf]; omega⟩
      · obtain ⟨g, c, hv, hg, _⟩ := hown.1.rd.at hpos
        rw [hv] at d0
        have HV : Hid (V p = .slice (some ⟨g, 0, none⟩) (X p).length c) := hv
        have HOW : Hid (OwnC B col p wr (.slice (some ⟨g, 0, none⟩) (X p).length c) (ov1 (1000 + (p : Int)) (X p) 0)) := by
          rw [hv] at hown
          rw [ov1_zero]
          exact hown
        have hgB : B ≤ g := by
          rw [hv] at hown
          exact (hown.1.blk g rfl).1
        have hcg : col g = p := by
          rw [hv] at hown
          exact hown.2 g rfl
        clear hown hv
        generalize hn : (X p).length = n at *
        have HL : Hid ((X p).length = n) := hn
        clear hn
        have hni : (n : Int) ≤ 1048577 := by omega
        go_wp2_with fail
        go_loopw [29] (fun t W => ∃ j : Nat, t = .int .i64 (j : Int) ∧ j ≤ n ∧ Hid (OwnC B col p W (.slice (some ⟨g, 0, none⟩) n c) (ov1 (1000 + (p : Int)) (X p) j)) ∧ Hid (Chg (fun b => col b = p) wr W)) (fun t _ => n - (RowKit.intOf t).toNat)
        case atStart => exact ⟨0, rfl, by omega, HOW, Chg.refl _ _⟩
        case round =>
          obtain ⟨j, rfl, hj, ho, hc⟩ := hrel
          have hlen : (ov1 (1000 + (p : Int)) (X p) j).length = n := by rw [ov1_len _ _ _ (by rw [HL.out]; exact hj), HL.out]
          have hrow := ho.out.1
          unfold Own at hrow
          rw [hlen] at hrow
          by_cases hjl : j < n
          · have hc0 := row_cell hrow j (by omega)
            have hf0 := hrow.frozenAt j
            have hst := hrow.stored j (.int .i32 (1000 + (p : Int)))
            rw [ov1_set _ _ _ (by rw [HL.out]; exact hjl)] at hst
            have hji : (j : Int) < n := by omega
            have HO2 := hst.1
            have HG2 := hst.2
            clear hst hrow
            generalize (ov1 (1000 + (p : Int)) (X p) j).getD j 0 = old at *
            go_wp2
            refine ⟨⟨j + 1, by go_num, by omega, ⟨?_, ho.out.2⟩, hc.out.then HG2 (fun g2 e _ => by cases e; exact hcg)⟩, by simp [RowKit.intOf]; omega⟩
            unfold Own
            rw [ov1_len _ _ _ (by rw [HL.out]; omega), HL.out]
            exact HO2
          · obtain rfl : j = n := by omega
            have hji : ¬ (j : Int) < j := by omega
            have hm := ho.out
            rw [← HV.out, ← HL.out, ov1_end] at hm
            have HN := hq.out.step hc.out hm
            have HS := hs.out.stay (by omega) hc.out
            have hB := hs.out.below (by omega) hc.out
            clear hrow hm
            go_wp2
            exact ⟨⟨p + 1, by go_num, by omega, HS, HN, hbw.trans hB⟩, by simp [RowKit.intOf]; omega⟩
    · obtain rfl : p = 4 := by omega
      obtain ⟨w2, r2, o2, g2⟩ := make4 B wr hs.out.size
      have HP2 : Hid (P2 B V (ext col wr.heap.size 5) (fun i => (X i).length) (fun _ => .slice none 0 0) 0 w2) := hq.out.next g2 _
      have HS2 : Hid (St0 B BL V (ext col wr.heap.size 5) w2) := (hs.out.stay (k := 9) (by omega) (Chg.of_none g2)).ext hs.out
      have HH2 : Hid (Hrow B (ext col wr.heap.size 5) wr.heap.size 5 w2 (fun i => if i < 0 then (fun _ => Value.slice none 0 0) i else .slice none 0 0)) := ⟨by simpa using o2, by unfold ext; rw [if_neg (by omega)]⟩
      have hb2 : Below B w w2 := hbw.trans (hs.out.below (k := 6) (by omega) (Chg.of_none g2))
      have HNX : Hid (∀ i, i < 4 → (fun i => (X i).length) i ≤ 1048577) := HX
      generalize ext col wr.heap.size 5 = col2 at *
      generalize wr.heap.size = H at *
      clear o2 g2 hs hq hbw H0 H1 HX
      generalize (fun i => (X i).length) = N at *
      go_wp2_with fail
      clear r2
      go_loopw [45] (fun t W => ∃ (p : Nat) (col : Nat → Nat) (G : Nat → Value), t = .int .i64 (p : Int) ∧ p ≤ 4 ∧ Hid (St0 B BL V col W) ∧ Hid (P2 B V col N G p W) ∧ Hid (Hrow B col H 5 W (fun i => if i < p then G i else .slice none 0 0)) ∧ Below B w W) (fun t _ => 4 - (RowKit.intOf t).toNat)
      case atStart => exact ⟨0, _, _, rfl, by omega, HS2, HP2, HH2, hb2⟩
      case round =>
        obtain ⟨p, c2, G, rfl, hp, hs, hq, hh, hbw⟩ := hrel
        clear HS2 HP2 HH2 hb2
        by_cases hlt : p < 4
        · have d0 := hs.out.cells p hlt
          have hpi : (p : Int) < 4 := by omega
          have hown := (hq.out p hlt).2 (by omega)
          have hNp := HNX.out p hlt
          have HW0 : Hid (Own B wr (V p) (mk1 N p ++ List.replicate 0 (2000 + (p : Int)))) := by
            show Own _ _ _ _
            rw [List.replicate_zero, List.append_nil]
            exact hown.1
          have HR0 : Hid (Rd wr (V p) (mk1 N p)) := hown.1.rd
          have HC0 : Hid (Cl c2 p (V p)) := hown.2
          clear hown
          go_wp2_with fail
          go_loopw [9, 51] (fun g t W => ∃ k : Nat, t = .int .i64 (k : Int) ∧ k ≤ 16 ∧ Hid (Own B W g (mk1 N p ++ List.replicate k (2000 + (p : Int)))) ∧ Hid (Rd W (V p) (mk1 N p)) ∧ Hid (Chg (fun b => c2 b = p) wr W) ∧ Hid (∀ b, g.ownBlock = some b → b < wr.heap.size → c2 b = p)) (fun _ t _ => 16 - (RowKit.intOf t).toNat)
          case atStart => exact ⟨0, rfl, by omega, HW0, HR0, Chg.refl _ _, fun b e _ => HC0.out b e⟩
          case round =>
            obtain ⟨k, rfl, hk, ho, hr, hc, hcl⟩ := hrel
            by_cases hkl : k < 16
            · obtain ⟨v3, w3, r3, o3, rd3, c3, l3⟩ := grow_one (m := 2000 + (p : Int)) hs.out.size (by rw [List.length_append, mk1_len, List.length_replicate]; omega) ho.out hr.out rfl hc.out hcl.out
              have HO3 : Hid (Own B w3 v3 (mk1 N p ++ List.replicate (k + 1) (2000 + (p : Int)))) := by
                show Own _ _ _ _
                rw [List.replicate_succ', ← List.append_assoc]
                exact o3
              have hki : (k : Int) < 16 := by omega
              clear o3
              go_wp2_with (at_builtin; refine wpList_append_run rfl (.tmp 53) (.tmp 57) 22 22 rfl _ _ rfl rfl r3 ?_)
              exact ⟨⟨k + 1, by go_num, by omega, HO3, rd3, c3, l3⟩, by simp [RowKit.intOf]; omega⟩
            · obtain rfl : k = 16 := by omega
              have hki : ¬ ((16 : Nat) : Int) < 16 := by omega
              obtain ⟨g, c, hv, _, _⟩ := ho.out.rd.at (by rw [List.length_append, List.length_replicate]; omega)
              have hH := hh.out.stay (k := p) (by omega) hc.out
              have hold := hH.cell p hlt
              rw [if_neg (by omega)] at hold
              have hfr := hH.1.frozenAt p
              have q2 := hq.out.step hlt hc.out ho.out hr.out hcl.out
              have hput := (hH.ext (k := p) hh.out (Nat.le_refl _)).put p hlt u9
              rw [upto_put] at hput
              have HP := q2.stay (k := 5) (by omega) hput.2
              have hsx := (hs.out.stay (k := p) (by omega) hc.out).ext (k := p) hs.out
              have HS := hsx.stay (k := 5) (by omega) hput.2
              have HB := (hbw.trans (hs.out.below (k := p) (by omega) hc.out)).trans (hsx.below (k := 5) (by omega) hput.2)
              have HH := hput.1
              have HHP : Hid _ := HP
              have HHS : Hid _ := HS
              have HHH : Hid _ := HH
              clear HP HS HH hput hsx q2 hH
              subst hv
              generalize (mk1 N p ++ List.replicate 16 (2000 + (p : Int))).length = n16 at *
              go_wp2
              exact ⟨⟨p + 1, _, _, by go_num, by omega, HHS, HHP, HHH, HB⟩, by simp [RowKit.intOf]; omega⟩
        · obtain rfl : p = 4 := by omega
          obtain ⟨w5, r5, o5, g5⟩ := make4 B wr hs.out.size
          have cg9 : Chg (fun b => c2 b = 9) wr w5 := Chg.of_none g5
          have HP3 : Hid (P3 B V (ext c2 wr.heap.size 6) N G (fun _ => .slice none 0 0) 0 w5) := hq.out.next g5 _
          have HS3 : Hid (St0 B BL V (ext c2 wr.heap.size 6) w5) := (hs.out.stay (k := 9) (by omega) cg9).ext hs.out
          have HH3 : Hid (Hrow B (ext c2 wr.heap.size 6) H 5 w5 (fun i => if i < 4 then G i else .slice none 0 0)) := (hh.out.stay (k := 9) (by omega) cg9).ext hh.out (Nat.le_refl _)
          have HM3 : Hid (Hrow B (ext c2 wr.heap.size 6) wr.heap.size 6 w5 (fun i => if i < 0 then (fun _ => Value.slice none 0 0) i else .slice none 0 0)) := ⟨by simpa using o5, by unfold ext; rw [if_neg (by omega)]⟩
          have hb3 : Below B w w5 := hbw.trans (hs.out.below (k := 6) (by omega) (Chg.of_none g5))
          generalize ext c2 wr.heap.size 6 = c3 at *
          generalize wr.heap.size = H2 at *
          clear o5 g5 cg9 hs hq hh hbw
          go_wp2_with fail
          clear r5
          go_loopw [70] (fun t W => ∃ (p : Nat) (col : Nat → Nat) (M : Nat → Value), t = .int .i64 (p : Int) ∧ p ≤ 4 ∧ Hid (St0 B BL V col W) ∧ Hid (P3 B V col N G M p W) ∧ Hid (Hrow B col H 5 W (fun i => if i < 4 then G i else .slice none 0 0)) ∧ Hid (Hrow B col H2 6 W (fun i => if i < p then M i else .slice none 0 0)) ∧ Below B w W) (fun t _ => 4 - (RowKit.intOf t).toNat)
          case atStart => exact ⟨0, _, _, rfl, by omega, HS3, HP3, HH3, HM3, hb3⟩
          case round =>
            obtain ⟨p, c4, M, rfl, hp, hs, hq, hh, hm, hbw⟩ := hrel
            clear HS3 HP3 HH3 HM3 hb3
            by_cases hlt : p < 4
            · have d0 := hh.out.cell p hlt
              rw [if_pos hlt] at d0
              have hpi : (p : Int) < 4 := by omega
              obtain ⟨rV, _, rG⟩ := hq.out p hlt
              have rG' := rG (by omega)
              have hNp := HNX.out p hlt
              obtain ⟨w6, r6, o6, g6⟩ := make200 wr
              have HO6 : Hid (w6.ownsRow wr.heap.size 21 1 (.slice (some ⟨wr.heap.size, 0, none⟩) 200 200) 200 (rcells (ov1 (3000 + (p : Int)) (List.replicate 200 0) 0))) := by
                rw [ov1_zero]
                exact o6
              have HC6 : Hid (Chg (fun _ => False) wr w6) := Chg.of_none g6
              have HRV : Hid (Rd wr (V p) (mk1 N p)) := rV.1
              have HOG : Hid (OwnC B c4 p wr (G p) (mk2 N p)) := rG'
              clear rV rG rG' o6 g6
              obtain ⟨gg, cg, hgv, _⟩ := HOG.out.1.rd.at (by rw [mk2_len]; omega)
              have HGV : Hid (G p = .slice (some ⟨gg, 0, none⟩) (mk2 N p).length cg) := hgv
              clear hgv
              go_wp2_with fail
              clear r6
              go_loopw [78] (fun t W => ∃ j : Nat, t = .int .i64 (j : Int) ∧ j ≤ 200 ∧ Hid (W.ownsRow wr.heap.size 21 1 (.slice (some ⟨wr.heap.size, 0, none⟩) 200 200) 200 (rcells (ov1 (3000 + (p : Int)) (List.replicate 200 0) j))) ∧ Hid (Chg (fun _ => False) wr W)) (fun t _ => 200 - (RowKit.intOf t).toNat)
              case atStart => exact ⟨0, rfl, by omega, HO6, HC6⟩
              case round =>
                obtain ⟨j, rfl, hj, ho, hc⟩ := hrel
                by_cases hjl : j < 200
                · have hc0 := row_cell ho.out j (by rw [ov1_len _ _ _ (by rw [List.length_replicate]; exact hj), List.length_replicate]; exact hjl)
                  have hf0 := ho.out.frozenAt j
                  have hst := ho.out.stored j (.int .i32 (3000 + (p : Int)))
                  rw [ov1_set _ _ _ (by rw [List.length_replicate]; exact hjl)] at hst
                  have hji : (j : Int) < 200 := by omega
                  have HO2 := hst.1
                  have HG2 := hc.out.then hst.2 (fun g e hl => by cases e; omega)
                  clear hst
                  generalize (ov1 (3000 + (p : Int)) (List.replicate 200 0) j).getD j 0 = old at *
                  go_wp2
                  exact ⟨⟨j + 1, by go_num, by omega, HO2, HG2⟩, by simp [RowKit.intOf]; omega⟩
                · obtain rfl : j = 200 := by omega
                  have hji : ¬ ((200 : Nat) : Int) < 200 := by omega
                  have hrow := ho.out
                  have he : ov1 (3000 + (p : Int)) (List.replicate 200 0) 200 = List.replicate 200 (3000 + (p : Int)) := by
                    have := ov1_end (3000 + (p : Int)) (List.replicate 200 0)
                    rw [List.length_replicate] at this
                    exact this
                  rw [he] at hrow
                  have hOG := row_stay HOG.out.1 (fun _ _ => id) hc.out
                  obtain ⟨v7, w7, r7, o7, rd1, rd2, c7, cl7⟩ := grow_many (col := c4) (p := p) (ys := List.replicate 200 (3000 + (p : Int))) (c := 200) hs.out.size (by rw [mk2_len, List.length_replicate]; omega) hOG (fun j hj => row_cell hrow j hj) (by rw [List.length_replicate]; omega)
                    (HRV.out.stay0 hc.out) (t1 := List.replicate 16 (2000 + (p : Int))) rfl (HOG.out.1.rd.stay0 hc.out) (t2 := []) (List.append_nil _).symm hc.out.weak (fun g e _ => HOG.out.2 g e)
                  rw [List.length_replicate] at r7
                  obtain ⟨g, c, hv, _, _⟩ := o7.rd.at (by rw [List.length_append, List.length_replicate]; omega)
                  have hmH := hm.out.stay (k := p) (by omega) c7
                  have hold := hmH.cell p hlt
                  rw [if_neg (by omega)] at hold
                  have hfr := hmH.1.frozenAt p
                  have q3 := hq.out.step hlt c7 o7 rd1 rd2 cl7
                  have hput := (hmH.ext (k := p) hm.out (Nat.le_refl _)).put p hlt v7
                  rw [upto_put] at hput
                  have hsx := (hs.out.stay (k := p) (by omega) c7).ext (k := p) hs.out
                  have HHP : Hid _ := q3.stay (k := 6) (by omega) hput.2
                  have HHS : Hid _ := hsx.stay (k := 6) (by omega) hput.2
                  have HB := (hbw.trans (hs.out.below (k := p) (by omega) c7)).trans (hsx.below (k := 6) (by omega) hput.2)
                  have HHM : Hid _ := hput.1
                  have HHH : Hid _ := ((hh.out.stay (k := p) (by omega) c7).ext (k := p) hh.out (Nat.le_refl _)).stay (k := 6) (by omega) hput.2
                  clear hput hsx q3 hmH rd1 rd2 o7 hOG hrow he
                  subst hv
                  generalize (mk2 N p ++ List.replicate 200 (3000 + (p : Int))).length = n216 at *
                  go_wp2_with (at_builtin; refine wpList_append_run rfl (.tmp 90) (.tmp 91) 22 22 rfl _ _ rfl rfl r7 ?_)
                  exact ⟨⟨p + 1, _, _, by go_num, by omega, HHS, HHP, HHH, HHM, HB⟩, by simp [RowKit.intOf]; omega⟩
            · obtain rfl : p = 4 := by omega
              have HC : Hid (∀ i, i < 4 → wr.cell? ⟨BL, i, none⟩ = some (V i) ∧ wr.cell? ⟨H, i, none⟩ = some (G i) ∧ wr.cell? ⟨H2, i, none⟩ = some (M i)) := fun i hi => ⟨hs.out.cells i hi, by have := hh.out.cell i hi; rw [if_pos hi] at this; exact this, by have := hm.out.cell i hi; rw [if_pos hi] at this; exact this⟩
              have HR : Hid (∀ i, i < 4 → Rd wr (V i) (mk1 N i) ∧ Rd wr (G i) (mk2 N i) ∧ Rd wr (M i) (mk3 N i)) := fun i hi => ⟨(hq.out i hi).1.1, ((hq.out i hi).2.1 hi).1.1, ((hq.out i hi).2.1 hi).2.1.rd⟩
              clear hs hq hh hm
              go_wp2_with fail
              go_loopw [97] (fun t W => ∃ p : Nat, t = .int .i64 (p : Int) ∧ p ≤ 4 ∧ W = wr) (fun t _ => 4 - (RowKit.intOf t).toNat)
              case atStart => exact ⟨0, rfl, by omega, rfl⟩
              case round =>
                obtain ⟨p, rfl, hp, rfl⟩ := hrel
                by_cases hlt : p < 4
                · obtain ⟨d0, d1, d2⟩ := HC.out p hlt
                  obtain ⟨rV, rG, rM⟩ := HR.out p hlt
                  have hpi : (p : Int) < 4 := by omega
                  have hNp := HNX.out p hlt
                  obtain ⟨a, cv, hv⟩ := rV.len
                  obtain ⟨gg, cg, hgv, _, xg⟩ := rG.at (by rw [mk2_len]; omega)
                  obtain ⟨gm, cm, hmv, _, xm⟩ := rM.at (by rw [mk3_len]; omega)
                  rw [hv, mk1_len] at d0
                  rw [hgv, mk2_len] at d1
                  rw [hmv, mk3_len] at d2
                  have HV : Hid (V p = .slice a (N p) cv) := by rw [mk1_len] at hv; exact hv
                  have HXG : Hid (∀ j, j < N p + 16 → _ = some (Value.int .i32 ((mk2 N p).getD j 0))) := fun j hj => xg j (by rw [mk2_len]; exact hj)
                  have HXM : Hid (∀ j, j < N p + 216 → _ = some (Value.int .i32 ((mk3 N p).getD j 0))) := fun j hj => xm j (by rw [mk3_len]; exact hj)
                  have HRV : Hid (Rd _ (V p) (mk1 N p)) := rV
                  have hNi : (N p : Int) ≤ 1048577 := by omega
                  clear hv hgv hmv xg xm rV rG rM
                  go_wp2_with fail
                  go_loopw [107] (fun t W => ∃ j : Nat, t = .int .i64 (j : Int) ∧ j ≤ N p + 216 ∧ W = wr) (fun t _ => N p + 216 - (RowKit.intOf t).toNat)
                  case atStart => exact ⟨0, rfl, by omega, rfl⟩
                  case round =>
                    obtain ⟨j, rfl, hj, rfl⟩ := hrel
                    by_cases hjl : j < N p + 216
                    · have em := HXM.out j hjl
                      have hji : (j : Int) < (N p : Int) + 216 := by omega
                      by_cases h1 : j < N p
                      · obtain ⟨gv, cv2, hv2, _, xv⟩ := HRV.out.at (by rw [mk1_len]; omega)
                        have ev := xv j (by rw [mk1_len]; exact h1)
                        have eg := HXG.out j (by omega)
                        rw [HV.out, mk1_len] at hv2
                        simp only [Value.slice.injEq, true_and] at hv2
                        obtain ⟨rfl, rfl⟩ := hv2
                        rw [mk3_lo N p j (by omega), mk2_lo N p j h1] at em
                        rw [mk2_lo N p j h1] at eg
                        rw [mk1_at N p j h1] at ev
                        have i1 : (j : Int) < N p := by omega
                        have i2 : (j : Int) < (N p : Int) + 16 := by omega
                        clear xv
                        go_wp2
                        exact ⟨⟨j + 1, by go_num, by omega, trivial⟩, by simp [RowKit.intOf]; omega⟩
                      · have i1 : ¬ (j : Int) < N p := by omega
                        by_cases h2 : j < N p + 16
                        · have eg := HXG.out j h2
                          rw [mk3_lo N p j h2, mk2_hi N p j (by omega) h2] at em
                          rw [mk2_hi N p j (by omega) h2] at eg
                          have i2 : (j : Int) < (N p : Int) + 16 := by omega
                          go_wp2
                          exact ⟨⟨j + 1, by go_num, by omega, trivial⟩, by simp [RowKit.intOf]; omega⟩
                        · rw [mk3_hi N p j (by omega) hjl] at em
                          have i2 : ¬ (j : Int) < (N p : Int) + 16 := by omega
                          go_wp2
                          exact ⟨⟨j + 1, by go_num, by omega, trivial⟩, by simp [RowKit.intOf]; omega⟩
                    · have hji : ¬ (j : Int) < (N p : Int) + 216 := by omega
                      go_wp2
                      exact ⟨⟨p + 1, by go_num, by omega, trivial⟩, by simp [RowKit.intOf]; omega⟩
                · have hpi : ¬ (p : Int) < 4 := by omega
                  go_wp2
                  go_ret
                  exact ⟨rfl, hbw⟩
end Go.Proofs.YtdnbkgbgpfmipabDoor
