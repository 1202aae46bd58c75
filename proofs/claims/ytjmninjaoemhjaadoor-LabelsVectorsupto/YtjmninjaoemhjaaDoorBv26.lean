/- A bundle of texts. -/
import Derived.Test.YtjmninjaoemhjaaDoorBv24
import Derived.Test.YtjmninjaoemhjaaDoorBv25
import Derived.Deep.RegionLaw
import Derived.Deep.CutBlock
/- LabelsVectors: the walk. -/
namespace Go.Proofs.YtjmninjaoemhjaaDoor
open Go.RowKit Go.Lib Go.Shelf Go.Sort

attribute [local go_sem] Oper.semAt_some run_store_float

set_option maxRecDepth 100000 in
set_option maxHeartbeats 16000000 in
theorem vectors_walk (a : Option Addr) (n c : Nat) (q : Nat → El) (w : World) (h : Em w a q n) (hz : a = none → n = 0 ∧ c = 0) (hnc : n ≤ c) (hcm : c ≤ 9223372036854775807) (hn : n ≤ 1048576) (hH : ∀ j, j < n → V.Hy w (q j)) (hT : Lib.Utf8Tabs 1 2 w) :
    Calls Tryd.prog 5 #[.slice a n c] w fun e w' => e = .returned (.bool true) ∧ Below w.heap.size w w' := by
  have HT : Hid (∀ W, Below w.heap.size w W → Lib.Utf8Tabs 1 2 W) := (show ∀ W, _ → _ from fun W b => tabs_below hT (tabs_size hT) b)
  have HA : Hid (∀ W, Below w.heap.size w W → RW W (.slice a n c) n q ∧ Em W a q n ∧ ∀ j, j < n → V.Hy W (q j)) := (show ∀ W, _ → _ from fun W b => ⟨⟨⟨a, c, rfl, h.below b⟩, fun j hj => ⟨((hH j hj).below b).lm, by have := (hH j hj).n0; omega⟩⟩, h.below b, fun j hj => (hH j hj).below b⟩)
  have kA := awake_vec w hT
  have oT : FloatKind.f64.format.order 4611686018427387904 4611686018427387904 = some .eq := by decide +kernel
  clear h hT hH
  go_enter Tryd.func5, Tryd.ntmps5
  go_wp2_with fail
  go_fit kA
  rintro e w1 ⟨g0, c0, rfl, b1, x1⟩
  have HB1 : Hid (Below w.heap.size w w1) := b1
  have k1 := rvector_any a n c q w1 (HA.out w1 b1).2.1 hz hnc hcm (by omega) (fun j hj => ((HA.out w1 b1).2.2 j hj).eo)
  clear kA b1 hz hnc hcm
  go_wp2_with fail
  clear x1 oT
  go_fit k1
  rintro e w2 hR
  obtain ⟨E, N, aw, cw, qw, rfl, b2, ow, hNn, hal, hCV⟩ := hR.wa
  have HB2 : Hid (Below w.heap.size w w2) := HB1.out.trans (b2.mono HB1.out.size)
  have HSQ : Hid (∀ j, j < N → (qw j).n ≤ 1048576) := (show ∀ j, _ → _ from fun j hj => by
    obtain ⟨k, hk, e⟩ := hal j hj
    rw [← e]
    exact ((HA.out w2 HB2.out).2.2 k hk).n0)
  have HW2 : Hid (∀ W, Below w2.heap.size w2 W → RW W (.slice aw N cw) N qw ∧ Em W aw qw N) := (show ∀ W, _ → _ from fun W b => by
    have e1 := elM_row (kept_row ow b)
    refine ⟨⟨⟨aw, cw, rfl, e1⟩, fun j hj => ?_⟩, e1⟩
    obtain ⟨k, hk, e⟩ := hal j hj
    rw [← e]
    have := (HA.out W (HB2.out.trans (b.mono HB2.out.size))).2.2 k hk
    exact ⟨this.lm, by have := this.n0; omega⟩)
  have HCV : Hid (CV ((elL q n).map core) E ((elL qw N).map core)) := hCV
  have hN : N ≤ 1048576 := by omega
  have k2 := copied_any17 a n c q w2 (HA.out w2 HB2.out).2.1 (HA.out w2 HB2.out).2.2 hn
  clear k1 hR b2 ow hal hCV HB1
  go_wp2_with fail
  go_fit k2
  rintro e w3 ⟨gi, ci, r, rfl, b3, hVi, hcr⟩
  have HB3 : Hid (Below w2.heap.size w2 w3) := b3
  have HCR : Hid (∀ j, j < n → core (r j) = core (q j)) := hcr
  have HSR : Hid (∀ j, j < n → (r j).n ≤ 1048576 ∧ ∀ k, k < (r j).n → ((r j).f k).1.size ≤ 1048576 ∧ ((r j).f k).2.size ≤ 1048576) := (show ∀ j, _ → _ from fun j hj => by
    obtain ⟨e1, e2, _⟩ := core_eq (hcr j hj)
    have hy := (HA.out w2 HB2.out).2.2 j hj
    refine ⟨by rw [e1]; exact hy.n0, fun k hk => ?_⟩
    rw [e2 k hk]
    exact hy.sz k (by omega))
  have HI : Hid (∀ W, Below w3.heap.size w3 W → Vo w2.heap.size W (.slice (some ⟨gi, 0, none⟩) n ci) n r ∧ Lib.Utf8Tabs 1 2 W ∧ Below w2.heap.size w2 W ∧ Below w.heap.size w W) := (show ∀ W, _ → _ from fun W b => by
    have b' : Below w2.heap.size w2 W := HB3.out.trans (b.mono HB3.out.size)
    have b'' : Below w.heap.size w W := HB2.out.trans (b'.mono HB2.out.size)
    exact ⟨hVi.below b, HT.out W b'', b', b''⟩)
  have HBI : Hid ((∀ b, (Value.slice (some ⟨gi, 0, none⟩) n ci).ownBlock = some b → w2.heap.size ≤ b ∧ b < w3.heap.size) ∧ ∀ j, j < n → ∀ b, (Value.slice (r j).a (r j).n (r j).c).ownBlock = some b → w2.heap.size ≤ b ∧ b < w3.heap.size) := (show _ ∧ _ from ⟨own_bd hVi.1, fun j hj => own_bd (hVi.2.1 j hj).1⟩)
  have HK3 : Hid (∀ W, Below w3.heap.size w3 W → Calls Tryd.prog 15 #[.slice (some ⟨gi, 0, none⟩) n ci] W (VA E N qw W)) := (show ∀ W, _ → _ from fun W b => vec_vo (HI.out W b).1 (fun j hj => ⟨by have := (HSR.out j hj).1; omega, fun k hk => by have := (HSR.out j hj).2 k hk; omega⟩) (HI.out W b).2.1 (by omega) (by rw [eq_cores HCR.out]; exact HCV.out))
  have HAL : Hid (∀ W, Below w3.heap.size w3 W → Calls Tryd.prog 18 #[.slice (some ⟨gi, 0, none⟩) n ci, .slice a n c] W fun e w' => e = .returned (.bool true) ∧ Below W.heap.size W w') := (show ∀ W, _ → _ from fun W b => alike_rw ((HI.out W b).1.rw fun j hj => by have := (HSR.out j hj).1; omega) (HA.out W (HI.out W b).2.2.2).1 HCR.out (by omega))
  have k3 := HK3.out w3 (Below.refl _ _)
  clear k2 b3 hVi hcr
  go_wp2_with fail
  go_fit k3
  rintro e w4 ⟨aa, ca, ra, rfl, b4, hVa, hca⟩
  have HB4 : Hid (Below w3.heap.size w3 w4) := b4
  have HCA : Hid (∀ j, j < N → core (ra j) = core (qw j)) := hca
  have HVA : Hid (Vo w3.heap.size w4 (.slice aa N ca) N ra) := hVa
  have k4 := HK3.out w4 b4
  clear k3 b4 hVa hca
  go_wp2_with fail
  go_fit k4
  rintro e w5 ⟨ab, cb, rb, rfl, b5, hVb, hcb⟩
  have HB5 : Hid (Below w4.heap.size w4 w5) := b5
  have HCB : Hid (∀ j, j < N → core (rb j) = core (qw j)) := hcb
  have HVB : Hid (Vo w4.heap.size w5 (.slice ab N cb) N rb) := hVb
  have HB35 : Hid (Below w3.heap.size w3 w5) := HB4.out.trans (b5.mono HB4.out.size)
  have HSN : Hid (∀ j, j < N → (ra j).n ≤ 1048576 ∧ (rb j).n ≤ 1048576) := (show ∀ j, _ → _ from fun j hj => by
    have e1 := (core_eq (HCA.out j hj)).1
    have e2 := (core_eq (HCB.out j hj)).1
    have := HSQ.out j hj
    omega)
  have HV5 : Hid (∀ W, Below w5.heap.size w5 W → Vo w3.heap.size W (.slice aa N ca) N ra ∧ Vo w4.heap.size W (.slice ab N cb) N rb ∧ Below w3.heap.size w3 W) := (show ∀ W, _ → _ from fun W b => ⟨HVA.out.below (HB5.out.trans (b.mono HB5.out.size)), HVB.out.below b, HB35.out.trans (b.mono HB35.out.size)⟩)
  have HAW : Hid (∀ W, Below w5.heap.size w5 W → (Calls Tryd.prog 18 #[.slice aa N ca, .slice aw N cw] W fun e w' => e = .returned (.bool true) ∧ Below W.heap.size W w') ∧ (Calls Tryd.prog 18 #[.slice ab N cb, .slice aw N cw] W fun e w' => e = .returned (.bool true) ∧ Below W.heap.size W w')) := (show ∀ W, _ → _ from fun W b => by
    obtain ⟨v1, v2, v3⟩ := HV5.out W b
    have hw := (HW2.out W (HI.out W v3).2.2.1).1
    exact ⟨alike_rw (v1.rw fun j hj => by have := (HSN.out j hj).1; omega) hw HCA.out (by omega), alike_rw (v2.rw fun j hj => by have := (HSN.out j hj).2; omega) hw HCB.out (by omega)⟩)
  have k5 := (HAW.out w5 (Below.refl _ _)).1
  clear k4 b5 hVb hcb
  go_wp2_with fail
  go_fit k5
  rintro e w6 ⟨rfl, b6⟩
  have HB6 : Hid (Below w5.heap.size w5 w6) := b6
  have k6 := (HAW.out w6 b6).2
  clear k5 b6
  go_wp2_with fail
  go_fit k6
  rintro e w7 ⟨rfl, b7⟩
  have HB7 : Hid (Below w5.heap.size w5 w7) := HB6.out.trans (b7.mono HB6.out.size)
  have k7 := HAL.out w7 (HV5.out w7 HB7.out).2.2
  clear k6 b7
  go_wp2_with fail
  go_fit k7
  rintro e w8 ⟨rfl, b8⟩
  have HB8 : Hid (Below w5.heap.size w5 w8) := HB7.out.trans (b8.mono HB7.out.size)
  have HV8 : Hid (∀ W, Below w8.heap.size w8 W → Vo w3.heap.size W (.slice aa N ca) N ra ∧ Vo w4.heap.size W (.slice ab N cb) N rb ∧ Below w3.heap.size w3 W) := (show ∀ W, _ → _ from fun W b => HV5.out W (HB8.out.trans (b.mono HB8.out.size)))
  have HNi : Hid ((N : Int) ≤ 1048576) := (show (N : Int) ≤ 1048576 by omega)
  clear k7 b8 HAW HB6 HB7
  go_wp2_with fail
  go_loopw [11, 91] (fun sv t W => ∃ i : Nat, t = .int .i64 (i : Int) ∧ i ≤ N ∧ Hid (W.ownsRow w8.heap.size 22 1 sv (2 * i) (stL ra rb i) ∧ (i = 0 → sv = .slice none 0 0) ∧ Below w8.heap.size w8 W)) (fun _ t _ => N - (RowKit.intOf t).toNat)
  case atStart => exact ⟨0, rfl, by omega, World.ownsRow_nil _ _ _ _, fun _ => rfl, Below.refl _ _⟩
  case round =>
    obtain ⟨i, rfl, hi, HS⟩ := hrel
    by_cases hlt : i < N
    · have hii : (i : Int) < N := by omega
      have i0 : (0 : Int) ≤ (i : Int) := by omega
      obtain ⟨v1, v2, _⟩ := HV8.out wr HS.out.2.2
      obtain ⟨ga, oa, rfl, _, x0, _⟩ := (elM_row v1.1).at i hlt
      obtain ⟨gb, ob, rfl, _, y0, _⟩ := (elM_row v2.1).at i hlt
      obtain ⟨v', w', r', o', b'⟩ := append_two w8.heap.size wr.drew u11 (2 * i) (stL ra rb i) (.slice (ra i).a (ra i).n (ra i).c) (.slice (rb i).a (rb i).n (rb i).c) rfl rfl (kept_row HS.out.1 ((Below.refl _ wr).drew)) HS.out.2.2.size (by omega)
      rw [← stL_next] at o'
      have HN : Hid (w'.ownsRow w8.heap.size 22 1 v' (2 * (i + 1)) (stL ra rb (i + 1)) ∧ (i + 1 = 0 → v' = .slice none 0 0) ∧ Below w8.heap.size w8 w') := ⟨o', fun e => absurd e (by omega), HS.out.2.2.drew.trans b'⟩
      clear o' b' v1 v2 HS
      generalize (ra i).a = pa at *
      generalize (ra i).n = pn at *
      generalize (ra i).c = pc at *
      generalize (rb i).a = sa at *
      generalize (rb i).n = sn at *
      generalize (rb i).c = sc at *
      go_upto_region 14 with fail
      go_region_law (refine step_append_run rfl (.tmp 94) (.tmp 105) 50 50 rfl _ _ rfl rfl r' ?_)
      all_goals go_wp2
      all_goals exact ⟨⟨i + 1, by go_num, by omega, HN⟩, by simp [RowKit.intOf]; omega⟩
    · obtain rfl : N = i := by omega
      have hii : ¬ (N : Int) < N := by omega
      obtain ⟨v1, v2, v3⟩ := HV8.out wr HS.out.2.2
      have la : ∀ j, j < N → ∀ b, (Value.slice (ra j).a (ra j).n (ra j).c).ownBlock = some b → w3.heap.size ≤ b ∧ b < w4.heap.size := fun j hj => own_bd (HVA.out.2.1 j hj).1
      have lb : ∀ j, j < N → ∀ b, (Value.slice (rb j).a (rb j).n (rb j).c).ownBlock = some b → w4.heap.size ≤ b ∧ b < w5.heap.size := fun j hj => own_bd (HVB.out.2.1 j hj).1
      have lra := own_bd HVA.out.1
      have lrb := own_bd HVB.out.1
      have s45 := HB5.out.size
      have s58 := HB8.out.size
      have s34 := HB4.out.size
      have k9 := apart_sets wr w3.heap.size w4.heap.size w8.heap.size N _ _ u11 ra rb hN v1 v2 HS.out.1 HS.out.2.1 (fun j hj => by have := HSN.out j hj; omega) (fun j k hj hk b h1 h2 => by have := la j hj b h1; have := lb k hk b h2; omega) ⟨s34, v3.size⟩ (fun j hj b hb => by
        rcases hb with hb | hb
        · have := la j hj b hb; omega
        · have := lb j hj b hb; omega)
      go_wp2_with fail
      go_fit k9
      rintro e w10 ⟨rfl, kp10⟩
      have HB10 : Hid (Below w3.heap.size w3 w10) := v3.trans (kp10.below v3.size fun b hb hm => by
        rcases hm with hm | ⟨j, hj, hm | hm⟩
        · omega
        · have := la j hj b hm; omega
        · have := lb j hj b hm; omega)
      have HRA : Hid (w10.ownsRow w3.heap.size 45 2 (.slice aa N ca) N (fl e2 (elL ra N)) ∧ w10.ownsRow w4.heap.size 45 2 (.slice ab N cb) N (fl e2 (elL rb N))) := (show _ ∧ _ by
        refine ⟨kp10.row v1.1 fun b hb hm => ?_, kp10.row v2.1 fun b hb hm => ?_⟩
        · have := lra b hb
          rcases hm with hm | ⟨j, hj, hm | hm⟩
          · omega
          · exact (v1.2.1 j hj).2 b hb hm
          · have := lb j hj b hm; omega
        · have := lrb b hb
          rcases hm with hm | ⟨j, hj, hm | hm⟩
          · omega
          · have := la j hj b hm; omega
          · exact (v2.2.1 j hj).2 b hb hm)
      have HLR : Hid ((∀ b, (Value.slice aa N ca).ownBlock = some b → w3.heap.size ≤ b ∧ b < w4.heap.size) ∧ ∀ b, (Value.slice ab N cb).ownBlock = some b → w4.heap.size ≤ b) := (show _ ∧ _ from ⟨lra, fun b hb => (lrb b hb).1⟩)
      have k10 := HAL.out w10 HB10.out
      clear k9 kp10 la lb lra lrb s45 s58 s34 v1 v2 v3 HS
      go_wp2_with fail
      go_fit k10
      rintro e w11 ⟨rfl, b11⟩
      have HB11 : Hid (Below w3.heap.size w3 w11) := HB10.out.trans (b11.mono HB10.out.size)
      have HRA11 : Hid (w11.ownsRow w3.heap.size 45 2 (.slice aa N ca) N (fl e2 (elL ra N)) ∧ w11.ownsRow w4.heap.size 45 2 (.slice ab N cb) N (fl e2 (elL rb N))) := (show _ ∧ _ from ⟨kept_row HRA.out.1 b11, kept_row HRA.out.2 b11⟩)
      clear k10 b11 HRA HB10
      go_wp2_with fail
      go_loopw [119] (fun t W => ∃ (i : Nat) (xs : List Value), t = .int .i64 (i : Int) ∧ i ≤ N ∧ Hid (W.ownsRow w3.heap.size 45 2 (.slice aa N ca) N xs ∧ Kp (fun b => (Value.slice aa N ca).ownBlock = some b) w11 W)) (fun t _ => N - (RowKit.intOf t).toNat)
      case atStart => exact ⟨0, _, rfl, by omega, HRA11.out.1, Kp.refl _ _⟩
      case round =>
        obtain ⟨i, xs, rfl, hi, HX⟩ := hrel
        by_cases hlt : i < N
        · have hii : (i : Int) < N := by omega
          have i0 : (0 : Int) ≤ (i : Int) := by omega
          rcases HX.out.1.2 with ⟨_, e⟩ | ⟨g, cap, cur, e, hg, hh, h1, h2, h3, h4⟩
          · omega
          · cases e
            have hxl : xs.length = N * 2 := HX.out.1.1
            obtain ⟨u0, z0⟩ : ∃ u, wr.cell? ⟨g, i * 2, none⟩ = some u := ⟨xs[i * 2]'(by omega), by
              have := World.ownsRow.cells HX.out.1 (g := g) rfl (i * 2) (xs[i * 2]'(by omega)) (List.getElem?_eq_getElem _)
              rw [Go.WideShapes.add_plain, Nat.zero_add] at this
              exact this⟩
            obtain ⟨u1, z1⟩ : ∃ u, wr.cell? ⟨g, i * 2 + 1, none⟩ = some u := ⟨xs[i * 2 + 1]'(by omega), by
              have := World.ownsRow.cells HX.out.1 (g := g) rfl (i * 2 + 1) (xs[i * 2 + 1]'(by omega)) (List.getElem?_eq_getElem _)
              rw [Go.WideShapes.add_plain, Nat.zero_add] at this
              exact this⟩
            have f0 : wr.frozen? ⟨g, i * 2, none⟩ = false := by simp [World.frozen?, hh]
            have f1 : wr.frozen? ⟨g, i * 2 + 1, none⟩ = false := by simp [World.frozen?, hh]
            have s1 := (World.ownsRow.stored HX.out.1 (i * 2) (.slice none 0 0)).1
            have s2 := (World.ownsRow.stored s1 (i * 2 + 1) (.float .f64 13842939354630062080)).1
            have HN : Hid (((wr.setCell ⟨g, i * 2, none⟩ (.slice none 0 0)).setCell ⟨g, i * 2 + 1, none⟩ (.float .f64 13842939354630062080)).ownsRow w3.heap.size 45 2 (.slice (some ⟨g, 0, none⟩) N ca) N ((xs.set (i * 2) (.slice none 0 0)).set (i * 2 + 1) (.float .f64 13842939354630062080)) ∧ Kp (fun b => (Value.slice (some ⟨g, 0, none⟩) N ca).ownBlock = some b) w11 ((wr.setCell ⟨g, i * 2, none⟩ (.slice none 0 0)).setCell ⟨g, i * 2 + 1, none⟩ (.float .f64 13842939354630062080))) := (show _ ∧ _ from ⟨s2, (HX.out.2.setCell (p := ⟨g, i * 2, none⟩) rfl _).setCell (p := ⟨g, i * 2 + 1, none⟩) rfl _⟩)
            clear s1 s2 HX hxl hh h1 h2 h3 h4 hg
            go_wp2
            exact ⟨⟨i + 1, _, by go_num, by omega, HN⟩, by simp [RowKit.intOf]; omega⟩
        · obtain rfl : N = i := by omega
          have hii : ¬ (N : Int) < N := by omega
          have hwr : w3.heap.size ≤ wr.heap.size := Nat.le_trans HB11.out.size HX.out.2.size
          obtain ⟨a', c', w13, r13, kp13⟩ := append_el2 w3.heap.size wr (.slice aa N ca) N xs 13842939354630062080 HX.out.1 hwr (by omega)
          have kk := HX.out.2.trans kp13
          have HB13 : Hid (Below w3.heap.size w3 w13) := HB11.out.trans (kk.below HB11.out.size fun b hb e => by have := (HLR.out.1 b e).1; omega)
          have HRB13 : Hid (w13.ownsRow w4.heap.size 45 2 (.slice ab N cb) N (fl e2 (elL rb N))) := (show World.ownsRow _ _ _ _ _ _ _ from kk.row HRA11.out.2 fun b hb e => by have := (HLR.out.1 b e).2; have := HLR.out.2 b hb; omega)
          clear kk kp13 hwr HX HRA11 HB11
          go_wp2_with (at_builtin; refine wpList_append_run rfl (.tmp 127) (.tmp 130) 40 40 rfl _ _ rfl rfl r13 ?_)
          clear r13
          go_loopw [134] (fun t W => ∃ i : Nat, t = .int .i64 (i : Int) ∧ i ≤ N ∧ Hid (Below w13.heap.size w13 W)) (fun t _ => N - (RowKit.intOf t).toNat)
          case atStart => exact ⟨0, rfl, by omega, Below.refl _ _⟩
          case round =>
            obtain ⟨i, rfl, hi, HX⟩ := hrel
            have HB3r : Hid (Below w3.heap.size w3 wr) := HB13.out.trans (HX.out.mono HB13.out.size)
            by_cases hlt : i < N
            · have hii : (i : Int) < N := by omega
              have i0 : (0 : Int) ≤ (i : Int) := by omega
              obtain ⟨g, o, rfl, _, _, y1⟩ := (elM_row (kept_row HRB13.out HX.out)).at i hlt
              obtain ⟨g', o', rfl, _, _, z1⟩ := ((HW2.out wr (HI.out wr HB3r.out).2.2.1).2).at i hlt
              rw [(core_eq (HCB.out i hlt)).2.2] at y1
              have kx := HAL.out wr HB3r.out
              generalize (qw i).x = xx at *
              by_cases hx : FloatKind.f64.format.order xx 13842939354630062080 = some .eq
              · go_wp2_with fail
                go_fit kx
                rintro e w14 ⟨rfl, b14⟩
                have HN : Hid (Below w13.heap.size w13 w14) := HX.out.trans (b14.mono HX.out.size)
                clear kx b14 HX HB3r
                go_wp2
                exact ⟨⟨i + 1, by go_num, by omega, HN⟩, by simp [RowKit.intOf]; omega⟩
              · have hxb : (FloatKind.f64.format.order xx 13842939354630062080 == some .eq) = false := by simpa using hx
                clear hx
                go_wp2_with fail
                go_fit kx
                rintro e w14 ⟨rfl, b14⟩
                have HN : Hid (Below w13.heap.size w13 w14) := HX.out.trans (b14.mono HX.out.size)
                clear kx b14 HX HB3r
                go_wp2
                exact ⟨⟨i + 1, by go_num, by omega, HN⟩, by simp [RowKit.intOf]; omega⟩
            · obtain rfl : N = i := by omega
              have hii : ¬ (N : Int) < N := by omega
              have k30 := HK3.out wr HB3r.out
              go_wp2_with fail
              go_fit k30
              rintro e w14 ⟨ac, cc, rc, rfl, b14, hVc, hcc⟩
              have HB14 : Hid (Below w3.heap.size w3 w14) := HB3r.out.trans (b14.mono HB3r.out.size)
              have HVC : Hid (Vo wr.heap.size w14 (.slice ac N cc) N rc ∧ (∀ j, j < N → core (rc j) = core (qw j)) ∧ w3.heap.size ≤ wr.heap.size) := (show _ ∧ _ ∧ _ from ⟨hVc, hcc, HB3r.out.size⟩)
              have HC0 : Hid (Chi w2.heap.size w3.heap.size w14 (.slice (some ⟨gi, 0, none⟩) n ci) n r 0 0 r w14) := (show Chi _ _ _ _ _ _ _ _ _ _ from Chi.start (HI.out w14 HB14.out).1)
              have hni : (n : Int) ≤ 1048576 := by omega
              clear k30 b14 hVc hcc HX HRB13 HB3r HB13
              generalize wr.heap.size = sC at *
              go_wp2_with fail
              go_loopw [165] (fun t W => ∃ (i : Nat) (r' : Nat → El), t = .int .i64 (i : Int) ∧ i ≤ n ∧ Hid (Chi w2.heap.size w3.heap.size w14 (.slice (some ⟨gi, 0, none⟩) n ci) n r i 0 r' W)) (fun t _ => n - (RowKit.intOf t).toNat)
              case atStart => exact ⟨0, _, rfl, by omega, HC0⟩
              case round =>
                obtain ⟨i, r', rfl, hi, HX⟩ := hrel
                by_cases hlt : i < n
                · have hii : (i : Int) < n := by omega
                  have i0 : (0 : Int) ≤ (i : Int) := by omega
                  have slc : ∀ {W : World} {j : Nat} {r' : Nat → El}, Chi w2.heap.size w3.heap.size w14 (.slice (some ⟨gi, 0, none⟩) n ci) n r i j r' W → W.cell? ⟨gi, i * 2, none⟩ = some (.slice (r i).a (r i).n (r i).c) := fun h => by
                    obtain ⟨p1, p2, p3, _⟩ := h.pts i hlt
                    obtain ⟨g, o, e, _, y0, _⟩ := (elM_row h.vo.1).at i hlt
                    cases e
                    rw [Nat.zero_add, p1, p2, p3] at y0
                    exact y0
                  have HSL : Hid (∀ (W : World) (j : Nat) (r' : Nat → El), Chi w2.heap.size w3.heap.size w14 (.slice (some ⟨gi, 0, none⟩) n ci) n r i j r' W → W.cell? ⟨gi, i * 2, none⟩ = some (.slice (r i).a (r i).n (r i).c)) := (show ∀ W j r', _ → _ from fun W j r' h => slc h)
                  have y0 := HSL.out wr 0 r' HX.out
                  clear slc
                  obtain ⟨la, hla⟩ : ∃ x, (r i).a = x := ⟨_, rfl⟩
                  obtain ⟨ln, hln⟩ : ∃ x, (r i).n = x := ⟨_, rfl⟩
                  obtain ⟨lc', hlc⟩ : ∃ x, (r i).c = x := ⟨_, rfl⟩
                  rw [hla, hln, hlc] at y0 HSL
                  have HLA : Hid ((r i).a = la ∧ (r i).n = ln ∧ (r i).c = lc') := (show _ ∧ _ ∧ _ from ⟨hla, hln, hlc⟩)
                  have HLT : Hid (i < n) := hlt
                  have hlb : ln ≤ 1048576 := by rw [← hln]; exact (HSR.out i hlt).1
                  clear hla hln hlc
                  go_wp2_with fail
                  clear y0
                  go_loopw [174] (fun t W => ∃ (j : Nat) (r' : Nat → El), t = .int .i64 (j : Int) ∧ j ≤ ln ∧ Hid (Chi w2.heap.size w3.heap.size w14 (.slice (some ⟨gi, 0, none⟩) n ci) n r i j r' W)) (fun t _ => ln - (RowKit.intOf t).toNat)
                  case atStart => exact ⟨0, _, rfl, by omega, HX⟩
                  case round =>
                    obtain ⟨j, r', rfl, hj, HX⟩ := hrel
                    have y0 := HSL.out wr j r' HX.out
                    by_cases hjl : j < ln
                    · have hjj : (j : Int) < ln := by omega
                      have j0 : (0 : Int) ≤ (j : Int) := by omega
                      have hj2 : j < (r i).n := by rw [HLA.out.2.1]; exact hjl
                      obtain ⟨g, eg, z1, fz⟩ := HX.out.cell HLT.out hj2
                      obtain ⟨r2, h2⟩ := HX.out.value HLT.out hj2 eg (HBI.out.2 i HLT.out g (by rw [eg]; rfl))
                      obtain rfl : la = some ⟨g, 0, none⟩ := by rw [← HLA.out.1]; exact eg
                      have hxs := ((HSR.out i HLT.out).2 j hj2).2
                      have HN : Hid (Chi _ _ _ _ _ _ _ _ _ _) := h2
                      clear h2 hj2 eg HX
                      generalize ((r i).f j).2 = x at *
                      have hx1 : ¬ 9223372036854775807 < x.size + 1 := by omega
                      have hx2 : x.size + 1 ≤ 9223372036854775807 := by omega
                      clear hxs
                      go_wp2
                      exact ⟨⟨j + 1, _, by go_num, by omega, HN⟩, by simp [RowKit.intOf]; omega⟩
                    · obtain rfl : ln = j := by omega
                      have hjj : ¬ (ln : Int) < ln := by omega
                      obtain ⟨r2, h2⟩ := HX.out.put HLT.out (HBI.out.1 gi rfl) 4621256167635550208
                      obtain ⟨g, o, e, _, _, y1⟩ := (elM_row HX.out.vo.1).at i HLT.out
                      cases e
                      rw [Nat.zero_add] at y1
                      have fz : wr.frozen? ⟨gi, i * 2 + 1, none⟩ = false := by
                        rcases HX.out.vo.1.2 with ⟨e, _⟩ | ⟨G, _, cur, e, _, hh, _⟩
                        · cases e
                        · cases e
                          simp [World.frozen?, hh]
                      have HN : Hid (Chi _ _ _ _ _ _ _ _ _ _) := h2
                      generalize (r' i).x = ox at *
                      clear h2 HX
                      go_wp2
                      exact ⟨⟨i + 1, _, by go_num, by omega, HN⟩, by simp [RowKit.intOf]; omega⟩
                · obtain rfl : n = i := by omega
                  have hii : ¬ (n : Int) < n := by omega
                  have hVr := HX.out.vo
                  have b23 : Below w2.heap.size w2 w14 := (HI.out w14 HB14.out).2.2.1
                  have HBr : Hid (Below w2.heap.size w2 wr) := b23.trans (HX.out.kp.below b23.size fun b hb e => by omega)
                  have hsz : ∀ j, j < n → (r' j).n ≤ 4294967296 ∧ ∀ k, k < (r' j).n → ((r' j).f k).1.size ≤ 140737488355328 ∧ ((r' j).f k).2.size ≤ 140737488355328 := fun j hj => by
                    obtain ⟨_, p2, _, p4⟩ := HX.out.pts j hj
                    obtain ⟨s1, s2⟩ := HSR.out j hj
                    refine ⟨by omega, fun k hk => ?_⟩
                    obtain ⟨q1, q2⟩ := p4 k (by omega)
                    obtain ⟨t1, t2⟩ := s2 k (by omega)
                    exact ⟨by rw [q1]; omega, by omega⟩
                  have hc2 : n ≤ ci ∧ ci ≤ 9223372036854775807 := by
                    rcases hVr.1.2 with ⟨e, _⟩ | ⟨G, _, cur, e, _, _, h1, h2, _⟩
                    · cases e
                    · cases e
                      unfold maxLen at h2
                      exact ⟨h1, h2⟩
                  have HVR : Hid (Vo w2.heap.size wr (.slice (some ⟨gi, 0, none⟩) n ci) n r' ∧ ∀ j, j < n → (r' j).n ≤ 4294967296 ∧ ∀ k, k < (r' j).n → ((r' j).f k).1.size ≤ 140737488355328 ∧ ((r' j).f k).2.size ≤ 140737488355328) := (show _ ∧ _ from ⟨hVr, hsz⟩)
                  have HVCr : Hid (Vo sC wr (.slice ac N cc) N rc) := (show Vo _ _ _ _ _ from HVC.out.1.kp HX.out.kp (fun b hb e => by have := (own_bd HVC.out.1.1 b hb).1; have := HVC.out.2.2; omega) (fun j hj b hb e => by have := (own_bd (HVC.out.1.2.1 j hj).1 b hb).1; have := HVC.out.2.2; omega))
                  have k41 := rvector_any (some ⟨gi, 0, none⟩) n ci r' wr (elM_row hVr.1) (fun h => by cases h) hc2.1 hc2.2 (by omega) (fun j hj => ⟨lm_own (hVr.2.1 j hj).1, (hsz j hj).1, (hsz j hj).2⟩)
                  clear hVr hsz hc2 b23 HX
                  go_wp2_with fail
                  go_fit k41
                  rintro e w16 hR
                  obtain ⟨E2, N2, an, cn, qn, rfl, b16, on, hN2, haln, hCV2⟩ := hR.wa
                  have HB16 : Hid (Below w2.heap.size w2 w16 ∧ Below wr.heap.size wr w16) := (show _ ∧ _ from ⟨HBr.out.trans (b16.mono HBr.out.size), b16⟩)
                  have HTB : Hid (∀ W, Below w2.heap.size w2 W → Lib.Utf8Tabs 1 2 W ∧ Below w.heap.size w W) := (show ∀ W, _ → _ from fun W b => by
                    have b' := HB2.out.trans (b.mono HB2.out.size)
                    exact ⟨HT.out W b', b'⟩)
                  have HNW : Hid (∀ W, Below w16.heap.size w16 W → RW W (.slice an N2 cn) N2 qn) := (show ∀ W, _ → _ from fun W b => by
                    have b1 : Below wr.heap.size wr W := HB16.out.2.trans (b.mono HB16.out.2.size)
                    refine ⟨⟨an, cn, rfl, elM_row (kept_row on b)⟩, fun j hj => ?_⟩
                    obtain ⟨k, hk, e⟩ := haln j hj
                    rw [← e]
                    exact ⟨lm_own ((HVR.out.1.below b1).2.1 k hk).1, (HVR.out.2 k hk).1⟩)
                  have k42 := vec_vo (HVR.out.1.below b16) HVR.out.2 (HTB.out w16 HB16.out.1).1 (by omega) hCV2
                  have hN2' : N2 ≤ 1048576 := by omega
                  clear k41 hR b16 on haln hCV2
                  go_wp2_with fail
                  go_fit k42
                  rintro e w17 ⟨ad, cd, rd, rfl, b17, hVd, hcd⟩
                  have HB17 : Hid (Below w16.heap.size w16 w17) := b17
                  have HVD : Hid (Vo w16.heap.size w17 (.slice ad N2 cd) N2 rd ∧ ∀ j, j < N2 → core (rd j) = core (qn j)) := (show _ ∧ _ from ⟨hVd, hcd⟩)
                  have b1r : Below wr.heap.size wr w17 := HB16.out.2.trans (b17.mono HB16.out.2.size)
                  have k43 := alike_rw ((HVCr.out.below b1r).rw fun j hj => by
                    have e1 := (core_eq (HVC.out.2.1 j hj)).1
                    have := HSQ.out j hj
                    omega) (HW2.out w17 (HB16.out.1.trans (b17.mono HB16.out.1.size))).1 HVC.out.2.1 (by omega)
                  clear k42 b17 hVd hcd b1r
                  go_wp2_with fail
                  go_fit k43
                  rintro e w18 ⟨rfl, b18⟩
                  have HB18 : Hid (Below w16.heap.size w16 w18) := HB17.out.trans (b18.mono HB17.out.size)
                  have k44 := alike_rw ((HVD.out.1.below b18).rw fun j hj => by
                    have e1 := (core_eq (HVD.out.2 j hj)).1
                    have := ((HNW.out w18 HB18.out).lm j hj).2
                    omega) (HNW.out w18 HB18.out) HVD.out.2 (by omega)
                  clear k43 b18
                  go_wp2_with fail
                  go_fit k44
                  rintro e w19 ⟨rfl, b19⟩
                  have HBE : Hid (Below w.heap.size w w19) := (show Below _ _ _ from (HTB.out w19 (HB16.out.1.trans ((HB18.out.trans (b19.mono HB18.out.size)).mono HB16.out.1.size))).2)
                  have hge : (2 : Int) ≤ ((N + 2 : Nat) : Int) := by omega
                  have hge2 : (2 : Int) ≤ (N : Int) + 2 := by omega
                  clear k44 b19
                  go_wp2
                  go_ret
                  exact ⟨rfl, HBE.out⟩
end Go.Proofs.YtjmninjaoemhjaaDoor
