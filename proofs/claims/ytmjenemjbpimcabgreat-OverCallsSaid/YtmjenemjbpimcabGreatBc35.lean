/- A bundle of texts. -/
import Derived.Test.YtmjenemjbpimcabGreatBc34
import Derived.Deep.RegionHeld3
import Derived.Test.YtmjenemjbpimcabGreatBc22
import Derived.ProofKit
import Derived.OpenShut
import Derived.ChangeSlices
import Derived.ChangeSame
import Derived.ChangeOld
import Derived.Carry
import Derived.Deep.Slices
import Derived.SizedLaws
/- OverCalls: the walk. -/
namespace Go.Proofs.YtmjenemjbpimcabGreat
open Go.RowKit

theorem rx_both {w w' W W' : World} {p : Prop} {c : Option Nat} {r r' : Ending} (h : RX w p c r W) (h' : RX w' p c r' W') : ∃ z z' b, r = .returned (.tuple #[.float .f64 z, .bool b]) ∧ r' = .returned (.tuple #[.float .f64 z', .bool b]) ∧ smB (cl z') (cl z) = true ∧ Below w.heap.size w W ∧ Below w'.heap.size w' W' := by
  obtain ⟨z, b, e, h1, h2, _, h4, h5⟩ := h
  obtain ⟨z', b', e', h1', h2', _, h4', h5'⟩ := h'
  have hb : b' = b := by
    have h3 : b = true ↔ b' = true := h1.trans h1'.symm
    cases b <;> cases b' <;> simp_all
  subst hb
  refine ⟨z, z', b', e, e', ?_, h2, h2'⟩
  have h3 : cl z' = cl z := by
    cases b'
    · rw [h5 rfl, h5' rfl]
    · rw [h4 rfl, h4' rfl]
  unfold smB
  simp [h3]

theorem fr_none {W : World} {S q c : Nat} {aq : Option Addr} {ys : List Nat} (h : Fr W S (.slice aq q c) ys) (hq : q ≠ 0) (hyl : ys.length = q) : ∃ g, aq = some ⟨g, 0, none⟩ := by
  obtain ⟨g, c2, e, _⟩ := h.some (by omega)
  exact ⟨g, (Value.slice.inj e).1⟩
theorem fr_fm {W : World} {S n c : Nat} {a : Option Addr} {ys : List Nat} (h : Fr W S (.slice a n c) ys) : Fm W a ys := by
  obtain ⟨a2, c2, e, hm⟩ := h.fm
  obtain ⟨rfl, _, _⟩ := Value.slice.inj e
  exact hm
theorem fr_cap {W : World} {S q c : Nat} {aq : Option Addr} {ys : List Nat} (h : Fr W S (.slice aq q c) ys) : q ≤ c := by
  obtain ⟨a2, c2, e, _, h1, _⟩ := h.cap
  obtain ⟨_, h2, h3⟩ := Value.slice.inj e
  omega
set_option maxHeartbeats 16000000 in
set_option maxRecDepth 100000 in
theorem calls_walk (nm : ByteArray) (a : Option Addr) (n c : Nat) (F T N : Int) (aa : Option Addr) (na ca : Nat) (args : List Nat) (ss : Nat → Smp) (w : World) (h : HypW a n ss w) (hc : n ≤ c) (hA : Fm w aa args) (hna : args.length = na) (hn9 : na ≤ 9223372036854775807) :
    Calls Tryz.prog 4 #[.string nm, Wn a n c F T N, .slice aa na ca] w fun r w' => r = .returned (.bool true) ∧ Below w.heap.size w w' := by
  have HB0 : Hid (Below w.heap.size w (w.alloc (wnX a n c F T N))) := (Below.refl _ w).alloc (Nat.le_refl _) _
  have HC : Hid (∀ W, Below (w.alloc (wnX a n c F T N)).heap.size (w.alloc (wnX a n c F T N)) W → WnC a n c F T N w.heap.size W) := wnC_new a n c F T N w
  have HH : Hid (∀ W, Below w.heap.size w W → HypW a n ss W) := (show ∀ W, _ → _ from fun W b => h.below b)
  have HF : Hid (∀ W, Below w.heap.size w W → Fm W aa args) := (show ∀ W, _ → _ from fun W b => hA.below b)
  have HCN : Hid (n ≤ c) := hc
  have HNA : Hid (args.length = na ∧ na ≤ 9223372036854775807) := ⟨hna, hn9⟩
  obtain ⟨p, C, hcb⟩ := call_both nm a n c F T N ss args w h hc (by omega)
  rw [hna] at hcb
  have HCA : Hid (∀ W, Below w.heap.size w W → Calls Tryz.prog 12 #[.string nm, Wn a n c F T N, .slice aa na ca] W (RX W p C)) := (show ∀ W, _ → _ from fun W b => (hcb W aa ca b (HF.out W b)).1)
  have HCB : Hid (∀ W, Below w.heap.size w W → Calls Tryz.prog 9 #[.string nm, Wn a n c F T N, .slice aa na ca] W (RX W p C)) := (show ∀ W, _ → _ from fun W b => (hcb W aa ca b (HF.out W b)).2)
  clear h hc hA hna hcb
  go_enter Tryz.func4, Tryz.ntmps4
  go_wp2_with fail
  go_fit (alive_any _)
  rintro e w1 ⟨rfl, b1⟩
  have B1 : Hid (Below (w.alloc (wnX a n c F T N)).heap.size (w.alloc (wnX a n c F T N)) w1) := b1
  have B1w : Hid (Below w.heap.size w w1) := HB0.out.trans (b1.mono HB0.out.size)
  obtain ⟨x0, x1, x2, x3⟩ := HC.out w1 B1.out
  have k1 := HCA.out w1 B1w.out
  clear b1
  go_wp2_with fail
  go_fit k1
  rintro e w2 h2
  have B2 : Hid (Below (w.alloc (wnX a n c F T N)).heap.size (w.alloc (wnX a n c F T N)) w2) := B1.out.trans ((show Below w1.heap.size w1 w2 by obtain ⟨_, _, _, _, b, _⟩ := h2; exact b).mono B1.out.size)
  have B2w : Hid (Below w.heap.size w w2) := HB0.out.trans (B2.out.mono HB0.out.size)
  have H2 : Hid (RX w1 p C e w2) := h2
  obtain ⟨z1, b1, rfl, _⟩ := h2
  obtain ⟨x0, x1, x2, x3⟩ := HC.out w2 B2.out
  have k2 := HCB.out w2 B2w.out
  clear k1
  go_wp2_with fail
  go_fit k2
  rintro e w3 h3
  have B3 : Hid (Below (w.alloc (wnX a n c F T N)).heap.size (w.alloc (wnX a n c F T N)) w3) := B2.out.trans ((show Below w2.heap.size w2 w3 by obtain ⟨_, _, _, _, b, _⟩ := h3; exact b).mono B2.out.size)
  obtain ⟨za, zb, bb, e1, e2, hs, _⟩ := rx_both H2.out h3
  cases e1
  cases e2
  have k11 : ∀ W, Calls Tryz.prog 11 #[.float .f64 zb, .float .f64 z1] W fun r w' => r = .returned (.bool true) ∧ w' = W := fun W => (same_any zb z1 W).mono (fun r w' hx => by rw [hs] at hx; exact hx)
  have hxx : (b1 != b1) = false := by cases b1 <;> rfl
  clear k2 hs h3 H2 x0 x1 x2 x3 HCA HCB
  go_wp2_with fail
  go_fit (k11 _)
  rintro e w4 ⟨rfl, rfl⟩
  go_wp2_with fail
  go_fit (known_any nm _)
  rintro e w5 ⟨kb, rfl, hkb, b5⟩
  have B5 : Hid (Below (w.alloc (wnX a n c F T N)).heap.size (w.alloc (wnX a n c F T N)) w5) := B3.out.trans (b5.mono B3.out.size)
  go_wp2_with fail
  go_fit (rknown_any nm _)
  rintro e w6 ⟨rb, rfl, hrb, rfl⟩
  have hkr : rb = kb := by
    have h3 : rb = true ↔ kb = true := hrb.trans hkb.symm
    cases rb <;> cases kb <;> simp_all
  subst hkr
  have hyy : (rb != rb) = false := by cases rb <;> rfl
  clear b5 hkb hrb k11
  go_wp2_with fail
  go_fit (names_any _)
  rintro e w7 ⟨b7, gn, rfl, hgn, _, hcn⟩
  have B7 : Hid (Below (w.alloc (wnX a n c F T N)).heap.size (w.alloc (wnX a n c F T N)) w7) := B5.out.trans (b7.mono B5.out.size)
  have HNM : Hid (∀ W, Below w7.heap.size w7 W → ∀ j, j < 23 → W.cell? ⟨gn, j, none⟩ = some (.string (fnAt (piF j)).1)) := (show ∀ W, _ → _ from fun W b j hj => bcell b (hcn j hj) hgn)
  clear b7 hgn hcn
  go_wp2_with fail
  go_loopw [12] (fun iv W => ∃ i : Nat, iv = .int .i64 (i : Nat) ∧ i ≤ 23 ∧ Hid (Below w7.heap.size w7 W)) (fun iv _ => 23 - (RowKit.intOf iv).toNat)
  case atStart => exact ⟨0, rfl, by omega, Below.refl _ _⟩
  case round =>
    obtain ⟨i, rfl, hi, hb0⟩ := hrel
    have BR : Hid (Below (w.alloc (wnX a n c F T N)).heap.size (w.alloc (wnX a n c F T N)) wr) := B7.out.trans (hb0.out.mono B7.out.size)
    have BWo : Hid (Below w.heap.size w wr) := HB0.out.trans (BR.out.mono HB0.out.size)
    by_cases hlt : i < 23
    · have hii : (i : Int) < 23 := by omega
      have i0 : (0 : Int) ≤ (i : Int) := by omega
      have HI : Hid (i + 1 ≤ 23) := hlt
      have HK : Hid (piF i < 23) := pi_lt i hlt
      have HNI : Hid (∀ W, Below wr.heap.size wr W → W.cell? ⟨gn, i, none⟩ = some (.string (fnAt (piF i)).1)) := (show ∀ W, _ → _ from fun W b => HNM.out W (hb0.out.trans (b.mono hb0.out.size)) i hlt)
      have HCo : Hid (∀ W, Below wr.heap.size wr W → WnC a n c F T N w.heap.size W) := (show ∀ W, _ → _ from fun W b => HC.out W (BR.out.trans (b.mono BR.out.size)))
      have HB7 : Hid (∀ W, Below wr.heap.size wr W → Below w7.heap.size w7 W) := (show ∀ W, _ → _ from fun W b => hb0.out.trans (b.mono hb0.out.size))
      obtain ⟨k, hk⟩ : ∃ k, k = piF i := ⟨_, rfl⟩
      rw [← hk] at HK HNI
      clear hk
      have HQ9 : Hid ((fnAt k).2.1 ≤ 9223372036854775807) := (show _ ≤ _ by have := (show ∀ k, k < 23 → (fnAt k).2.1 ≤ 2 by decide +kernel) k HK.out; omega)
      have hq2 : ((fnAt k).2.1 : Int) ≤ 2 := by have := (show ∀ k, k < 23 → (fnAt k).2.1 ≤ 2 by decide +kernel) k HK.out; omega
      have kn := numbers_own k HK.out (fnAt k).1 rfl 4602678819172646912 4602678819172646912 wr
      have hnl := nums_len k 4602678819172646912 4602678819172646912 HK.out
      have nI := HNI.out wr (Below.refl _ _)
      generalize nums k 4602678819172646912 4602678819172646912 = ys0 at *
      generalize (fnAt k).2.1 = q at *
      generalize (fnAt k).1 = nk at *
      go_wp2_with fail
      go_fit kn
      rintro e w8 ⟨b8, aq, cq, rfl, o8⟩
      obtain ⟨S, hS⟩ : ∃ S, S = wr.heap.size := ⟨_, rfl⟩
      have HSle : Hid (wr.heap.size ≤ S) := Nat.le_of_eq hS.symm
      rw [← hS] at o8
      have hqc : q ≤ cq := fr_cap o8
      have O8 : Hid (Fr w8 S (.slice aq q cq) ys0) := o8
      have B8 : Hid (Below wr.heap.size wr w8) := b8
      have Y8 : Hid (ys0.length = q) := hnl
      have hsf := @run_store_float Tryz.prog
      clear hS o8 b8 hnl kn nI
      go_wp2_with fail
      go_loopw [14] (fun jv W => ∃ (j : Nat) (ys : List Nat), jv = .int .i64 (j : Nat) ∧ j ≤ q ∧ Hid (ys.length = q) ∧ Hid (Fr W S (.slice aq q cq) ys) ∧ Hid (Below wr.heap.size wr W)) (fun jv _ => q - (RowKit.intOf jv).toNat)
      case atStart => exact ⟨0, ys0, rfl, by omega, Y8, O8, B8⟩
      case round =>
        obtain ⟨j, ys, rfl, hj, hyl, o, hb⟩ := hrel
        by_cases hjq : j < q
        · have jq : (j : Int) < (q : Int) := by omega
          by_cases hjn : j < na
          · have jn : (j : Int) < (na : Int) := by omega
            have j0 : (0 : Int) ≤ (j : Int) := by omega
            have BW : Hid (Below w.heap.size w wr) := BWo.out.trans (hb.out.mono BWo.out.size)
            obtain ⟨ga, oa, rfl, hx⟩ := fm_at (HF.out wr BW.out) j (by rw [HNA.out.1]; exact hjn) (Below.refl _ _)
            obtain ⟨gq, rfl⟩ := fr_none o.out (by omega) hyl.out
            have o2 := o.out
            rw [← hyl.out] at o2
            have hfz := o2.froz j
            have o3 := o2.set j (args.getD j 0)
            have hge := o2.ge
            rw [hyl.out] at o3
            have O3 : Hid (Fr (wr.setCell ⟨gq, j, none⟩ (.float .f64 (args.getD j 0))) S (.slice (some ⟨gq, 0, none⟩) q cq) (ys.set j (args.getD j 0))) := o3
            have Y3 : Hid ((ys.set j (args.getD j 0)).length = q) := (show _ = _ by rw [List.length_set, hyl.out])
            have B3 : Hid (Below _ _ (wr.setCell ⟨gq, j, none⟩ (.float .f64 (args.getD j 0)))) := (show Below _ _ _ from hb.out.setCell (p := ⟨gq, j, none⟩) (Nat.le_trans HSle.out hge) _)
            have HJ : Hid (j + 1 ≤ q) := hjq
            have hcl := o2.cell j (by rw [hyl.out]; exact hjq)
            generalize args.getD j 0 = x at *
            generalize ys.getD j 0 = y at *
            clear o2 o3 o hyl hge
            go_wp2_with fail
            exact ⟨⟨j + 1, _, by go_num, HJ.out, Y3, O3, B3⟩, by simp [RowKit.intOf]; omega⟩
          · have jn : ¬ (j : Int) < (na : Int) := by omega
            have HFY : Hid (∀ W, Below wr.heap.size wr W → Fm W aq ys) := (show ∀ W, _ → _ from fun W b => fr_fm (o.out.below b))
            have BW : Hid (Below w.heap.size w wr) := BWo.out.trans (hb.out.mono BWo.out.size)
            obtain ⟨p2, C2, hcb⟩ := call_both nk a n c F T N ss ys w (HH.out w (Below.refl _ _)) HCN.out (by rw [hyl.out]; exact HQ9.out)
            rw [hyl.out] at hcb
            have HCA : Hid (∀ W, Below wr.heap.size wr W → Calls Tryz.prog 12 #[.string nk, Wn a n c F T N, .slice aq q cq] W (RX W p2 C2)) := (show ∀ W, _ → _ from fun W b => (hcb W aq cq (BW.out.trans (b.mono BW.out.size)) (HFY.out W b)).1)
            have HCB : Hid (∀ W, Below wr.heap.size wr W → Calls Tryz.prog 9 #[.string nk, Wn a n c F T N, .slice aq q cq] W (RX W p2 C2)) := (show ∀ W, _ → _ from fun W b => (hcb W aq cq (BW.out.trans (b.mono BW.out.size)) (HFY.out W b)).2)
            have HSX : Hid (∀ W, Below wr.heap.size wr W → (WnC a n c F T N w.heap.size W ∧ W.cell? ⟨gn, i, none⟩ = some (.string nk)) ∧ Below wr.heap.size wr W) := (show ∀ W, _ → _ from fun W b => ⟨⟨HCo.out W (hb.out.trans (b.mono hb.out.size)), HNI.out W (hb.out.trans (b.mono hb.out.size))⟩, b⟩)
            have HEND : Hid (∀ W, Below wr.heap.size wr W → Below w7.heap.size w7 W) := (show ∀ W, _ → _ from fun W b => HB7.out W (hb.out.trans (b.mono hb.out.size)))
            obtain ⟨⟨⟨x0, x1, x2, x3⟩, nI⟩, _⟩ := HSX.out wr (Below.refl _ _)
            have bd : Below wr.heap.size wr wr.drew := (Below.refl _ _).drew
            unfold WnC at HSX
            clear hcb o hyl
            go_wp2_with fail
            go_region_held3 (fun w2 => ((w2.cell? ⟨w.heap.size, 0, none⟩ = some (.slice a n c) ∧ w2.cell? ⟨w.heap.size, 1, none⟩ = some (.int .i64 F) ∧ w2.cell? ⟨w.heap.size, 2, none⟩ = some (.int .i64 T) ∧ w2.cell? ⟨w.heap.size, 3, none⟩ = some (.int .i64 N)) ∧ w2.cell? ⟨gn, i, none⟩ = some (.string nk)) ∧ Below wr.heap.size wr w2) (first | exact HSX.out _ (by assumption) | exact HSX.out _ (Below.drew (by assumption))) (first | (go_at_call 12; go_fit (HCA.out _ (by first | exact bd | exact Below.refl _ _)); rintro e w12 h12; have H12 : Hid (∃ W0, RX W0 p2 C2 e w12) := ⟨_, h12⟩; obtain ⟨z1, b1, rfl, _, b12, _⟩ := h12; have bc : Below wr.heap.size wr w12 := by first | exact bd.trans (b12.mono bd.size) | exact b12))
            rename_i hh
            have HSY : Hid (∀ W, Below w12.heap.size w12 W → (WnC a n c F T N w.heap.size W ∧ W.cell? ⟨gn, i, none⟩ = some (.string nk)) ∧ Below w12.heap.size w12 W) := (show ∀ W, _ → _ from fun W b => ⟨(HSX.out W (bc.trans (b.mono bc.size))).1, b⟩)
            have HCB2 : Hid (∀ W, Below w12.heap.size w12 W → Calls Tryz.prog 9 #[.string nk, Wn a n c F T N, .slice aq q cq] W (RX W p2 C2)) := (show ∀ W, _ → _ from fun W b => HCB.out W (bc.trans (b.mono bc.size)))
            have HEND2 : Hid (∀ W, Below w12.heap.size w12 W → Below w7.heap.size w7 W) := (show ∀ W, _ → _ from fun W b => HEND.out W (bc.trans (b.mono bc.size)))
            clear hh b12 bc bd x0 x1 x2 x3 nI HSX HCA HCB HEND
            obtain ⟨⟨⟨x0, x1, x2, x3⟩, nI⟩, _⟩ := HSY.out w12 (Below.refl _ _)
            have bd : Below w12.heap.size w12 w12.drew := (Below.refl _ _).drew
            unfold WnC at HSY
            go_wp2_with fail
            go_region_held3 (fun w2 => ((w2.cell? ⟨w.heap.size, 0, none⟩ = some (.slice a n c) ∧ w2.cell? ⟨w.heap.size, 1, none⟩ = some (.int .i64 F) ∧ w2.cell? ⟨w.heap.size, 2, none⟩ = some (.int .i64 T) ∧ w2.cell? ⟨w.heap.size, 3, none⟩ = some (.int .i64 N)) ∧ w2.cell? ⟨gn, i, none⟩ = some (.string nk)) ∧ Below w12.heap.size w12 w2) (first | exact HSY.out _ (by assumption) | exact HSY.out _ (Below.drew (by assumption))) (first | (go_at_call 9; go_fit (HCB2.out _ (by first | exact bd | exact Below.refl _ _)); rintro e w14 h14; have H14 : Hid (∃ W0, RX W0 p2 C2 e w14) := ⟨_, h14⟩; obtain ⟨z2, b2, rfl, _, b14, _⟩ := h14; have bc : Below w12.heap.size w12 w14 := by first | exact bd.trans (b14.mono bd.size) | exact b14))
            rename_i hh
            have BE : Hid (Below w7.heap.size w7 w14) := HEND2.out w14 bc
            obtain ⟨W1, h1⟩ := H12.out
            obtain ⟨W2, h2⟩ := H14.out
            obtain ⟨za, zb, bb, e1, e2, hs, _⟩ := rx_both h1 h2
            cases e1
            cases e2
            have k11 : ∀ W, Calls Tryz.prog 11 #[.float .f64 z2, .float .f64 z1] W fun r w' => r = .returned (.bool true) ∧ w' = W := fun W => (same_any z2 z1 W).mono (fun r w' hx => by rw [hs] at hx; exact hx)
            have hxx : (b1 != b1) = false := by cases b1 <;> rfl
            clear h1 h2 hs H12 H14 hh b14 bc bd x0 x1 x2 x3 nI HSY HCB2 HEND2
            go_wp2_with fail
            go_fit (k11 _)
            rintro e w15 ⟨rfl, rfl⟩
            go_wp2
            exact ⟨⟨i + 1, by go_num, HI.out, BE⟩, by simp [RowKit.intOf]; omega⟩
        · have jq : ¬ (j : Int) < (q : Int) := by omega
          have HFY : Hid (∀ W, Below wr.heap.size wr W → Fm W aq ys) := (show ∀ W, _ → _ from fun W b => fr_fm (o.out.below b))
          have BW : Hid (Below w.heap.size w wr) := BWo.out.trans (hb.out.mono BWo.out.size)
          obtain ⟨p2, C2, hcb⟩ := call_both nk a n c F T N ss ys w (HH.out w (Below.refl _ _)) HCN.out (by rw [hyl.out]; exact HQ9.out)
          rw [hyl.out] at hcb
          have HCA : Hid (∀ W, Below wr.heap.size wr W → Calls Tryz.prog 12 #[.string nk, Wn a n c F T N, .slice aq q cq] W (RX W p2 C2)) := (show ∀ W, _ → _ from fun W b => (hcb W aq cq (BW.out.trans (b.mono BW.out.size)) (HFY.out W b)).1)
          have HCB : Hid (∀ W, Below wr.heap.size wr W → Calls Tryz.prog 9 #[.string nk, Wn a n c F T N, .slice aq q cq] W (RX W p2 C2)) := (show ∀ W, _ → _ from fun W b => (hcb W aq cq (BW.out.trans (b.mono BW.out.size)) (HFY.out W b)).2)
          have HSX : Hid (∀ W, Below wr.heap.size wr W → (WnC a n c F T N w.heap.size W ∧ W.cell? ⟨gn, i, none⟩ = some (.string nk)) ∧ Below wr.heap.size wr W) := (show ∀ W, _ → _ from fun W b => ⟨⟨HCo.out W (hb.out.trans (b.mono hb.out.size)), HNI.out W (hb.out.trans (b.mono hb.out.size))⟩, b⟩)
          have HEND : Hid (∀ W, Below wr.heap.size wr W → Below w7.heap.size w7 W) := (show ∀ W, _ → _ from fun W b => HB7.out W (hb.out.trans (b.mono hb.out.size)))
          obtain ⟨⟨⟨x0, x1, x2, x3⟩, nI⟩, _⟩ := HSX.out wr (Below.refl _ _)
          have bd : Below wr.heap.size wr wr.drew := (Below.refl _ _).drew
          unfold WnC at HSX
          clear hcb o hyl
          go_wp2_with fail
          go_region_held3 (fun w2 => ((w2.cell? ⟨w.heap.size, 0, none⟩ = some (.slice a n c) ∧ w2.cell? ⟨w.heap.size, 1, none⟩ = some (.int .i64 F) ∧ w2.cell? ⟨w.heap.size, 2, none⟩ = some (.int .i64 T) ∧ w2.cell? ⟨w.heap.size, 3, none⟩ = some (.int .i64 N)) ∧ w2.cell? ⟨gn, i, none⟩ = some (.string nk)) ∧ Below wr.heap.size wr w2) (first | exact HSX.out _ (by assumption) | exact HSX.out _ (Below.drew (by assumption))) (first | (go_at_call 12; go_fit (HCA.out _ (by first | exact bd | exact Below.refl _ _)); rintro e w12 h12; have H12 : Hid (∃ W0, RX W0 p2 C2 e w12) := ⟨_, h12⟩; obtain ⟨z1, b1, rfl, _, b12, _⟩ := h12; have bc : Below wr.heap.size wr w12 := by first | exact bd.trans (b12.mono bd.size) | exact b12))
          rename_i hh
          have HSY : Hid (∀ W, Below w12.heap.size w12 W → (WnC a n c F T N w.heap.size W ∧ W.cell? ⟨gn, i, none⟩ = some (.string nk)) ∧ Below w12.heap.size w12 W) := (show ∀ W, _ → _ from fun W b => ⟨(HSX.out W (bc.trans (b.mono bc.size))).1, b⟩)
          have HCB2 : Hid (∀ W, Below w12.heap.size w12 W → Calls Tryz.prog 9 #[.string nk, Wn a n c F T N, .slice aq q cq] W (RX W p2 C2)) := (show ∀ W, _ → _ from fun W b => HCB.out W (bc.trans (b.mono bc.size)))
          have HEND2 : Hid (∀ W, Below w12.heap.size w12 W → Below w7.heap.size w7 W) := (show ∀ W, _ → _ from fun W b => HEND.out W (bc.trans (b.mono bc.size)))
          clear hh b12 bc bd x0 x1 x2 x3 nI HSX HCA HCB HEND
          obtain ⟨⟨⟨x0, x1, x2, x3⟩, nI⟩, _⟩ := HSY.out w12 (Below.refl _ _)
          have bd : Below w12.heap.size w12 w12.drew := (Below.refl _ _).drew
          unfold WnC at HSY
          go_wp2_with fail
          go_region_held3 (fun w2 => ((w2.cell? ⟨w.heap.size, 0, none⟩ = some (.slice a n c) ∧ w2.cell? ⟨w.heap.size, 1, none⟩ = some (.int .i64 F) ∧ w2.cell? ⟨w.heap.size, 2, none⟩ = some (.int .i64 T) ∧ w2.cell? ⟨w.heap.size, 3, none⟩ = some (.int .i64 N)) ∧ w2.cell? ⟨gn, i, none⟩ = some (.string nk)) ∧ Below w12.heap.size w12 w2) (first | exact HSY.out _ (by assumption) | exact HSY.out _ (Below.drew (by assumption))) (first | (go_at_call 9; go_fit (HCB2.out _ (by first | exact bd | exact Below.refl _ _)); rintro e w14 h14; have H14 : Hid (∃ W0, RX W0 p2 C2 e w14) := ⟨_, h14⟩; obtain ⟨z2, b2, rfl, _, b14, _⟩ := h14; have bc : Below w12.heap.size w12 w14 := by first | exact bd.trans (b14.mono bd.size) | exact b14))
          rename_i hh
          have BE : Hid (Below w7.heap.size w7 w14) := HEND2.out w14 bc
          obtain ⟨W1, h1⟩ := H12.out
          obtain ⟨W2, h2⟩ := H14.out
          obtain ⟨za, zb, bb, e1, e2, hs, _⟩ := rx_both h1 h2
          cases e1
          cases e2
          have k11 : ∀ W, Calls Tryz.prog 11 #[.float .f64 z2, .float .f64 z1] W fun r w' => r = .returned (.bool true) ∧ w' = W := fun W => (same_any z2 z1 W).mono (fun r w' hx => by rw [hs] at hx; exact hx)
          have hxx : (b1 != b1) = false := by cases b1 <;> rfl
          clear h1 h2 hs H12 H14 hh b14 bc bd x0 x1 x2 x3 nI HSY HCB2 HEND2
          go_wp2_with fail
          go_fit (k11 _)
          rintro e w15 ⟨rfl, rfl⟩
          go_wp2
          exact ⟨⟨i + 1, by go_num, HI.out, BE⟩, by simp [RowKit.intOf]; omega⟩
    · have hii : ¬ (i : Int) < 23 := by omega
      go_wp2
      go_ret
      exact ⟨rfl, BWo.out⟩
end Go.Proofs.YtmjenemjbpimcabGreat
/- Windows that came in. -/
namespace Go.Proofs.YtmjenemjbpimcabGreat
open Go.ChangeShapes Go.WideShapes Go.ChangeAt Go.RowKit

theorem own : ownKnob Tryz.prog.godebug = none := by kernel_rfl
theorem laidOut : laidOutB Tryz.prog = true := by kernel_rfl

theorem trod_float0 {H : Type} {enc : TypeId × Value → H} {W : World} {t : TypeId} {cs : List Value} {x : DataW H × List MemPlace} {fuel : Nat} (ht : Tryz.prog.underlying t = some (.float .f64))
    (h : DataW.trod enc Tryz.prog W 0 (fun _ => true) true fuel t cs = some x) : ∃ z, cs = [.float .f64 z] ∧ x = (.lit (.float .f64 z), []) ∧ (Lit.float .f64 z).wf = true := by
  cases fuel with
  | zero => simp [DataW.trod] at h
  | succ n =>
    unfold DataW.trod at h
    rw [ht] at h
    split at h <;> simp_all
theorem trod_float {H : Type} {enc : TypeId × Value → H} {W : World} {t : TypeId} {v : Value} {x : DataW H × List MemPlace} {fuel : Nat} (ht : Tryz.prog.underlying t = some (.float .f64))
    (h : DataW.trod enc Tryz.prog W 0 (fun _ => true) true fuel t [v] = some x) : ∃ z, v = .float .f64 z ∧ z < 18446744073709551616 ∧ x = (.lit (.float .f64 z), []) := by
  obtain ⟨z, h1, h2, h3⟩ := trod_float0 ht h
  exact ⟨z, by simpa using h1, by simpa [Lit.wf] using h3, h2⟩

set_option maxRecDepth 100000 in
/-- Samples that came in. -/
theorem samples_open {H : Type} {enc : TypeId × Value → H} {W : World} {v : Value} {d : DataW H} {p : List MemPlace} {fuel : Nat}
    (hf : DataW.trod enc Tryz.prog W 0 (fun _ => true) true fuel 22 [v] = some (d, p)) (hz : ∀ n ∈ d.weights Tryz.prog 22, n ≤ reachBytes) :
    ∃ (a : Option Addr) (len cap : Nat) (ss : Nat → Smp), v = .slice a len cap ∧ HypW a len ss W ∧ len ≤ cap := by
  rcases Go.Deep.open_slice Tryz.underlying22 hf with ⟨hcs, _⟩ | ⟨x, l, c, m, n, D, Pl, hcs, _, hl, hm, hmm, hd, hall⟩
  · simp at hcs
    subst hcs
    exact ⟨none, 0, 0, fun _ => ⟨0, 0, false⟩, rfl, ⟨.inl rfl, fun j hj => absurd hj (by omega), by omega⟩, Nat.le_refl _⟩
  · simp at hcs
    subst hcs
    have hm' : m = c := by simpa using hmm
    subst hm'
    obtain ⟨rfl, _⟩ := Prod.mk.inj hd
    have hC : Tryz.prog.cellsOf 43 = 3 := by kernel_rfl
    have each : ∀ i, i < m → ∃ u : Smp, W.cell? (x.add (i * 3)) = some (.int .i64 u.t) ∧ W.cell? (x.add (i * 3 + 1)) = some (.float .f64 u.v) ∧ W.cell? (x.add (i * 3 + 2)) = some (.bool u.s) ∧
        -9223372036854775808 ≤ u.t ∧ u.t ≤ 9223372036854775807 ∧ u.v < 18446744073709551616 := by
      intro i hi
      obtain ⟨cs', h1, h2⟩ := hall i hi
      rw [hC] at h1
      obtain ⟨_, hlen, hcell⟩ := World.cells?_some h1
      obtain ⟨xs, k, hk, hxy, _, hxl, hff⟩ := DataW.trod_struct Tryz.underlying43 h2
      match xs, hxl, cs', hlen with
      | [y0, y1, y2], _, [v0, v1, v2], _ =>
        have g0 := hff 0 _ rfl
        have g1 := hff 1 _ rfl
        have g2 := hff 2 _ rfl
        have c2 : Tryz.prog.cellsOf 2 = 1 := by kernel_rfl
        have c25 : Tryz.prog.cellsOf 25 = 1 := by kernel_rfl
        have c4 : Tryz.prog.cellsOf 4 = 1 := by kernel_rfl
        simp [c2, c25, c4] at g0 g1 g2
        obtain ⟨t, e0, _, wf⟩ := DataW.trod_int Tryz.underlying2 g0
        obtain ⟨v, e1, hv, _⟩ := trod_float Tryz.underlying25 g1
        obtain ⟨s, e2, _⟩ := DataW.trod_bool Tryz.underlying4 g2
        have q0 := hcell 0 (by omega)
        have q1 := hcell 1 (by omega)
        have q2 := hcell 2 (by omega)
        rw [Go.Deep.add_add] at q0 q1 q2
        have w0 : v0 = .int .i64 t := by simpa using e0
        have w2 : v2 = .bool s := by simpa using e2
        rw [w0, e1, w2] at q0 q1 q2
        simp [Lit.wf, IntKind.min, IntKind.max, IntKind.signed, IntKind.bits] at wf
        exact ⟨⟨t, v, s⟩, by simpa using q0, by simpa using q1, by simpa using q2, by show _ ≤ t; omega, by show t ≤ _; omega, hv⟩
    have hI : Inhabited Smp := ⟨⟨0, 0, false⟩⟩
    obtain ⟨ss, hss⟩ := Go.Deep.choose_lt each
    refine ⟨_, _, _, ss, rfl, ⟨?_, fun j hj => (hss j (by omega)).2.2.2, ?_⟩, hl⟩
    · by_cases h0 : l = 0
      · exact .inl h0
      · right
        obtain ⟨g, o, sp⟩ := x
        have hsp : sp = none := by
          have := (hss 0 (by omega)).1
          simpa [Addr.add] using World.cell?_spot this
        subst hsp
        have h00 := (hss 0 (by omega)).1
        rw [Go.WideShapes.add_plain] at h00
        refine ⟨g, o, rfl, block_lt_of_cell h00, fun j hj => ?_⟩
        obtain ⟨q0, q1, q2, _⟩ := hss j (by omega)
        rw [Go.WideShapes.add_plain] at q0 q1 q2
        exact ⟨q0, by rw [Nat.add_assoc]; exact q1, by rw [Nat.add_assoc]; exact q2⟩
    · have hb : Tryz.prog.bytesOf 43 = 24 := by kernel_rfl
      have hr : reachBytes = 140737488351232 := by decide
      have := hz ((((List.range l).map D).length + ((List.range (m - l)).map fun j => D (l + j)).length) * 24) (by
        simp only [DataW.weights, Tryz.underlying22, hb]
        exact List.mem_cons.2 (.inl rfl))
      simp at this
      omega

set_option maxRecDepth 100000 in
/-- A window that came in. -/
theorem window_open {H : Type} {enc : TypeId × Value → H} {W : World} {cl : List Value} {d : DataW H} {p : List MemPlace} {fuel : Nat}
    (hf : DataW.trod enc Tryz.prog W 0 (fun _ => true) true fuel 24 cl = some (d, p)) (hz : ∀ n ∈ d.weights Tryz.prog 24, n ≤ reachBytes) :
    ∃ (a : Option Addr) (n c : Nat) (F T N : Int) (ss : Nat → Smp), cl = [.slice a n c, .int .i64 F, .int .i64 T, .int .i64 N] ∧ HypW a n ss W ∧ n ≤ c ∧ (-9223372036854775808 ≤ F ∧ F ≤ 9223372036854775807) ∧ (-9223372036854775808 ≤ T ∧ T ≤ 9223372036854775807) ∧ (-9223372036854775808 ≤ N ∧ N ≤ 9223372036854775807) := by
  obtain ⟨xs, k, hk, hxy, hcl, hxl, hff⟩ := DataW.trod_struct Tryz.underlying24 hf
  have h4 : Tryz.prog.cellsOf 24 = 4 := by kernel_rfl
  rw [h4] at hcl
  have g0 := hff 0 _ rfl
  have g1 := hff 1 _ rfl
  have g2 := hff 2 _ rfl
  have g3 := hff 3 _ rfl
  have c2 : Tryz.prog.cellsOf 2 = 1 := by kernel_rfl
  have c28 : Tryz.prog.cellsOf 22 = 1 := by kernel_rfl
  match xs, hxl, cl, hcl with
  | [(e0, p0), (e1, p1), (e2, p2), (e3, p3)], _, [v0, v1, v2, v3], _ =>
    simp [c28] at g0
    simp [c2] at g1 g2 g3
    have hd0 : d = .agg [e0, e1, e2, e3] := (Prod.mk.inj hxy).1
    have zz : ∀ (j : Nat) t d, [22, 2, 2, 2][j]? = some t → [e0, e1, e2, e3][j]? = some d → ∀ n ∈ d.weights Tryz.prog t, n ≤ reachBytes := fun j t d ht hd n hn => by
      refine hz n ?_
      rw [hd0]
      simp only [DataW.weights, Tryz.underlying24]
      exact DataW.weights_mem_each (j := j) (t := t) (d := d) ht hd n hn
    obtain ⟨a, n, c, ss, rfl, hx, hn⟩ := samples_open g0 (zz 0 22 e0 rfl rfl)
    obtain ⟨F, ev1, _, f1⟩ := DataW.trod_int Tryz.underlying2 g1
    obtain ⟨T, ev2, _, f2⟩ := DataW.trod_int Tryz.underlying2 g2
    obtain ⟨N, ev3, _, f3⟩ := DataW.trod_int Tryz.underlying2 g3
    have w1 : v1 = .int .i64 F := by simpa using ev1
    have w2 : v2 = .int .i64 T := by simpa using ev2
    have w3 : v3 = .int .i64 N := by simpa using ev3
    simp [Lit.wf, IntKind.min, IntKind.max, IntKind.signed, IntKind.bits] at f1 f2 f3
    exact ⟨a, n, c, F, T, N, ss, by rw [w1, w2, w3], hx, hn, by omega, by omega, by omega⟩

end Go.Proofs.YtmjenemjbpimcabGreat
