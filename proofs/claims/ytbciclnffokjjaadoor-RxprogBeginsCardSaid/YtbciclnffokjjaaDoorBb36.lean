/- A bundle of texts. -/
import Derived.Test.YtbciclnffokjjaaDoorBb35
/- commonFront. -/
namespace Go.Proofs.YtbciclnffokjjaaDoor
open Go.RowKit Go.Lib

theorem common_any (a b : ByteArray) (ha : a.size ≤ 1048576) (hb : b.size ≤ 1048576) (w : World) (hT : Lib.Utf8Tabs 0 1 w) :
    Calls Tryd.prog 32 #[.string a, .string b] w fun e w' => e = .returned (.string (a.extract 0 (cmF a b a.size 0))) ∧ Below w.heap.size w w' := callsIn_wide.1 (common_in 3 (Nat.le_refl _) a b ha hb w hT)
theorem common_list (a b : List UInt8) (h : VL a) : (bA a).extract 0 (cmF (bA a) (bA b) (bA a).size 0) = bA (cmC a b) := by
  rw [cmC_val a b h, bA_size]
  apply ByteArray.ext
  rw [ByteArray.data_extract]
  apply Array.toList_inj.1
  rw [Array.toList_extract, List.extract_eq_take_drop]
  simp
theorem fx_set1 {w : World} {O : Nat} {s : ByteArray} {b : Bool} (h : w.heap[O]? = some (fX s b)) (c : Bool) : (w.setCell ⟨O, 1, none⟩ (.bool c)).heap[O]? = some (fX s c) := by
  simp [World.setCell, Array.getElem?_modify, h]
theorem fx_set0 {w : World} {O : Nat} {s : ByteArray} {b : Bool} (h : w.heap[O]? = some (fX s b)) (u : ByteArray) : (w.setCell ⟨O, 0, none⟩ (.string u)).heap[O]? = some (fX u b) := by
  simp [World.setCell, Array.getElem?_modify, h]
theorem fx_cells {w : World} {O : Nat} {s : ByteArray} {b : Bool} (h : w.heap[O]? = some (fX s b)) : w.cell? ⟨O, 0, none⟩ = some (.string s) ∧ w.cell? ⟨O, 1, none⟩ = some (.bool b) ∧ w.frozen? ⟨O, 0, none⟩ = false ∧ w.frozen? ⟨O, 1, none⟩ = false := by
  refine ⟨?_, ?_, ?_, ?_⟩
  · unfold World.cell?; rw [h]; rfl
  · unfold World.cell?; rw [h]; rfl
  · unfold World.frozen?; rw [h]; rfl
  · unfold World.frozen?; rw [h]; rfl
theorem com_le {G : Nat → Fr} : ∀ n, (comF cmC G n).1.length ≤ (G 0).1.length := comF_len

set_option maxHeartbeats 4000000 in
set_option maxRecDepth 100000 in
theorem commonFront_any (m : Nat) (hIH : FrC m) (t : Tr) (w : World) (hk : ∀ j, j < (t []).kn → WF m (kid t j) ∧ lenF m (kid t j) ≤ 10000) (hkn : (t []).kn ≤ 8194) (hk1 : 2 ≤ (t []).kn) (ht : Tat w.heap.size w t) (hT : Lib.Utf8Tabs 0 1 w) :
    Calls Tryd.prog 17 #[.slice (t []).ka (t []).kn (t []).kc] w fun e w' => e = .returned (frV (comF cmC (fun q => frF cmC m (kid t q)) ((t []).kn - 1))) ∧ Below w.heap.size w w' := by
  have hsz := tabs_size hT
  obtain ⟨G, hG⟩ : ∃ G : Nat → Fr, G = fun q => frF cmC m (kid t q) := ⟨_, rfl⟩
  have HGJ : Hid (∀ j, frF cmC m (kid t j) = G j) := fun j => by rw [hG]
  have hgl : ∀ q, q < (t []).kn → (G q).1.length ≤ 40000 := fun q hq => by
    have := fr_len m _ (hk q hq).1 (hk q hq).2
    have h2 := (hk q hq).2
    rw [hG]
    dsimp only
    omega
  have HGL : Hid (∀ q, q < (t []).kn → (G q).1.length ≤ 40000) := hgl
  have HVL : Hid (∀ i, VL (comF cmC G i).1 ∧ (comF cmC G i).1.length ≤ 40000) := fun i => ⟨VL.coms (by rw [hG]; exact VL.fr m _ (hk 0 (by omega)).1) i, Nat.le_trans (com_le i) (hgl 0 (by omega))⟩
  rw [← hG]
  have IH : Hid (FrC m) := hIH
  have HKD : Hid (∀ j, j < (t []).kn → WF m (kid t j) ∧ lenF m (kid t j) ≤ 10000) := hk
  obtain ⟨W, hW⟩ : ∃ W, W = w.alloc (fX ⟨#[]⟩ false) := ⟨_, rfl⟩
  have HW : Hid (W = w.alloc (fX ⟨#[]⟩ false)) := hW
  have hWz : W.heap.size = w.heap.size + 1 := by rw [hW]; simp
  have hb0 : Below (w.heap.size) w W := by rw [hW]; exact (Below.refl _ w).alloc (Nat.le_refl _) _
  have hr0 : W.heap[w.heap.size]? = some (fX ⟨#[]⟩ false) := by rw [hW]; exact World.alloc_heap_new w _
  have HR0 : Hid (W.heap[w.heap.size]? = some (fX ⟨#[]⟩ false)) := hr0
  have HB0 : Hid (Below w.heap.size w W) := hb0
  have HTT : Hid (Lib.Utf8Tabs 0 1 w) := hT
  have HT : Hid (Tat w.heap.size w t) := ht
  obtain ⟨g1, o1, hka, hg1, hcs⟩ := (ht.below hb0).kids.at 0 (by omega)
  have kN := IH.out (kid t 0) W (HKD.out 0 (by omega)).1 (HKD.out 0 (by omega)).2 (((ht.below hb0).kid 0 (by omega)).mono hb0.size) (tabs_below hT hsz hb0)
  change Calls Tryd.prog 9 #[ndV (t [0])] W _ at kN
  rw [HGJ.out] at kN
  have HKC : Hid (t [] = t [] ∧ ∀ w2, Below w.heap.size w w2 → ∀ i, i < (t []).kn → Cs w2 g1 (o1 + i * 9) (t [i])) := ⟨rfl, fun w2 hb i hi => by
    obtain ⟨g2, o2, hka2, _, hcs2⟩ := (ht.below hb).kids.at i hi
    rw [hka] at hka2
    cases hka2
    exact hcs2⟩
  obtain ⟨p0, p1, p2, p3, p4, p5, p6, p7, p8⟩ := hcs
  simp only [Nat.zero_mul, Nat.add_zero] at p0 p1 p2 p3 p4 p5 p6 p7 p8
  have HKZ : Hid ((t []).kn ≤ (t []).kc) := ht.node.2.2.2
  obtain ⟨d, hd⟩ : ∃ d, t [] = d := ⟨_, rfl⟩
  have HD : Hid (t [] = d) := hd
  rw [hd] at HKD HGL hkn hk1 hka HKC HKZ
  rw [hd]
  rw [hka]
  have hknI : (d.kn : Int) ≤ 8194 := by omega
  have hk1I : 2 ≤ (d.kn : Int) := by omega
  have hkc1 : ¬ d.kc = 1 := by have := HKZ.out; omega
  have hkcI : (d.kn : Int) ≤ d.kc := by have := HKZ.out; omega
  clear hd hk hIH hG hgl ht hW hb0 hr0 hT hka
  generalize t [0] = d0 at *
  obtain ⟨⟨gt, ge⟩, hgi⟩ : ∃ x, G 0 = x := ⟨_, rfl⟩
  have HG0 : Hid (G 0 = (gt, ge)) := hgi
  rw [hgi] at kN
  clear hgi
  go_enter Tryd.func17, Tryd.ntmps17
  go_upto_region 1 with fail
  rw [← HW.out]
  go_wp2_with fail
  go_fit kN
  rintro e w1 ⟨rfl, b1⟩
  have hb1 : Below (w.heap.size + 1) W w1 := b1.mono (by omega)
  have HB1 : Hid (Below (w.heap.size + 1) W w1 ∧ w.heap.size + 1 ≤ w1.heap.size) := ⟨hb1, by have := b1.size; omega⟩
  clear b1 hb1 kN
  have HX1 : Hid ((w1.alloc (fX (bA gt) ge)).heap[w1.heap.size]? = some (fX (bA (comF cmC G 0).1) (comF cmC G 0).2) ∧ Below (w.heap.size + 1) W (w1.alloc (fX (bA gt) ge)) ∧ w.heap.size + 1 ≤ w1.heap.size) := ⟨by
    have e : comF cmC G 0 = G 0 := rfl
    rw [e, HG0.out]
    exact World.alloc_heap_new w1 _, HB1.out.1.trans (((Below.refl _ w1).alloc (Nat.le_refl _) _).mono HB1.out.2), HB1.out.2⟩
  go_wp2_with fail
  go_loopw [14] (fun ivv w' => ∃ i : Nat, ivv = .int .i64 (i : Int) ∧ i ≤ d.kn - 1 ∧ Hid (w'.heap[w1.heap.size]? = some (fX (bA (comF cmC G i).1) (comF cmC G i).2)) ∧ Hid (Below (w.heap.size + 1) W w')) (fun ivv _ => d.kn - (RowKit.intOf ivv).toNat)
  case atStart => exact ⟨0, rfl, by omega, HX1.out.1, HX1.out.2.1⟩
  case round =>
    obtain ⟨i, rfl, hi, hfx, hbw⟩ := hrel
    by_cases hlt : i < d.kn - 1
    · have hii : (i : Int) < (d.kn : Int) - 1 := by omega
      have hbwr : Below w.heap.size w wr := HB0.out.trans (hbw.out.mono (by omega))
      have htr := HT.out.below hbwr
      have hlt' : i + 1 < (t []).kn := by rw [HD.out]; omega
      have hcs := HKC.out.2 wr hbwr (i + 1) (by omega)
      rw [show o1 + (i + 1) * 9 = o1 + 9 + i * 9 by omega] at hcs
      have hal : Below wr.heap.size wr (wr.alloc (ndX (t [i + 1]))) := (Below.refl _ wr).alloc (Nat.le_refl _) _
      have hz : w.heap.size ≤ wr.heap.size := hbwr.size
      have kN := IH.out (kid t (i + 1)) (wr.alloc (ndX (t [i + 1]))) (HKD.out (i + 1) (by omega)).1 (HKD.out (i + 1) (by omega)).2 (((htr.kid (i + 1) hlt').below (hal.mono hz)).mono (Nat.le_trans hz hal.size)) (tabs_below (tabs_below HTT.out hsz hbwr) (by omega) hal)
      change Calls Tryd.prog 9 #[ndV (t [i + 1])] (wr.alloc (ndX (t [i + 1]))) _ at kN
      rw [HGJ.out] at kN
      have HSS : Hid (comF cmC G (i + 1) = (cmC (comF cmC G i).1 (G (i + 1)).1, (comF cmC G i).2 && (G (i + 1)).2 && ((G (i + 1)).1 == (comF cmC G i).1))) := rfl
      have HSL : Hid (VL (comF cmC G i).1 ∧ (comF cmC G i).1.length ≤ 40000 ∧ (G (i + 1)).1.length ≤ 40000) := ⟨(HVL.out i).1, (HVL.out i).2, HGL.out (i + 1) (by omega)⟩
      have HR : Hid (∀ w2, Below (wr.alloc (ndX (t [i + 1]))).heap.size (wr.alloc (ndX (t [i + 1]))) w2 → Below wr.heap.size wr w2 ∧ wr.heap.size + 1 ≤ w2.heap.size) := fun w2 b => ⟨hal.trans (b.mono hal.size), by have := b.size; simp at this; exact this⟩
      obtain ⟨p0, p1, p2, p3, p4, p5, p6, p7, p8⟩ := hcs
      have HRZ : Hid (w1.heap.size < wr.heap.size) := (Array.getElem?_eq_some_iff.1 hfx.out).1
      have HTR : Hid (Lib.Utf8Tabs 0 1 wr) := tabs_below HTT.out hsz hbwr
      generalize t [i + 1] = dk at *
      obtain ⟨⟨ft, fe⟩, hgi⟩ : ∃ x, G (i + 1) = x := ⟨_, rfl⟩
      obtain ⟨⟨ot, oe⟩, hoi⟩ : ∃ x, comF cmC G i = x := ⟨_, rfl⟩
      rw [hgi] at kN HSS HSL
      rw [hoi] at HSS HSL hfx
      dsimp only at HSS HSL hfx
      clear htr hal hlt' hgi hoi hbwr
      go_wp2_with fail
      go_fit kN
      rintro e w5 ⟨rfl, b5⟩
      obtain ⟨b5', z5⟩ := HR.out _ b5
      clear b5
      obtain ⟨V, hV⟩ : ∃ V, V = w5.alloc (fX (bA ft) fe) := ⟨_, rfl⟩
      have HV : Hid (V = w5.alloc (fX (bA ft) fe)) := hV
      have hO : V.heap[w1.heap.size]? = some (fX (bA ot) oe) := by rw [hV]; exact (Below.heap_alloc _ _ _ (by have := HRZ.out; omega)).trans ((b5'.block _ HRZ.out).trans hfx.out)
      have hF : V.heap[w5.heap.size]? = some (fX (bA ft) fe) := by rw [hV]; exact World.alloc_heap_new w5 _
      have hVb : Below wr.heap.size wr V := by rw [hV]; exact b5'.trans (((Below.refl _ w5).alloc (Nat.le_refl _) _).mono b5'.size)
      obtain ⟨c0, c1, z0, z1⟩ := fx_cells hO
      obtain ⟨f0, f1, _, _⟩ := fx_cells hF
      have hOF : ¬ w5.heap.size = w1.heap.size := by have := HRZ.out; omega
      have hVt : Lib.Utf8Tabs 0 1 V := tabs_below HTR.out (by omega) hVb
      have HKC2 : Hid (∀ X : Bool, Calls Tryd.prog 32 #[.string (bA ot), .string (bA ft)] (V.setCell ⟨w1.heap.size, 1, none⟩ (.bool X)) fun e w' => e = .returned (.string (bA (cmC ot ft))) ∧ Below (V.setCell ⟨w1.heap.size, 1, none⟩ (.bool X)).heap.size (V.setCell ⟨w1.heap.size, 1, none⟩ (.bool X)) w') := fun X => by
        have := common_any (bA ot) (bA ft) (by rw [bA_size]; have := HSL.out; omega) (by rw [bA_size]; have := HSL.out; omega) (V.setCell ⟨w1.heap.size, 1, none⟩ (.bool X)) (tabs_below hVt (B := w1.heap.size) (by have := HB1.out.2; omega) ((Below.refl _ V).setCell (p := ⟨w1.heap.size, 1, none⟩) (Nat.le_refl _) _))
        rwa [common_list ot ft HSL.out.1] at this
      have HD7 : Hid (∀ (X : Bool) (w7 : World), Below (V.setCell ⟨w1.heap.size, 1, none⟩ (.bool X)).heap.size (V.setCell ⟨w1.heap.size, 1, none⟩ (.bool X)) w7 → w7.cell? ⟨w1.heap.size, 0, none⟩ = some (.string (bA ot)) ∧ w7.frozen? ⟨w1.heap.size, 0, none⟩ = false ∧ Hid (∀ u, (w7.setCell ⟨w1.heap.size, 0, none⟩ (.string u)).heap[w1.heap.size]? = some (fX u X) ∧ Below (w.heap.size + 1) W (w7.setCell ⟨w1.heap.size, 0, none⟩ (.string u)))) := fun X w7 h7 => by
        have hs1 := fx_set1 hO X
        have h8 := (h7.block w1.heap.size (Array.getElem?_eq_some_iff.1 hs1).1).trans hs1
        obtain ⟨e0, _, e1, _⟩ := fx_cells h8
        refine ⟨e0, e1, fun u => ⟨fx_set0 h8 u, ?_⟩⟩
        have hz1 := HB1.out.2
        have hz2 := HRZ.out
        have b1 := ((hVb.mono (show w.heap.size + 1 ≤ wr.heap.size by omega)).setCell (p := ⟨w1.heap.size, 1, none⟩) (show w.heap.size + 1 ≤ w1.heap.size by omega) (.bool X))
        have b2 := b1.trans (h7.mono (by have := b1.size; omega))
        exact hbw.out.trans (b2.setCell (p := ⟨w1.heap.size, 0, none⟩) (show w.heap.size + 1 ≤ w1.heap.size by omega) _)
      have heq : ((bA ft).toList == (bA ot).toList) = (ft == ot) := by
        rw [toList_eq, Bool.eq_iff_iff]
        simp only [decide_eq_true_iff, beq_iff_eq]
        constructor
        · intro e
          have := congrArg (fun x : ByteArray => x.data.toList) e
          rw [bA_list, bA_list] at this
          exact this
        · intro e
          rw [e]
      clear hV hO hF hVb hVt b5' hbw hfx HR kN HKC
      go_upto_region 6 with fail
      rw [← HV.out]
      cases oe
      · have kC := HKC2.out false
        go_wp2_with fail
        go_fit kC
        rintro e w7 ⟨rfl, b7⟩
        obtain ⟨e0, e1, HE7⟩ := HD7.out false w7 b7
        clear b7 kC HD7 HKC2
        go_wp2
        exact ⟨⟨i + 1, by go_num, by omega, by unfold Hid; rw [HSS.out]; exact (HE7.out _).1, (HE7.out _).2⟩, by simp [RowKit.intOf]; omega⟩
      · cases fe
        · have kC := HKC2.out false
          go_wp2_with fail
          go_fit kC
          rintro e w7 ⟨rfl, b7⟩
          obtain ⟨e0, e1, HE7⟩ := HD7.out false w7 b7
          clear b7 kC HD7 HKC2
          go_wp2
          exact ⟨⟨i + 1, by go_num, by omega, by unfold Hid; rw [HSS.out]; exact (HE7.out _).1, (HE7.out _).2⟩, by simp [RowKit.intOf]; omega⟩
        · have kC := HKC2.out (ft == ot)
          go_wp2_with fail
          go_fit kC
          rintro e w7 ⟨rfl, b7⟩
          obtain ⟨e0, e1, HE7⟩ := HD7.out (ft == ot) w7 b7
          clear b7 kC HD7 HKC2
          go_wp2
          exact ⟨⟨i + 1, by go_num, by omega, by unfold Hid; rw [HSS.out]; exact (HE7.out _).1, (HE7.out _).2⟩, by simp [RowKit.intOf]; omega⟩
    · obtain rfl : i = d.kn - 1 := by omega
      have hii : ¬ ((d.kn - 1 : Nat) : Int) < (d.kn : Int) - 1 := by omega
      obtain ⟨c0, c1, _, _⟩ := fx_cells hfx.out
      have hr8 : wr.heap[w.heap.size]? = some (fX ⟨#[]⟩ false) := (hbw.out.block w.heap.size (by omega)).trans HR0.out
      obtain ⟨r0, r1, z0, z1⟩ := fx_cells hr8
      have HBW : Hid (Below w.heap.size w wr) := HB0.out.trans (hbw.out.mono (by omega))
      have HFX : Hid (comF cmC G (d.kn - 1) = ((comF cmC G (d.kn - 1)).1, (comF cmC G (d.kn - 1)).2)) := rfl
      have hne : ¬ w1.heap.size = w.heap.size := by have := HB1.out.2; omega
      clear hfx hbw hr8
      generalize (comF cmC G (d.kn - 1)).1 = ot at *
      generalize (comF cmC G (d.kn - 1)).2 = oe at *
      go_wp2
      refine bodyPost_ret (v := frV (ot, oe)) (by simp [results, Tryd.results17, go_sem, r0, r1]) rfl ⟨by rw [HFX.out], ?_⟩
      exact (HBW.out.setCell (p := ⟨w.heap.size, 0, none⟩) (Nat.le_refl _) _).setCell (p := ⟨w.heap.size, 1, none⟩) (Nat.le_refl _) _
end Go.Proofs.YtbciclnffokjjaaDoor
/- repeatFront. -/
namespace Go.Proofs.YtbciclnffokjjaaDoor
open Go.RowKit Go.Lib

theorem tim_rep (l : List UInt8) : ∀ n, Lib.repeatL l n = timL l n
  | 0 => rfl
  | n + 1 => by
    rw [Lib.repeatL_add, tim_rep l n, Lib.repeatL_one]
    rfl
theorem bA_nil (l : List UInt8) : ((bA l).toList == (⟨#[]⟩ : ByteArray).toList) = (l == []) := by
  rw [toList_eq, Bool.eq_iff_iff]
  simp only [decide_eq_true_iff, beq_iff_eq]
  constructor
  · intro e
    have := congrArg (fun x : ByteArray => x.data.toList) e
    rw [bA_list] at this
    exact this
  · intro e
    rw [e]
set_option maxHeartbeats 4000000 in
set_option maxRecDepth 100000 in
theorem repeatFront_any (m : Nat) (hIH : FrC m) (t : Tr) (w : World) (hw : WF (m + 1) t) (hl : lenF (m + 1) t ≤ 10000) (h6 : (t []).kind = 6) (ht : Tat w.heap.size w t) (hT : Lib.Utf8Tabs 0 1 w) :
    Calls Tryd.prog 18 #[ndV (t [])] w fun e w' => e = .returned (frV (repF (frF cmC m (kid t 0)) (t []).mn (t []).mx)) ∧ Below w.heap.size w w' := by
  have hsz := tabs_size hT
  have hkid := lenF_kid hw hl
  obtain ⟨⟨hnd, _⟩, hkn, hk⟩ := hw
  have hrep := ndB_rep hnd h6
  obtain ⟨W, hW⟩ : ∃ W, W = (w.alloc (ndX (t []))).alloc (fX ⟨#[]⟩ false) := ⟨_, rfl⟩
  have HW : Hid (W = (w.alloc (ndX (t []))).alloc (fX ⟨#[]⟩ false)) := hW
  have hWz : W.heap.size = w.heap.size + 2 := by rw [hW]; simp
  have hb0 : Below (w.heap.size) w W := by rw [hW]; exact ((Below.refl _ w).alloc (Nat.le_refl _) _).alloc (by simp) _
  have hr0 : W.heap[w.heap.size + 1]? = some (fX ⟨#[]⟩ false) := by rw [hW]; have := World.alloc_heap_new (w.alloc (ndX (t []))) (fX ⟨#[]⟩ false); rwa [World.size_alloc] at this
  have hc := ndX_cells (w := w) (t []) (W := W) (by rw [hW]; exact (Below.refl _ _).alloc (Nat.le_refl _) _)
  have HB0 : Hid (Below w.heap.size w W) := hb0
  have HR : Hid (∀ w2, Below W.heap.size W w2 → Cs w2 w.heap.size 0 (t []) ∧ w2.heap[w.heap.size + 1]? = some (fX ⟨#[]⟩ false) ∧ Below w.heap.size w w2) := fun w2 b => ⟨hc.below b (by omega), (b.block (w.heap.size + 1) (by omega)).trans hr0, hb0.trans (b.mono hb0.size)⟩
  obtain ⟨g1, o1, hka, hg1, hcs⟩ := (ht.below hb0).kids.at 0 (by omega)
  obtain ⟨p0, p1, p2, p3, p4, p5, p6, p7, p8⟩ := hcs
  simp only [Nat.zero_mul, Nat.add_zero] at p0 p1 p2 p3 p4 p5 p6 p7 p8
  have HKN : Hid ((t []).mx ≠ 0 → Calls Tryd.prog 9 #[ndV (t [0])] W fun e w' => e = .returned (frV (frF cmC m (kid t 0))) ∧ Below W.heap.size W w') := fun hx => hIH (kid t 0) W (hk 0 (by omega)) (hkid (fun e => hx e.2) 0 (by omega)) (((ht.below hb0).kid 0 (by omega)).mono hb0.size) (tabs_below hT hsz hb0)
  have HFL : Hid ((t []).mx ≠ 0 → (frF cmC m (kid t 0)).1.length ≤ 40000) := fun hx => by
    have := fr_len m (kid t 0) (hk 0 (by omega)) (hkid (fun e => hx e.2) 0 (by omega))
    have h2 := hkid (fun e => hx e.2) 0 (by omega)
    omega
  obtain ⟨q0, q1, q2, q3, q4, q5, q6, q7, q8⟩ := hc
  simp only [Nat.zero_add] at q0 q1 q2 q3 q4 q5 q6 q7 q8
  obtain ⟨r0, r1, z0, z1⟩ := fx_cells hr0
  obtain ⟨rm0, rm1, rm2, rmx⟩ := hrep
  obtain ⟨d, hd⟩ : ∃ d, t [] = d := ⟨_, rfl⟩
  rw [hd] at HW HR HKN HFL q0 q1 q2 q3 q4 q5 q6 q7 q8 rm0 rm1 rm2 rmx h6 hka ⊢
  rw [hka] at q8
  obtain ⟨f, hf⟩ : ∃ f, frF cmC m (kid t 0) = f := ⟨_, rfl⟩
  rw [hf] at HKN HFL ⊢
  obtain ⟨gt, ge⟩ := f
  have hknI : 0 < (d.kn : Int) := by omega
  clear h6 rm0 hnd hkn hk hkid hIH ht hb0 hr0 hT hf hW hka hd
  generalize t [0] = d0 at *
  by_cases hx : d.mx = 0
  · have e0 : repF (gt, ge) d.mn d.mx = ([], true) := by unfold repF; rw [if_pos hx]
    rw [e0]
    have tx : (d.mx == 0) = true := by simpa using hx
    clear e0 hx
    go_enter Tryd.func18, Tryd.ntmps18
    go_upto_region 1 with fail
    rw [← HW.out]
    go_wp2
    refine bodyPost_ret (v := frV ([], true)) (by simp [results, Tryd.results18, go_sem, r0, r1]) rfl ⟨rfl, ?_⟩
    exact (HB0.out.setCell (p := ⟨w.heap.size + 1, 0, none⟩) (show w.heap.size ≤ w.heap.size + 1 by omega) _).setCell (p := ⟨w.heap.size + 1, 1, none⟩) (show w.heap.size ≤ w.heap.size + 1 by omega) _
  · have tx : (d.mx == 0) = false := by simpa using hx
    have kN := HKN.out hx
    have HF : Hid (gt.length ≤ 40000) := HFL.out hx
    have HE : Hid (repF (gt, ge) d.mn d.mx = if d.mn = 0 then ([], ge && gt == []) else if ge = false then (gt, ge) else (timL gt d.mn.toNat, (ge && gt == []) || d.mx == d.mn)) := by
      unfold Hid
      unfold repF
      rw [if_neg hx]
    go_enter Tryd.func18, Tryd.ntmps18
    go_upto_region 1 with fail
    rw [← HW.out]
    go_wp2_with fail
    go_fit kN
    rintro e w1 ⟨rfl, b1⟩
    obtain ⟨V, hV⟩ : ∃ V, V = w1.alloc (fX (bA gt) ge) := ⟨_, rfl⟩
    have HV : Hid (V = w1.alloc (fX (bA gt) ge)) := hV
    have hw1 := b1.size
    have hVb : Below W.heap.size W V := by rw [hV]; exact b1.trans (((Below.refl _ w1).alloc (Nat.le_refl _) _).mono b1.size)
    obtain ⟨hc1, hr1, hb1⟩ := HR.out V hVb
    have hF : V.heap[w1.heap.size]? = some (fX (bA gt) ge) := by rw [hV]; exact World.alloc_heap_new w1 _
    have HVZ : Hid (w.heap.size + 3 ≤ V.heap.size) := by unfold Hid; rw [hV]; simp; omega
    obtain ⟨f0, f1, _, _⟩ := fx_cells hF
    obtain ⟨s0, s1, y0, y1⟩ := fx_cells hr1
    obtain ⟨c0, c1, c2, c3, c4, c5, c6, c7, c8⟩ := hc1
    simp only [Nat.zero_add] at c0 c1 c2 c3 c4 c5 c6 c7 c8
    have HB1 : Hid (Below w.heap.size w V) := hb1
    have HHB : Hid (∀ w2, Below V.heap.size V w2 → (Cs w2 w.heap.size 0 d ∧ w2.heap[w.heap.size + 1]? = some (fX ⟨#[]⟩ false) ∧ Below w.heap.size w w2) ∧ w2.heap[w1.heap.size]? = some (fX (bA gt) ge)) := fun w2 b => ⟨HR.out w2 (hVb.trans (b.mono hVb.size)), (b.block _ (Array.getElem?_eq_some_iff.1 hF).1).trans hF⟩
    have kR := Tryd.strings_Repeat (bA gt) d.mn.toNat V (by omega) (by
      rw [bA_size]
      have h1 := HF.out
      have h2 : gt.length * d.mn.toNat ≤ 40000 * 1000 := Nat.mul_le_mul h1 (by omega)
      omega)
    rw [show ((d.mn.toNat : Nat) : Int) = d.mn by omega, bA_list, tim_rep] at kR
    have heq := bA_nil gt
    clear hV hVb hF hb1 hr1 b1 HKN kN HFL HR
    go_upto_region 4 with fail
    rw [← HV.out]
    by_cases hz : d.mn = 0
    · have tz : (d.mn == 0) = true := by simpa using hz
      rw [if_pos hz] at HE
      clear hz kR
      cases ge
      · go_wp2
        refine bodyPost_ret (v := frV ([], false)) (by simp [results, Tryd.results18, go_sem, s0, s1]) rfl ⟨by rw [HE.out]; rfl, ?_⟩
        exact (HB1.out.setCell (p := ⟨w.heap.size + 1, 0, none⟩) (show w.heap.size ≤ w.heap.size + 1 by omega) _).setCell (p := ⟨w.heap.size + 1, 1, none⟩) (show w.heap.size ≤ w.heap.size + 1 by omega) _
      · go_wp2
        refine bodyPost_ret (v := frV ([], gt.isEmpty)) (by simp [results, Tryd.results18, go_sem, s0, s1]) rfl ⟨by rw [HE.out]; cases gt <;> rfl, ?_⟩
        exact (HB1.out.setCell (p := ⟨w.heap.size + 1, 0, none⟩) (show w.heap.size ≤ w.heap.size + 1 by omega) _).setCell (p := ⟨w.heap.size + 1, 1, none⟩) (show w.heap.size ≤ w.heap.size + 1 by omega) _
    · have tz : (d.mn == 0) = false := by simpa using hz
      rw [if_neg hz] at HE
      clear hz
      cases ge
      · go_wp2
        refine bodyPost_ret (v := frV (gt, false)) (by simp [results, Tryd.results18, go_sem, s0, s1]) rfl ⟨by rw [HE.out]; rfl, ?_⟩
        exact (HB1.out.setCell (p := ⟨w.heap.size + 1, 0, none⟩) (show w.heap.size ≤ w.heap.size + 1 by omega) _).setCell (p := ⟨w.heap.size + 1, 1, none⟩) (show w.heap.size ≤ w.heap.size + 1 by omega) _
      · have HT1 : Hid (∀ (w2 : World) (X : Bool), Below V.heap.size V w2 → Below w.heap.size w ((w2.setCell ⟨w.heap.size + 1, 0, none⟩ (.string ⟨(timL gt d.mn.toNat).toArray⟩)).setCell ⟨w.heap.size + 1, 1, none⟩ (.bool X))) := fun w2 X b => ((HHB.out w2 b).1.2.2.setCell (p := ⟨w.heap.size + 1, 0, none⟩) (show w.heap.size ≤ w.heap.size + 1 by omega) _).setCell (p := ⟨w.heap.size + 1, 1, none⟩) (show w.heap.size ≤ w.heap.size + 1 by omega) _
        obtain ⟨ie, hie⟩ : ∃ ie, gt.isEmpty = ie := ⟨_, rfl⟩
        have hie2 : (gt == []) = ie := by rw [← hie]; cases gt <;> rfl
        rw [hie2] at HE heq
        have HEN : Hid (frV (timL gt d.mn.toNat, (true && ie || d.mx == d.mn)) = frV (timL gt d.mn.toNat, (true && ie || d.mx == d.mn))) := rfl
        go_wp2_with fail
        go_fit kR
        rintro e w2 ⟨rfl, b2⟩
        obtain ⟨⟨hc2, hr2, hb2⟩, hF2⟩ := HHB.out w2 b2
        have HB2 := HT1.out w2
        have HB2' : Hid (∀ X : Bool, Below w.heap.size w ((w2.setCell ⟨w.heap.size + 1, 0, none⟩ (.string ⟨(timL gt d.mn.toNat).toArray⟩)).setCell ⟨w.heap.size + 1, 1, none⟩ (.bool X))) := fun X => HB2 X b2
        obtain ⟨v0, v1, y0, y1⟩ := fx_cells hr2
        obtain ⟨d0, d1, d2, d3, d4, d5, d6, d7, d8⟩ := hc2
        simp only [Nat.zero_add] at d0 d1 d2 d3 d4 d5 d6 d7 d8
        clear b2 hr2 hb2 hF2 HB2 HT1 HHB kR
        generalize timL gt d.mn.toNat = TT at *
        cases ie
        · go_wp2
          refine bodyPost_ret (v := frV (TT, d.mx == d.mn)) (by simp [results, Tryd.results18, go_sem, v0, v1]) rfl ⟨by rw [HE.out]; rfl, HB2'.out _⟩
        · go_wp2
          refine bodyPost_ret (v := frV (TT, true)) (by simp [results, Tryd.results18, go_sem, v0, v1]) rfl ⟨by rw [HE.out]; rfl, HB2'.out _⟩
end Go.Proofs.YtbciclnffokjjaaDoor
