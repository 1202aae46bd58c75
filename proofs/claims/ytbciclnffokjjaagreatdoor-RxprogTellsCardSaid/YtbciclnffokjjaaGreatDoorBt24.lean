/- A bundle of texts. -/
import Derived.Test.YtbciclnffokjjaaGreatDoorBt23
import Derived.Test.YtbciclnffokjjaaGreatDoorBt20
import Derived.Test.YtbciclnffokjjaaGreatDoorBt11
/- repeatFront. -/
namespace Go.Proofs.YtbciclnffokjjaaGreatDoor
open Go.RowKit Go.Lib

theorem tim_rep (l : List UInt8) : ∀ n, Lib.repeatL l n = timL l n
  | 0 => rfl
  | n + 1 => by
    rw [Lib.repeatL_add, tim_rep l n, Lib.repeatL_one]
    rfl
theorem bA_nil (l : List UInt8) : ((bA l).toList == (⟨#[]⟩ : ByteArray).toList) = (l == []) := by
  rw [toList_eq, Bool.eq_iff_iff]
  simp only [decide_eq_true_iff, beq_iff_eq]
  constructor
  · intro e
    have := congrArg (fun x : ByteArray => x.data.toList) e
    rw [bA_list] at this
    exact this
  · intro e
    rw [e]
set_option maxHeartbeats 4000000 in
set_option maxRecDepth 100000 in
theorem repeatFront_any (m : Nat) (hIH : FrC m) (t : Tr) (w : World) (hw : WF (m + 1) t) (hl : lenF (m + 1) t ≤ 10000) (h6 : (t []).kind = 6) (ht : Tat w.heap.size w t) (hT : Lib.Utf8Tabs 0 1 w) :
    Calls Tryz.prog 34 #[ndV (t [])] w fun e w' => e = .returned (frV (repF (frF cmC m (kid t 0)) (t []).mn (t []).mx)) ∧ Below w.heap.size w w' := by
  have hsz := tabs_size hT
  have hkid := lenF_kid hw hl
  obtain ⟨⟨hnd, _⟩, hkn, hk⟩ := hw
  have hrep := ndB_rep hnd h6
  obtain ⟨W, hW⟩ : ∃ W, W = (w.alloc (ndX (t []))).alloc (fX ⟨#[]⟩ false) := ⟨_, rfl⟩
  have HW : Hid (W = (w.alloc (ndX (t []))).alloc (fX ⟨#[]⟩ false)) := hW
  have hWz : W.heap.size = w.heap.size + 2 := by rw [hW]; simp
  have hb0 : Below (w.heap.size) w W := by rw [hW]; exact ((Below.refl _ w).alloc (Nat.le_refl _) _).alloc (by simp) _
  have hr0 : W.heap[w.heap.size + 1]? = some (fX ⟨#[]⟩ false) := by rw [hW]; have := World.alloc_heap_new (w.alloc (ndX (t []))) (fX ⟨#[]⟩ false); rwa [World.size_alloc] at this
  have hc := ndX_cells (w := w) (t []) (W := W) (by rw [hW]; exact (Below.refl _ _).alloc (Nat.le_refl _) _)
  have HB0 : Hid (Below w.heap.size w W) := hb0
  have HR : Hid (∀ w2, Below W.heap.size W w2 → Cs w2 w.heap.size 0 (t []) ∧ w2.heap[w.heap.size + 1]? = some (fX ⟨#[]⟩ false) ∧ Below w.heap.size w w2) := fun w2 b => ⟨hc.below b (by omega), (b.block (w.heap.size + 1) (by omega)).trans hr0, hb0.trans (b.mono hb0.size)⟩
  obtain ⟨g1, o1, hka, hg1, hcs⟩ := (ht.below hb0).kids.at 0 (by omega)
  obtain ⟨p0, p1, p2, p3, p4, p5, p6, p7, p8⟩ := hcs
  simp only [Nat.zero_mul, Nat.add_zero] at p0 p1 p2 p3 p4 p5 p6 p7 p8
  have HKN : Hid ((t []).mx ≠ 0 → Calls Tryz.prog 15 #[ndV (t [0])] W fun e w' => e = .returned (frV (frF cmC m (kid t 0))) ∧ Below W.heap.size W w') := fun hx => hIH (kid t 0) W (hk 0 (by omega)) (hkid (fun e => hx e.2) 0 (by omega)) (((ht.below hb0).kid 0 (by omega)).mono hb0.size) (tabs_below hT hsz hb0)
  have HFL : Hid ((t []).mx ≠ 0 → (frF cmC m (kid t 0)).1.length ≤ 40000) := fun hx => by
    have := fr_len m (kid t 0) (hk 0 (by omega)) (hkid (fun e => hx e.2) 0 (by omega))
    have h2 := hkid (fun e => hx e.2) 0 (by omega)
    omega
  obtain ⟨q0, q1, q2, q3, q4, q5, q6, q7, q8⟩ := hc
  simp only [Nat.zero_add] at q0 q1 q2 q3 q4 q5 q6 q7 q8
  obtain ⟨r0, r1, z0, z1⟩ := fx_cells hr0
  obtain ⟨rm0, rm1, rm2, rmx⟩ := hrep
  obtain ⟨d, hd⟩ : ∃ d, t [] = d := ⟨_, rfl⟩
  rw [hd] at HW HR HKN HFL q0 q1 q2 q3 q4 q5 q6 q7 q8 rm0 rm1 rm2 rmx h6 hka ⊢
  rw [hka] at q8
  obtain ⟨f, hf⟩ : ∃ f, frF cmC m (kid t 0) = f := ⟨_, rfl⟩
  rw [hf] at HKN HFL ⊢
  obtain ⟨gt, ge⟩ := f
  have hknI : 0 < (d.kn : Int) := by omega
  clear h6 rm0 hnd hkn hk hkid hIH ht hb0 hr0 hT hf hW hka hd
  generalize t [0] = d0 at *
  by_cases hx : d.mx = 0
  · have e0 : repF (gt, ge) d.mn d.mx = ([], true) := by unfold repF; rw [if_pos hx]
    rw [e0]
    have tx : (d.mx == 0) = true := by simpa using hx
    clear e0 hx
    go_enter Tryz.func34, Tryz.ntmps34
    go_upto_region 1 with fail
    rw [← HW.out]
    go_wp2
    refine bodyPost_ret (v := frV ([], true)) (by simp [results, Tryz.results34, go_sem, r0, r1]) rfl ⟨rfl, ?_⟩
    exact (HB0.out.setCell (p := ⟨w.heap.size + 1, 0, none⟩) (show w.heap.size ≤ w.heap.size + 1 by omega) _).setCell (p := ⟨w.heap.size + 1, 1, none⟩) (show w.heap.size ≤ w.heap.size + 1 by omega) _
  · have tx : (d.mx == 0) = false := by simpa using hx
    have kN := HKN.out hx
    have HF : Hid (gt.length ≤ 40000) := HFL.out hx
    have HE : Hid (repF (gt, ge) d.mn d.mx = if d.mn = 0 then ([], ge && gt == []) else if ge = false then (gt, ge) else (timL gt d.mn.toNat, (ge && gt == []) || d.mx == d.mn)) := by
      unfold Hid
      unfold repF
      rw [if_neg hx]
    go_enter Tryz.func34, Tryz.ntmps34
    go_upto_region 1 with fail
    rw [← HW.out]
    go_wp2_with fail
    go_fit kN
    rintro e w1 ⟨rfl, b1⟩
    obtain ⟨V, hV⟩ : ∃ V, V = w1.alloc (fX (bA gt) ge) := ⟨_, rfl⟩
    have HV : Hid (V = w1.alloc (fX (bA gt) ge)) := hV
    have hw1 := b1.size
    have hVb : Below W.heap.size W V := by rw [hV]; exact b1.trans (((Below.refl _ w1).alloc (Nat.le_refl _) _).mono b1.size)
    obtain ⟨hc1, hr1, hb1⟩ := HR.out V hVb
    have hF : V.heap[w1.heap.size]? = some (fX (bA gt) ge) := by rw [hV]; exact World.alloc_heap_new w1 _
    have HVZ : Hid (w.heap.size + 3 ≤ V.heap.size) := by unfold Hid; rw [hV]; simp; omega
    obtain ⟨f0, f1, _, _⟩ := fx_cells hF
    obtain ⟨s0, s1, y0, y1⟩ := fx_cells hr1
    obtain ⟨c0, c1, c2, c3, c4, c5, c6, c7, c8⟩ := hc1
    simp only [Nat.zero_add] at c0 c1 c2 c3 c4 c5 c6 c7 c8
    have HB1 : Hid (Below w.heap.size w V) := hb1
    have HHB : Hid (∀ w2, Below V.heap.size V w2 → (Cs w2 w.heap.size 0 d ∧ w2.heap[w.heap.size + 1]? = some (fX ⟨#[]⟩ false) ∧ Below w.heap.size w w2) ∧ w2.heap[w1.heap.size]? = some (fX (bA gt) ge)) := fun w2 b => ⟨HR.out w2 (hVb.trans (b.mono hVb.size)), (b.block _ (Array.getElem?_eq_some_iff.1 hF).1).trans hF⟩
    have kR := Tryz.strings_Repeat (bA gt) d.mn.toNat V (by omega) (by
      rw [bA_size]
      have h1 := HF.out
      have h2 : gt.length * d.mn.toNat ≤ 40000 * 1000 := Nat.mul_le_mul h1 (by omega)
      omega)
    rw [show ((d.mn.toNat : Nat) : Int) = d.mn by omega, bA_list, tim_rep] at kR
    have heq := bA_nil gt
    clear hV hVb hF hb1 hr1 b1 HKN kN HFL HR
    go_upto_region 4 with fail
    rw [← HV.out]
    by_cases hz : d.mn = 0
    · have tz : (d.mn == 0) = true := by simpa using hz
      rw [if_pos hz] at HE
      clear hz kR
      cases ge
      · go_wp2
        refine bodyPost_ret (v := frV ([], false)) (by simp [results, Tryz.results34, go_sem, s0, s1]) rfl ⟨by rw [HE.out]; rfl, ?_⟩
        exact (HB1.out.setCell (p := ⟨w.heap.size + 1, 0, none⟩) (show w.heap.size ≤ w.heap.size + 1 by omega) _).setCell (p := ⟨w.heap.size + 1, 1, none⟩) (show w.heap.size ≤ w.heap.size + 1 by omega) _
      · go_wp2
        refine bodyPost_ret (v := frV ([], gt.isEmpty)) (by simp [results, Tryz.results34, go_sem, s0, s1]) rfl ⟨by rw [HE.out]; cases gt <;> rfl, ?_⟩
        exact (HB1.out.setCell (p := ⟨w.heap.size + 1, 0, none⟩) (show w.heap.size ≤ w.heap.size + 1 by omega) _).setCell (p := ⟨w.heap.size + 1, 1, none⟩) (show w.heap.size ≤ w.heap.size + 1 by omega) _
    · have tz : (d.mn == 0) = false := by simpa using hz
      rw [if_neg hz] at HE
      clear hz
      cases ge
      · go_wp2
        refine bodyPost_ret (v := frV (gt, false)) (by simp [results, Tryz.results34, go_sem, s0, s1]) rfl ⟨by rw [HE.out]; rfl, ?_⟩
        exact (HB1.out.setCell (p := ⟨w.heap.size + 1, 0, none⟩) (show w.heap.size ≤ w.heap.size + 1 by omega) _).setCell (p := ⟨w.heap.size + 1, 1, none⟩) (show w.heap.size ≤ w.heap.size + 1 by omega) _
      · have HT1 : Hid (∀ (w2 : World) (X : Bool), Below V.heap.size V w2 → Below w.heap.size w ((w2.setCell ⟨w.heap.size + 1, 0, none⟩ (.string ⟨(timL gt d.mn.toNat).toArray⟩)).setCell ⟨w.heap.size + 1, 1, none⟩ (.bool X))) := fun w2 X b => ((HHB.out w2 b).1.2.2.setCell (p := ⟨w.heap.size + 1, 0, none⟩) (show w.heap.size ≤ w.heap.size + 1 by omega) _).setCell (p := ⟨w.heap.size + 1, 1, none⟩) (show w.heap.size ≤ w.heap.size + 1 by omega) _
        obtain ⟨ie, hie⟩ : ∃ ie, gt.isEmpty = ie := ⟨_, rfl⟩
        have hie2 : (gt == []) = ie := by rw [← hie]; cases gt <;> rfl
        rw [hie2] at HE heq
        have HEN : Hid (frV (timL gt d.mn.toNat, (true && ie || d.mx == d.mn)) = frV (timL gt d.mn.toNat, (true && ie || d.mx == d.mn))) := rfl
        go_wp2_with fail
        go_fit kR
        rintro e w2 ⟨rfl, b2⟩
        obtain ⟨⟨hc2, hr2, hb2⟩, hF2⟩ := HHB.out w2 b2
        have HB2 := HT1.out w2
        have HB2' : Hid (∀ X : Bool, Below w.heap.size w ((w2.setCell ⟨w.heap.size + 1, 0, none⟩ (.string ⟨(timL gt d.mn.toNat).toArray⟩)).setCell ⟨w.heap.size + 1, 1, none⟩ (.bool X))) := fun X => HB2 X b2
        obtain ⟨v0, v1, y0, y1⟩ := fx_cells hr2
        obtain ⟨d0, d1, d2, d3, d4, d5, d6, d7, d8⟩ := hc2
        simp only [Nat.zero_add] at d0 d1 d2 d3 d4 d5 d6 d7 d8
        clear b2 hr2 hb2 hF2 HB2 HT1 HHB kR
        generalize timL gt d.mn.toNat = TT at *
        cases ie
        · go_wp2
          refine bodyPost_ret (v := frV (TT, d.mx == d.mn)) (by simp [results, Tryz.results34, go_sem, v0, v1]) rfl ⟨by rw [HE.out]; rfl, HB2'.out _⟩
        · go_wp2
          refine bodyPost_ret (v := frV (TT, true)) (by simp [results, Tryz.results34, go_sem, v0, v1]) rfl ⟨by rw [HE.out]; rfl, HB2'.out _⟩
end Go.Proofs.YtbciclnffokjjaaGreatDoor
/- frontOf. -/
namespace Go.Proofs.YtbciclnffokjjaaGreatDoor
open Go.RowKit Go.Lib

theorem bA_empty : (⟨#[]⟩ : ByteArray) = bA [] := rfl
theorem bA_enc (r : Int) : bA (Utf8.encode r).data.toList = Utf8.encode r := bA_eta _
set_option maxHeartbeats 4000000 in
set_option maxRecDepth 100000 in
theorem front_step (m : Nat) (hIH : FrC m) : FrC (m + 1) := by
  intro t w hw hl ht hT
  have hsz := tabs_size hT
  have hkid := lenF_kid hw hl
  have hw0 := hw
  obtain ⟨⟨hnd, _⟩, hkn, hk⟩ := hw
  have hkd := ndB_kind hnd
  obtain ⟨W, hW⟩ : ∃ W, W = (w.alloc (ndX (t []))).alloc (fX ⟨#[]⟩ false) := ⟨_, rfl⟩
  have HW : Hid (W = (w.alloc (ndX (t []))).alloc (fX ⟨#[]⟩ false)) := hW
  have hWz : W.heap.size = w.heap.size + 2 := by rw [hW]; simp
  have hb0 : Below (w.heap.size) w W := by rw [hW]; exact ((Below.refl _ w).alloc (Nat.le_refl _) _).alloc (by simp) _
  have hr0 : W.heap[w.heap.size + 1]? = some (fX ⟨#[]⟩ false) := by rw [hW]; have := World.alloc_heap_new (w.alloc (ndX (t []))) (fX ⟨#[]⟩ false); rwa [World.size_alloc] at this
  have hc := ndX_cells (w := w) (t []) (W := W) (by rw [hW]; exact (Below.refl _ _).alloc (Nat.le_refl _) _)
  have HB0 : Hid (Below w.heap.size w W) := hb0
  have HFIN : Hid (∀ (w2 : World) (s : ByteArray) (X : Bool), Below W.heap.size W w2 → Below w.heap.size w ((w2.setCell ⟨w.heap.size + 1, 0, none⟩ (.string s)).setCell ⟨w.heap.size + 1, 1, none⟩ (.bool X))) := fun w2 s X b => ((hb0.trans (b.mono hb0.size)).setCell (p := ⟨w.heap.size + 1, 0, none⟩) (show w.heap.size ≤ w.heap.size + 1 by omega) _).setCell (p := ⟨w.heap.size + 1, 1, none⟩) (show w.heap.size ≤ w.heap.size + 1 by omega) _
  have HR : Hid (∀ w2, Below W.heap.size W w2 → w2.cell? ⟨w.heap.size + 1, 0, none⟩ = some (.string ⟨#[]⟩) ∧ w2.cell? ⟨w.heap.size + 1, 1, none⟩ = some (.bool false) ∧ w2.frozen? ⟨w.heap.size + 1, 0, none⟩ = false ∧ w2.frozen? ⟨w.heap.size + 1, 1, none⟩ = false) := fun w2 b => fx_cells ((b.block (w.heap.size + 1) (by omega)).trans hr0)
  have htW : Tat W.heap.size W t := (ht.below hb0).mono hb0.size
  have hTW : Lib.Utf8Tabs 0 1 W := tabs_below hT hsz hb0
  obtain ⟨q0, q1, q2, q3, q4, q5, q6, q7, q8⟩ := hc
  simp only [Nat.zero_add] at q0 q1 q2 q3 q4 q5 q6 q7 q8
  obtain ⟨r0, r1, z0, z1⟩ := fx_cells hr0
  by_cases k2 : (t []).kind = 2
  · have kT := text_one W.heap.size (t []).r (W.alloc (.cells #[.int .i32 (t []).r] 21)) (by unfold World.cell?; rw [World.alloc_heap_new]; rfl)
    have HE : Hid (frF cmC (m + 1) t = if Utf8.valid (t []).r = true then ((Utf8.encode (t []).r).data.toList, true) else ([], false)) := by
      unfold Hid
      unfold frF
      rw [if_pos k2]
    rw [hWz] at kT
    have HX : Hid (W.alloc (.cells #[.int .i32 (t []).r] 21) = W.alloc (.cells #[.int .i32 (t []).r] 21)) := rfl
    have rr := HR.out (W.alloc (.cells #[.int .i32 (t []).r] 21)) ((Below.refl _ _).alloc (Nat.le_refl _) _)
    have HFW := HFIN.out (W.alloc (.cells #[.int .i32 (t []).r] 21))
    have HFW2 : Hid (∀ (s : ByteArray) (X : Bool), Below w.heap.size w (((W.alloc (.cells #[.int .i32 (t []).r] 21)).setCell ⟨w.heap.size + 1, 0, none⟩ (.string s)).setCell ⟨w.heap.size + 1, 1, none⟩ (.bool X))) := fun s X => HFW s X ((Below.refl _ _).alloc (Nat.le_refl _) _)
    obtain ⟨d, hd⟩ : ∃ d, t [] = d := ⟨_, rfl⟩
    rw [hd] at HW q0 q1 q2 q3 q4 q5 q6 q7 q8 k2 kT HE rr HFW2 ⊢
    have t2 : (d.kind == 2) = true := by simpa using k2
    have RR : Hid _ := rr
    clear hd rr
    clear hnd hkn hk hkid hIH ht hb0 hr0 hT hW hkd htW hTW HR HFIN HFW k2 HX hw0 hl
    cases hv : Utf8.valid d.r
    · rw [hv] at kT HE
      simp only [Bool.false_eq_true, if_false] at kT HE
      clear hv
      go_enter Tryz.func15, Tryz.ntmps15
      go_upto_region 1 with fail
      rw [← HW.out]
      go_wp2_with fail
      go_fit kT
      rintro e w2 ⟨rfl, hw2⟩
      rw [← hw2] at RR HFW2
      obtain ⟨r0, r1, z0, z1⟩ := RR.out
      clear hw2 RR kT
      go_wp2
      refine bodyPost_ret (v := frV ([], false)) (by simp [results, Tryz.results15, go_sem, r0, r1]) rfl ⟨by rw [HE.out], HFW2.out _ _⟩
    · rw [hv] at kT HE
      simp only [if_true] at kT HE
      clear hv
      go_enter Tryz.func15, Tryz.ntmps15
      go_upto_region 1 with fail
      rw [← HW.out]
      go_wp2_with fail
      go_fit kT
      rintro e w2 ⟨rfl, hw2⟩
      rw [← hw2] at RR HFW2
      obtain ⟨r0, r1, z0, z1⟩ := RR.out
      clear hw2 RR kT
      go_wp2
      refine bodyPost_ret (v := frV ((Utf8.encode d.r).data.toList, true)) (by rw [show frV ((Utf8.encode d.r).data.toList, true) = .agg #[.string (Utf8.encode d.r), .bool true] by unfold frV; rw [bA_enc]]; simp [results, Tryz.results15, go_sem, r0, r1]) rfl ⟨by rw [HE.out], HFW2.out _ _⟩
  have HE : frF cmC (m + 1) t = if (t []).kind = 3 then ([], false) else if (t []).kind = 4 then rowF (fun q => frF cmC m (kid t q)) (t []).kn else if (t []).kind = 5 then comF cmC (fun q => frF cmC m (kid t q)) ((t []).kn - 1) else if (t []).kind = 6 then repF (frF cmC m (kid t 0)) (t []).mn (t []).mx else if (t []).kind = 7 then frF cmC m (kid t 0) else ([], true) := by
    conv => lhs; unfold frF
    rw [if_neg k2]
  have t2 : ((t []).kind == 2) = false := by simpa using k2
  have HRR : Hid (∀ w2, Below W.heap.size W w2 → ∀ f : Fr, (w2.cell? ⟨w.heap.size + 1, 0, none⟩ = some (.string ⟨#[]⟩) ∧ w2.cell? ⟨w.heap.size + 1, 1, none⟩ = some (.bool false) ∧ w2.frozen? ⟨w.heap.size + 1, 0, none⟩ = false ∧ w2.frozen? ⟨w.heap.size + 1, 1, none⟩ = false)) := fun w2 b _ => HR.out w2 b
  by_cases k3 : (t []).kind = 3
  · rw [if_pos k3] at HE
    have HE' : Hid _ := HE
    have HFW := HFIN.out W
    have HFW2 : Hid (∀ (s : ByteArray) (X : Bool), Below w.heap.size w ((W.setCell ⟨w.heap.size + 1, 0, none⟩ (.string s)).setCell ⟨w.heap.size + 1, 1, none⟩ (.bool X))) := fun s X => HFW s X (Below.refl _ _)
    obtain ⟨d, hd⟩ : ∃ d, t [] = d := ⟨_, rfl⟩
    rw [hd] at HW q0 q1 q2 q3 q4 q5 q6 q7 q8 k3 t2 ⊢
    have t3 : (d.kind == 3) = true := by simpa using k3
    clear hnd hkn hk hkid hIH ht hb0 hr0 hT hW hkd htW hTW HR HRR HFIN HFW k2 k3 hw0 hl hd HE
    go_enter Tryz.func15, Tryz.ntmps15
    go_upto_region 1 with fail
    rw [← HW.out]
    go_wp2
    refine bodyPost_ret (v := frV ([], false)) (by simp [results, Tryz.results15, go_sem, r0, r1]) rfl ⟨by rw [HE'.out], HFW2.out _ _⟩
  rw [if_neg k3] at HE
  have t3 : ((t []).kind == 3) = false := by simpa using k3
  by_cases k4 : (t []).kind = 4
  · rw [if_pos k4] at HE
    have HE' : Hid _ := HE
    have kC := rowFront_any m hIH t W (fun j hj => ⟨hk j hj, hkid (fun e => by omega) j hj⟩) hkn htW hTW
    obtain ⟨f, hf⟩ : ∃ f, rowF (fun q => frF cmC m (kid t q)) (t []).kn = f := ⟨_, rfl⟩
    rw [hf] at HE' kC
    obtain ⟨gt, ge⟩ := f
    have HEQ : Hid (frF cmC (m + 1) t = (gt, ge)) := HE'
    obtain ⟨d, hd⟩ : ∃ d, t [] = d := ⟨_, rfl⟩
    rw [hd] at HW q0 q1 q2 q3 q4 q5 q6 q7 q8 k4 t2 t3 kC ⊢
    have t4 : (d.kind == 4) = true := by simpa using k4
    clear hnd hkn hk hkid hIH ht hb0 hr0 hT hW hkd htW hTW k2 k3 k4 hw0 hl hd HE hf HE' HR
    go_enter Tryz.func15, Tryz.ntmps15
    go_upto_region 1 with fail
    rw [← HW.out]
    go_wp2_with fail
    go_fit kC
    rintro e w2 ⟨rfl, b2⟩
    obtain ⟨r0, r1, z0, z1⟩ := HRR.out w2 b2 (gt, ge)
    have HFW2 : Hid _ := HFIN.out w2 (bA gt) ge b2
    clear b2 kC HRR HFIN
    go_wp2
    refine bodyPost_ret (v := frV (gt, ge)) (by simp [results, Tryz.results15, go_sem, r0, r1]) rfl ⟨by rw [HEQ.out], HFW2.out⟩
  rw [if_neg k4] at HE
  have t4 : ((t []).kind == 4) = false := by simpa using k4
  by_cases k5 : (t []).kind = 5
  · rw [if_pos k5] at HE
    have HE' : Hid _ := HE
    have kC := commonFront_any m hIH t W (fun j hj => ⟨hk j hj, hkid (fun e => by omega) j hj⟩) hkn (ndB_row hnd (.inr k5)) htW hTW
    obtain ⟨f, hf⟩ : ∃ f, comF cmC (fun q => frF cmC m (kid t q)) ((t []).kn - 1) = f := ⟨_, rfl⟩
    rw [hf] at HE' kC
    obtain ⟨gt, ge⟩ := f
    have HEQ : Hid (frF cmC (m + 1) t = (gt, ge)) := HE'
    obtain ⟨d, hd⟩ : ∃ d, t [] = d := ⟨_, rfl⟩
    rw [hd] at HW q0 q1 q2 q3 q4 q5 q6 q7 q8 k5 t2 t3 t4 kC ⊢
    have t5 : (d.kind == 5) = true := by simpa using k5
    clear hnd hkn hk hkid hIH ht hb0 hr0 hT hW hkd htW hTW k2 k3 k4 k5 hw0 hl hd HE hf HE' HR
    go_enter Tryz.func15, Tryz.ntmps15
    go_upto_region 1 with fail
    rw [← HW.out]
    go_wp2_with fail
    go_fit kC
    rintro e w2 ⟨rfl, b2⟩
    obtain ⟨r0, r1, z0, z1⟩ := HRR.out w2 b2 (gt, ge)
    have HFW2 : Hid _ := HFIN.out w2 (bA gt) ge b2
    clear b2 kC HRR HFIN
    go_wp2
    refine bodyPost_ret (v := frV (gt, ge)) (by simp [results, Tryz.results15, go_sem, r0, r1]) rfl ⟨by rw [HEQ.out], HFW2.out⟩
  rw [if_neg k5] at HE
  have t5 : ((t []).kind == 5) = false := by simpa using k5
  by_cases k6 : (t []).kind = 6
  · rw [if_pos k6] at HE
    have HE' : Hid _ := HE
    have kC := repeatFront_any m hIH t W hw0 hl k6 htW hTW
    obtain ⟨f, hf⟩ : ∃ f, repF (frF cmC m (kid t 0)) (t []).mn (t []).mx = f := ⟨_, rfl⟩
    rw [hf] at HE' kC
    obtain ⟨gt, ge⟩ := f
    have HEQ : Hid (frF cmC (m + 1) t = (gt, ge)) := HE'
    obtain ⟨d, hd⟩ : ∃ d, t [] = d := ⟨_, rfl⟩
    rw [hd] at HW q0 q1 q2 q3 q4 q5 q6 q7 q8 k6 t2 t3 t4 t5 kC ⊢
    have t6 : (d.kind == 6) = true := by simpa using k6
    clear hnd hkn hk hkid hIH ht hb0 hr0 hT hW hkd htW hTW k2 k3 k4 k5 k6 hw0 hl hd HE hf HE' HR
    go_enter Tryz.func15, Tryz.ntmps15
    go_upto_region 1 with fail
    rw [← HW.out]
    go_wp2_with fail
    go_fit kC
    rintro e w2 ⟨rfl, b2⟩
    obtain ⟨r0, r1, z0, z1⟩ := HRR.out w2 b2 (gt, ge)
    have HFW2 : Hid _ := HFIN.out w2 (bA gt) ge b2
    clear b2 kC HRR HFIN
    go_wp2
    refine bodyPost_ret (v := frV (gt, ge)) (by simp [results, Tryz.results15, go_sem, r0, r1]) rfl ⟨by rw [HEQ.out], HFW2.out⟩
  rw [if_neg k6] at HE
  have t6 : ((t []).kind == 6) = false := by simpa using k6
  by_cases k7 : (t []).kind = 7
  · rw [if_pos k7] at HE
    have HE' : Hid _ := HE
    have hk1 := ndB_grp hnd k7
    have kC := hIH (kid t 0) W (hk 0 (by omega)) (hkid (fun e => by omega) 0 (by omega)) (htW.kid 0 (by omega)) hTW
    change Calls Tryz.prog 15 #[ndV (t [0])] W _ at kC
    obtain ⟨f, hf⟩ : ∃ f, frF cmC m (kid t 0) = f := ⟨_, rfl⟩
    rw [hf] at HE' kC
    obtain ⟨gt, ge⟩ := f
    have HEQ : Hid (frF cmC (m + 1) t = (gt, ge)) := HE'
    obtain ⟨g1, o1, hka, hg1, hcs⟩ := htW.kids.at 0 (by omega)
    obtain ⟨p0, p1, p2, p3, p4, p5, p6, p7, p8⟩ := hcs
    simp only [Nat.zero_mul, Nat.add_zero] at p0 p1 p2 p3 p4 p5 p6 p7 p8
    rw [hka] at q8
    have hkI : 0 < ((t []).kn : Int) := by omega
    clear hk1 hka
    generalize t [0] = d0 at *
    obtain ⟨d, hd⟩ : ∃ d, t [] = d := ⟨_, rfl⟩
    rw [hd] at hkI HW q0 q1 q2 q3 q4 q5 q6 q7 q8 k7 t2 t3 t4 t5 t6 ⊢
    have t7 : (d.kind == 7) = true := by simpa using k7
    clear hnd hkn hk hkid hIH ht hb0 hr0 hT hW hkd htW hTW k2 k3 k4 k5 k6 k7 hw0 hl hd HE hf HE' HR
    go_enter Tryz.func15, Tryz.ntmps15
    go_upto_region 1 with fail
    rw [← HW.out]
    go_wp2_with fail
    go_fit kC
    rintro e w2 ⟨rfl, b2⟩
    obtain ⟨r0, r1, z0, z1⟩ := HRR.out w2 b2 (gt, ge)
    have HFW2 : Hid _ := HFIN.out w2 (bA gt) ge b2
    clear b2 kC HRR HFIN
    go_wp2
    refine bodyPost_ret (v := frV (gt, ge)) (by simp [results, Tryz.results15, go_sem, r0, r1]) rfl ⟨by rw [HEQ.out], HFW2.out⟩
  rw [if_neg k7] at HE
  have t7 : ((t []).kind == 7) = false := by simpa using k7
  have HE' : Hid _ := HE
  have HFW := HFIN.out W
  have HFW2 : Hid (∀ (s : ByteArray) (X : Bool), Below w.heap.size w ((W.setCell ⟨w.heap.size + 1, 0, none⟩ (.string s)).setCell ⟨w.heap.size + 1, 1, none⟩ (.bool X))) := fun s X => HFW s X (Below.refl _ _)
  obtain ⟨d, hd⟩ : ∃ d, t [] = d := ⟨_, rfl⟩
  rw [hd] at HW q0 q1 q2 q3 q4 q5 q6 q7 q8 t2 t3 t4 t5 t6 t7 ⊢
  clear hnd hkn hk hkid hIH ht hb0 hr0 hT hW hkd htW hTW HR HRR HFIN HFW k2 k3 k4 k5 k6 k7 hw0 hl hd HE
  go_enter Tryz.func15, Tryz.ntmps15
  go_upto_region 1 with fail
  rw [← HW.out]
  go_wp2
  refine bodyPost_ret (v := frV ([], true)) (by simp [results, Tryz.results15, go_sem, r0, r1]) rfl ⟨by rw [HE'.out], HFW2.out _ _⟩
theorem front_any : ∀ m, FrC m
  | 0 => fun _ _ h => by cases h
  | m + 1 => front_step m (front_any m)
end Go.Proofs.YtbciclnffokjjaaGreatDoor
/- Prefix. -/
namespace Go.Proofs.YtbciclnffokjjaaGreatDoor
open Go.RowKit Go.Lib

/-- What Prefix answers. -/
def preF (t : Tr) : List UInt8 := if 0 < sizF t ∧ sizF t ≤ 10000 then (frF cmC 8195 t).1 else []
set_option maxHeartbeats 1000000 in
set_option maxRecDepth 100000 in
theorem prefix_any (t : Tr) (w : World) (ht : Tat w.heap.size w t) (hT : Lib.Utf8Tabs 0 1 w) : Calls Tryz.prog 7 #[ndV (t [])] w fun e w' => e = .returned (.string (bA (preF t))) ∧ Below w.heap.size w w' := by
  have hsz := tabs_size hT
  have hb : Below w.heap.size w (w.alloc (ndX (t []))) := (Below.refl _ w).alloc (Nat.le_refl _) _
  have ht1 := (ht.below hb).mono hb.size
  have kH := hasProgram_any t _ ht1
  have HB : Hid _ := hb
  have hc := ndX_cells (w := w) (t []) (Below.refl _ _)
  by_cases h : 0 < sizF t ∧ sizF t ≤ 10000
  · have hp : preF t = (frF cmC 8195 t).1 := by unfold preF; rw [if_pos h]
    obtain ⟨hok, hlen, hsz2⟩ := sizF_ok (t := t) (by omega) h.2
    have hwf := WF_ok hok
    rw [decide_eq_true h.1, decide_eq_true h.2] at kH
    have HF : Hid (∀ w1, Below (w.alloc (ndX (t []))).heap.size (w.alloc (ndX (t []))) w1 → (Calls Tryz.prog 15 #[ndV (t [])] w1 fun e w' => e = .returned (frV (frF cmC 8195 t)) ∧ Below w1.heap.size w1 w') ∧ Cs w1 w.heap.size 0 (t []) ∧ Below w.heap.size w w1) := fun w1 b => ⟨front_any 8195 t w1 hwf (by omega) ((ht1.below b).mono b.size) (tabs_below (tabs_below hT hsz hb) (by simp; omega) b), hc.below b (by simp), hb.trans (b.mono hb.size)⟩
    rw [hp]
    clear ht ht1 hb hc hok hlen hsz2 hwf hp h
    obtain ⟨⟨ft, fe⟩, hf⟩ : ∃ f, frF cmC 8195 t = f := ⟨_, rfl⟩
    rw [hf] at HF ⊢
    clear hf
    generalize t [] = d at *
    go_enter Tryz.func7, Tryz.ntmps7
    go_wp2_with fail
    go_fit kH
    rintro e w1 ⟨rfl, b1⟩
    obtain ⟨kF, hc1, hb1⟩ := HF.out w1 b1
    have HB1 : Hid (Below w.heap.size w w1) := hb1
    obtain ⟨q0, q1, q2, q3, q4, q5, q6, q7, q8⟩ := hc1
    simp only [Nat.zero_add] at q0 q1 q2 q3 q4 q5 q6 q7 q8
    clear b1 hb1 HF kH
    go_wp2_with fail
    go_fit kF
    rintro e w2 ⟨rfl, b2⟩
    have HB2 : Hid _ := HB1.out.trans (b2.mono HB1.out.size)
    clear b2
    have hfl : ∀ w : World, Sem.run Tryz.prog (Instr.field 37 (frV (ft, fe)) 0) w = .ok (.string (bA ft)) w := fun _ => by kernel_rfl
    go_wp2
    go_ret
    exact ⟨rfl, HB2.out⟩
  · have hp : preF t = [] := by unfold preF; rw [if_neg h]
    rw [hp]
    have hd : (decide (0 < sizF t) && decide (sizF t ≤ 10000)) = false := by
      rw [Bool.and_eq_false_iff]
      by_cases h1 : 0 < sizF t
      · exact .inr (decide_eq_false (fun h2 => h ⟨h1, h2⟩))
      · exact .inl (decide_eq_false h1)
    rw [hd] at kH
    clear hd h hp ht ht1 hb hc
    generalize t [] = d at *
    go_enter Tryz.func7, Tryz.ntmps7
    go_wp2_with fail
    go_fit kH
    rintro e w1 ⟨rfl, b1⟩
    have B1 : Hid _ := HB.out.trans (b1.mono HB.out.size)
    clear b1
    go_wp2
    go_ret
    exact ⟨rfl, B1.out⟩
end Go.Proofs.YtbciclnffokjjaaGreatDoor
