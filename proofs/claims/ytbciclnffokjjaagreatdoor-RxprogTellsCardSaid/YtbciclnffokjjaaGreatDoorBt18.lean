/- A bundle of texts. -/
import Derived.Test.YtbciclnffokjjaaGreatDoorBt17
/- Words: repeatsOf, the walk. -/
namespace Go.Proofs.YtbciclnffokjjaaGreatDoor
open Go.RowKit

set_option maxHeartbeats 8000000 in
set_option maxRecDepth 100000 in
theorem repeatsOf_any (m : Nat) (hIH : WrC m) (t : Tr) (w : World) (hw : WF (m + 1) t) (hl : lenF (m + 1) t ≤ 10000) (h6 : (t []).kind = 6) (ht : Tat w.heap.size w t) :
    Calls Tryz.prog 30 #[ndV (t [])] w (NewP w (repS (wrdF m (kid t 0)) (t []).mn (t []).mx)) := by
  have hkid := lenF_kid hw hl
  obtain ⟨⟨hnd, _⟩, hkn, hk⟩ := hw
  obtain ⟨rm0, rm1, rm2, rmx⟩ := ndB_rep hnd h6
  obtain ⟨W, hW⟩ : ∃ W, W = (w.alloc (ndX (t []))).alloc (kX (.slice none 0 0) false) := ⟨_, rfl⟩
  have HW : Hid (W = (w.alloc (ndX (t []))).alloc (kX (.slice none 0 0) false)) := hW
  have hWz : W.heap.size = w.heap.size + 2 := by rw [hW]; simp
  have hb0 : Below w.heap.size w W := by rw [hW]; exact ((Below.refl _ w).alloc (Nat.le_refl _) _).alloc (by simp) _
  have hr0 : W.heap[w.heap.size + 1]? = some (kX (.slice none 0 0) false) := by rw [hW]; have := heap_alloc_new (w.alloc (ndX (t []))) (kX (.slice none 0 0) false); rwa [World.size_alloc] at this
  have hc := ndX_cells (w := w) (t []) (W := W) (by rw [hW]; exact (Below.refl _ _).alloc (Nat.le_refl _) _)
  have HR : Hid (∀ V, Kp (fun k => W.heap.size ≤ k) W V → Cs V w.heap.size 0 (t []) ∧ (V.cell? ⟨w.heap.size + 1, 0, none⟩ = some (.slice none 0 0) ∧ V.cell? ⟨w.heap.size + 1, 1, none⟩ = some (.bool false) ∧ V.frozen? ⟨w.heap.size + 1, 0, none⟩ = false ∧ V.frozen? ⟨w.heap.size + 1, 1, none⟩ = false) ∧ Below w.heap.size w V) := fun V k => by
    have b : Below W.heap.size W V := k.below (Nat.le_refl _) (fun i hi e => by omega)
    exact ⟨hc.below b (by omega), kx_cells ((b.block (w.heap.size + 1) (by omega)).trans hr0), hb0.trans (b.mono hb0.size)⟩
  have HPUT : Hid (∀ (V w2 : World) (v : Value) (mm : Bool) (r : Sto), W.heap.size ≤ V.heap.size → StV V.heap.size w2 v mm r → Kp (fun k => W.heap.size ≤ k) W w2 → NewP w r (.returned (kV v mm)) ((w2.setCell ⟨w.heap.size + 1, 0, none⟩ v).setCell ⟨w.heap.size + 1, 1, none⟩ (.bool mm))) := fun V w2 v mm r h1 h2 h3 => NewP.put (by omega) h2 (HR.out w2 h3).2.2 (by omega)
  obtain ⟨g1, o1, hka, hg1, hcs⟩ := (ht.below hb0).kids.at 0 (by omega)
  obtain ⟨p0, p1, p2, p3, p4, p5, p6, p7, p8⟩ := hcs
  simp only [Nat.zero_mul, Nat.add_zero] at p0 p1 p2 p3 p4 p5 p6 p7 p8
  have HKN : Hid ((t []).mx ≠ 0 → Calls Tryz.prog 14 #[ndV (t [0])] W (NewP W (wrdF m (kid t 0)))) := fun hx => hIH (kid t 0) W (hk 0 (by omega)) (hkid (fun e => hx e.2) 0 (by omega)) (((ht.below hb0).kid 0 (by omega)).mono hb0.size)
  have HFL : Hid ((t []).mx ≠ 0 → Szs (wrdF m (kid t 0)) 40000) := fun hx => by
    refine (wrd_size m (kid t 0) (hk 0 (by omega)) (hkid (fun e => hx e.2) 0 (by omega))).mono ?_
    have := hkid (fun e => hx e.2) 0 (by omega)
    omega
  have HOK : Hid ((wrdF m (kid t 0)).ok) := wrdF_ok m _
  obtain ⟨q0, q1, q2, q3, q4, q5, q6, q7, q8⟩ := hc
  simp only [Nat.zero_add] at q0 q1 q2 q3 q4 q5 q6 q7 q8
  obtain ⟨d, hd⟩ : ∃ d, t [] = d := ⟨_, rfl⟩
  rw [hd] at HW HR HKN HFL q0 q1 q2 q3 q4 q5 q6 q7 q8 rm0 rm1 rm2 rmx h6 hka ⊢
  rw [hka] at q8
  obtain ⟨K, hK⟩ : ∃ K, wrdF m (kid t 0) = K := ⟨_, rfl⟩
  rw [hK] at HKN HFL HOK ⊢
  have hknI : 0 < (d.kn : Int) := by omega
  clear h6 rm0 hnd hkn hk hkid hIH ht hb0 hr0 hK hW hka hd
  generalize t [0] = d0 at *
  by_cases hx : d.mx = 0
  · have HE : Hid (repS K d.mn d.mx = some [⟨#[]⟩]) := by unfold Hid repS; rw [if_pos hx]
    have kE := emptyText_any W
    have tx : (d.mx == 0) = true := by simpa using hx
    clear hx
    go_enter Tryz.func30, Tryz.ntmps30
    go_upto_region 1 with fail
    rw [← HW.out]
    go_wp2_with fail
    go_fit kE
    rintro e w1 ⟨⟨v, mm, rfl, hs⟩, b1⟩
    have k1 : Kp (fun k => W.heap.size ≤ k) W w1 := Kp.of b1
    obtain ⟨_, ⟨r0, r1, z0, z1⟩, _⟩ := HR.out w1 k1
    obtain ⟨fa, fn, fc, rfl, hf1, hf2⟩ := hs.form
    clear hf1 hf2
    have HP : Hid (NewP w (repS K d.mn d.mx) (.returned (kV (.slice fa fn fc) mm)) ((w1.setCell ⟨w.heap.size + 1, 0, none⟩ (.slice fa fn fc)).setCell ⟨w.heap.size + 1, 1, none⟩ (.bool mm))) := by unfold Hid; rw [HE.out]; exact HPUT.out W w1 _ _ _ (Nat.le_refl _) hs k1
    clear hs b1 k1 HPUT HR kE HKN
    go_wp2
    exact bodyPost_ret (v := kV (.slice fa fn fc) mm) (by simp [results, Tryz.results30, go_sem, r0, r1]) rfl HP.out
  · have tx : (d.mx == 0) = false := by simpa using hx
    have kN := HKN.out hx
    have HF : Hid (Szs K 40000) := HFL.out hx
    have HE : Hid (repS K d.mn d.mx = if grwS K = false then (if d.mn = 0 then some [⟨#[]⟩] else K) else if d.mx = -1 then none else powsS K d.mn.toNat (d.mx - d.mn).toNat) := by
      unfold Hid repS
      rw [if_neg hx]
    clear HKN HFL
    go_enter Tryz.func30, Tryz.ntmps30
    go_upto_region 1 with fail
    rw [← HW.out]
    go_wp2_with fail
    go_fit kN
    rintro e w1 ⟨⟨v0, m0, rfl, hs0⟩, b1⟩
    obtain ⟨fa, fn, fc, rfl, hf1, hf2⟩ := hs0.form
    clear hf1 hf2
    obtain ⟨V, hV⟩ : ∃ V, V = w1.alloc (kX (.slice fa fn fc) m0) := ⟨_, rfl⟩
    have HV : Hid (V = w1.alloc (kX (.slice fa fn fc) m0)) := hV
    have b1V : Below w1.heap.size w1 V := by rw [hV]; exact (Below.refl _ w1).alloc (Nat.le_refl _) _
    have hVz : V.heap.size = w1.heap.size + 1 := by rw [hV]; simp
    have bWV : Below W.heap.size W V := b1.trans (b1V.mono b1.size)
    have hkb : V.heap[w1.heap.size]? = some (kX (.slice fa fn fc) m0) := by rw [hV]; exact heap_alloc_new w1 _
    have hsV : StV W.heap.size V (.slice fa fn fc) m0 K := hs0.kp (Kp.of (M := fun _ => False) b1V) (fun _ _ => id)
    have hown : ∀ i, (Value.slice fa fn fc).ownBlock = some i → W.heap.size ≤ i ∧ i < w1.heap.size := hs0.own
    have kG := grows_any W.heap.size w1.heap.size (.slice fa fn fc) m0 K V hkb hsV HOK.out
    have HKV : Hid (∀ w2, Below V.heap.size V w2 → Kp (fun k => W.heap.size ≤ k) W w2) := fun w2 b => (Kp.of bWV).trans (Kp.of b)
    have HKB : Hid (∀ w2, Below V.heap.size V w2 → w2.heap[w1.heap.size]? = some (kX (.slice fa fn fc) m0) ∧ StV W.heap.size w2 (.slice fa fn fc) m0 K) := fun w2 b => ⟨(b.block _ (by omega)).trans hkb, hsV.kp (Kp.of (M := fun _ => False) b) (fun _ _ => id)⟩
    have HSZ : Hid (W.heap.size ≤ w1.heap.size ∧ V.heap.size = w1.heap.size + 1) := ⟨b1.size, hVz⟩
    have HOW : Hid (∀ i, (Value.slice fa fn fc).ownBlock = some i → W.heap.size ≤ i ∧ i < w1.heap.size) := hown
    clear hs0 b1 hV b1V hVz bWV hkb hsV hown kN
    go_upto_region 4 with fail
    rw [← HV.out]
    go_wp2_with fail
    go_fit kG
    rintro e w2 ⟨rfl, b2⟩
    obtain ⟨hc2, ⟨r0, r1, z0, z1⟩, _⟩ := HR.out w2 (HKV.out w2 b2)
    obtain ⟨c0, c1, c2, c3, c4, c5, c6, c7, c8⟩ := hc2
    simp only [Nat.zero_add] at c0 c1 c2 c3 c4 c5 c6 c7 c8
    obtain ⟨x0, x1, _, _⟩ := kx_cells (HKB.out w2 b2).1
    have HB2 : Hid (Below V.heap.size V w2) := b2
    clear b2 kG
    by_cases hg : grwS K = false
    · rw [hg] at HE ⊢
      rw [if_pos rfl] at HE
      by_cases hz : d.mn = 0
      · rw [if_pos hz] at HE
        have tz : (d.mn == 0) = true := by simpa using hz
        have kE := emptyText_any w2
        have HPX : Hid (∀ w3 v mm, StV w2.heap.size w3 v mm (some [⟨#[]⟩]) → Below w2.heap.size w2 w3 → (w3.cell? ⟨w.heap.size + 1, 0, none⟩ = some (.slice none 0 0) ∧ w3.cell? ⟨w.heap.size + 1, 1, none⟩ = some (.bool false) ∧ w3.frozen? ⟨w.heap.size + 1, 0, none⟩ = false ∧ w3.frozen? ⟨w.heap.size + 1, 1, none⟩ = false) ∧ NewP w (repS K d.mn d.mx) (.returned (kV v mm)) ((w3.setCell ⟨w.heap.size + 1, 0, none⟩ v).setCell ⟨w.heap.size + 1, 1, none⟩ (.bool mm))) := fun w3 v mm h1 h2 => by
          have hk3 := HKV.out w3 (btr2 HB2.out h2)
          exact ⟨(HR.out w3 hk3).2.1, by rw [HE.out]; exact HPUT.out w2 w3 v mm _ (by have := HSZ.out; have := HB2.out.size; omega) h1 hk3⟩
        clear hz HR HPUT HKV HKB r0 r1 z0 z1
        go_wp2_with fail
        go_fit kE
        rintro e w3 ⟨⟨v, mm, rfl, hs⟩, b3⟩
        obtain ⟨⟨r0, r1, z0, z1⟩, HP0⟩ := HPX.out w3 v mm hs b3
        obtain ⟨ga, gn, gc, rfl, hf1, hf2⟩ := hs.form
        have HP : Hid (NewP w (repS K d.mn d.mx) (.returned (kV (.slice ga gn gc) mm)) ((w3.setCell ⟨w.heap.size + 1, 0, none⟩ (.slice ga gn gc)).setCell ⟨w.heap.size + 1, 1, none⟩ (.bool mm))) := HP0
        clear hf1 hf2 hs b3 HPX kE HP0
        go_wp2
        exact bodyPost_ret (v := kV (.slice ga gn gc) mm) (by simp [results, Tryz.results30, go_sem, r0, r1]) rfl HP.out
      · rw [if_neg hz] at HE
        have tz : (d.mn == 0) = false := by simpa using hz
        have HP : Hid (NewP w (repS K d.mn d.mx) (.returned (kV (.slice fa fn fc) m0)) ((w2.setCell ⟨w.heap.size + 1, 0, none⟩ (.slice fa fn fc)).setCell ⟨w.heap.size + 1, 1, none⟩ (.bool m0))) := by unfold Hid; rw [HE.out]; exact HPUT.out W w2 _ _ _ (Nat.le_refl _) (HKB.out w2 HB2.out).2 (HKV.out w2 HB2.out)
        clear hz HR HPUT HKV HKB
        go_wp2
        exact bodyPost_ret (v := kV (.slice fa fn fc) m0) (by simp [results, Tryz.results30, go_sem, r0, r1]) rfl HP.out
    · have hg' : grwS K = true := by simpa using hg
      rw [hg'] at HE ⊢
      rw [if_neg (by decide)] at HE
      by_cases hm1 : d.mx = -1
      · rw [if_pos hm1] at HE
        have t1 : (d.mx == -1) = true := by simpa using hm1
        have HP : Hid (NewP w (repS K d.mn d.mx) (.returned (kV (.slice none 0 0) true)) ((w2.setCell ⟨w.heap.size + 1, 0, none⟩ (.slice none 0 0)).setCell ⟨w.heap.size + 1, 1, none⟩ (.bool true))) := by unfold Hid; rw [HE.out]; exact HPUT.out W w2 _ _ _ (Nat.le_refl _) (.inl ⟨rfl, rfl, rfl⟩) (HKV.out w2 HB2.out)
        clear hm1 HR HPUT HKV HKB hg hg' rmx
        go_wp2
        exact bodyPost_ret (v := kV (.slice none 0 0) true) (by simp [results, Tryz.results30, go_sem, r0, r1]) rfl HP.out
      · rw [if_neg hm1] at HE
        have t1 : (d.mx == -1) = false := by simpa using hm1
        have kE := emptyText_any w2
        have hmnx : d.mn ≤ d.mx ∧ d.mx ≤ 1000 := by omega
        obtain ⟨A, hA⟩ : ∃ A : Nat, d.mn = A := ⟨d.mn.toNat, by omega⟩
        obtain ⟨D, hD⟩ : ∃ D : Nat, d.mx - d.mn = D := ⟨(d.mx - d.mn).toNat, by omega⟩
        have HAD : Hid (d.mn.toNat = A ∧ (d.mx - d.mn).toNat = D ∧ A + D ≤ 1000) := ⟨by omega, by omega, by omega⟩
        have HAI : Hid (d.mn = A ∧ d.mx - d.mn = D) := ⟨hA, hD⟩
        rw [HAD.out.1, HAD.out.2.1] at HE
        obtain ⟨hmn1, hmn2⟩ := hmnx
        clear hm1 hg hg' rmx hA hD
        go_wp2_with fail
        go_fit kE
        rintro e w3 ⟨⟨v1, mm1, rfl, hs1⟩, b3⟩
        obtain ⟨ga, gn, gc, rfl, hf1, hf2⟩ := hs1.form
        clear hf1 hf2
        obtain ⟨V2, hV2⟩ : ∃ V2, V2 = w3.alloc (kX (.slice ga gn gc) mm1) := ⟨_, rfl⟩
        have HV2 : Hid (V2 = w3.alloc (kX (.slice ga gn gc) mm1)) := hV2
        have b3V : Below w3.heap.size w3 V2 := by rw [hV2]; exact (Below.refl _ w3).alloc (Nat.le_refl _) _
        have hV2z : V2.heap.size = w3.heap.size + 1 := by rw [hV2]; simp
        have bVV2 : Below V.heap.size V V2 := btr2 (btr2 HB2.out b3) b3V
        have hrb : V2.heap[w3.heap.size]? = some (kX (.slice ga gn gc) mm1) := by rw [hV2]; exact heap_alloc_new w3 _
        have HZ3 : Hid (W.heap.size ≤ w1.heap.size ∧ w1.heap.size < w3.heap.size ∧ V2.heap.size = w3.heap.size + 1) := ⟨HSZ.out.1, by have := HSZ.out.2; have := HB2.out.size; have := b3.size; omega, hV2z⟩
        have HL1 : Hid (∀ (M : Nat → Prop) (w' : World), (∀ j, M j → w3.heap.size ≤ j) → Kp M V2 w' → Cs w' w.heap.size 0 d ∧ (w'.cell? ⟨w.heap.size + 1, 0, none⟩ = some (.slice none 0 0) ∧ w'.cell? ⟨w.heap.size + 1, 1, none⟩ = some (.bool false) ∧ w'.frozen? ⟨w.heap.size + 1, 0, none⟩ = false ∧ w'.frozen? ⟨w.heap.size + 1, 1, none⟩ = false) ∧ (w'.cell? ⟨w1.heap.size, 0, none⟩ = some (.slice fa fn fc) ∧ w'.cell? ⟨w1.heap.size, 1, none⟩ = some (.bool m0)) ∧ StV W.heap.size w' (.slice fa fn fc) m0 K ∧ Kp (fun k => W.heap.size ≤ k) W w') := fun M w' hM k => by
          have z := HZ3.out
          have kk : Kp (fun k => W.heap.size ≤ k) W w' := (HKV.out V2 bVV2).trans' k (fun i _ hi => by have := hM i hi; omega)
          have h0 := HKB.out V2 bVV2
          have hkb : w'.heap[w1.heap.size]? = some (kX (.slice fa fn fc) m0) := (k.block _ (by omega) (fun e => by have := hM _ e; omega)).trans h0.1
          obtain ⟨y0, y1, _, _⟩ := kx_cells hkb
          exact ⟨(HR.out w' kk).1, (HR.out w' kk).2.1, ⟨y0, y1⟩, h0.2.kp k (fun i e hi => by have := hM _ hi; have := (HOW.out i e).2; omega), kk⟩
        have HR1 : Hid (RwI V2 w3.heap.size (powS K 0) V2 (.slice ga gn gc) mm1) := ⟨hrb, ⟨_, hs1.kp (Kp.of (M := fun _ => False) b3V) (fun _ _ => id)⟩, fun e => by have := (hs1.own _ e).2; omega⟩
        obtain ⟨hc3, _, ⟨x0, x1⟩, _, _⟩ := HL1.out (fun _ => False) V2 (fun _ h => h.elim) (Kp.refl _ _)
        obtain ⟨c0, c1, c2, c3, c4, c5, c6, c7, c8⟩ := hc3
        simp only [Nat.zero_add] at c0 c1 c2 c3 c4 c5 c6 c7 c8
        clear hs1 b3 b3V hV2 hV2z bVV2 hrb HR HKV HKB HB2 kE r0 r1 z0 z1
        go_upto_region 11 with fail
        rw [← HV2.out]
        go_wp2_with fail
        go_loopw [29] (fun ivv w' => ∃ i : Nat, ivv = .int .i64 (i : Int) ∧ i ≤ A ∧ Hid (∃ v mm, RwI V2 w3.heap.size (powS K i) w' v mm ∧ Kp (fun k => k = w3.heap.size) V2 w')) (fun ivv _ => A - (RowKit.intOf ivv).toNat)
        case atStart => exact ⟨0, rfl, Nat.zero_le _, _, _, HR1.out, Kp.refl _ _⟩
        case round =>
          obtain ⟨i, rfl, hi, hinv⟩ := hrel
          obtain ⟨v, mm, hrw, hkp⟩ := hinv.out
          obtain ⟨S, hst⟩ := hrw.st
          obtain ⟨ha, hn, hcc, hvf, hf1, hf2⟩ := hst.form
          clear hf1 hf2
          subst hvf
          obtain ⟨y0, y1, _, _⟩ := kx_cells hrw.box
          obtain ⟨hc4, _, ⟨e0, e1⟩, hkid, hkW⟩ := HL1.out _ wr (fun j hj => by have : j = w3.heap.size := hj; omega) hkp
          by_cases hlt : i < A
          · have hii : (i : Int) < d.mn := by have := HAI.out.1; omega
            have kJ := joined_any S W.heap.size (.slice ha hn hcc) (.slice fa fn fc) mm m0 (powS K i) K wr hst hkid (powS_ok K i) HOK.out (pow_sz HF.out i (by have := HAD.out.2.2; omega)) (HF.out.mono (by decide))
            have hRBl : w3.heap.size < wr.heap.size := (Array.getElem?_eq_some_iff.1 hrw.box).1
            have HNX : Hid (∀ w5 u n, StV wr.heap.size w5 u n (jnS (powS K i) K) → Below wr.heap.size wr w5 → w5.heap[w3.heap.size]? = some (kX (.slice ha hn hcc) mm) ∧ ∃ v mm, RwI V2 w3.heap.size (powS K (i + 1)) ((w5.setCell ⟨w3.heap.size, 0, none⟩ u).setCell ⟨w3.heap.size, 1, none⟩ (.bool n)) v mm ∧ Kp (fun k => k = w3.heap.size) V2 ((w5.setCell ⟨w3.heap.size, 0, none⟩ u).setCell ⟨w3.heap.size, 1, none⟩ (.bool n))) := fun w5 u n h1 h2 => ⟨(h2.block _ hRBl).trans hrw.box, u, n, hrw.next hRBl h1 h2, (hkp.trans (Kp.of h2)).trans kp_two⟩
            clear hinv hrw hkp hst hkid hkW hc4
            generalize jnS (powS K i) K = RR at *
            go_wp2_with fail
            go_fit kJ
            rintro e w5 ⟨⟨u, n5, rfl, s5⟩, b5⟩
            obtain ⟨hbx, HQ0⟩ := HNX.out w5 u n5 s5 b5
            obtain ⟨ua, un, uc, rfl, hf1, hf2⟩ := s5.form
            obtain ⟨y0, y1, z0, z1⟩ := kx_cells hbx
            have HQ : Hid _ := HQ0
            clear hf1 hf2 s5 b5 HNX kJ HQ0 hbx
            go_wp2
            exact ⟨⟨i + 1, by go_num, by omega, HQ⟩, by simp [RowKit.intOf]; omega⟩
          · have hiA : i = A := by omega
            have hii : ¬ (i : Int) < d.mn := by have := HAI.out.1; omega
            rw [hiA] at hrw hst
            have hRBl : w3.heap.size < wr.heap.size := (Array.getElem?_eq_some_iff.1 hrw.box).1
            obtain ⟨V3, hV3⟩ : ∃ V3, V3 = wr.alloc (kX (.slice none 0 0) false) := ⟨_, rfl⟩
            have HV3 : Hid (V3 = wr.alloc (kX (.slice none 0 0) false)) := hV3
            have hV3z : V3.heap.size = wr.heap.size + 1 := by rw [hV3]; simp
            have kV3 : Kp (fun _ => False) wr V3 := by rw [hV3]; exact (Kp.refl _ wr).alloc _
            have hOB : V3.heap[wr.heap.size]? = some (kX (.slice none 0 0) false) := by rw [hV3]; exact heap_alloc_new wr _
            have hzW : W.heap.size ≤ wr.heap.size := hkW.size
            have hRB3 : V3.heap[w3.heap.size]? = some (kX (.slice ha hn hcc) mm) := (kV3.block _ hRBl id).trans hrw.box
            have hst3 : StV S V3 (.slice ha hn hcc) mm (powS K A) := hst.kp kV3 (fun _ _ => id)
            have kA := addAll_any W.heap.size wr.heap.size (.slice none 0 0) (some []) S (.slice ha hn hcc) mm (powS K A) V3 (.inr ⟨[], rfl, hOB, rfl, .inl ⟨rfl, rfl⟩⟩) nil_ok (powS_ok K A) (by omega) hst3 (fun j e hj => by
              rcases hj with hj | hj
              · have := (hst.own j e).2; omega
              · cases hj)
            have kV23 : Kp (fun j => w3.heap.size ≤ j) V2 V3 := (hkp.mono (fun j _ e => by have : j = w3.heap.size := e; omega)).trans (kV3.mono (fun _ _ e => e.elim))
            have HL2 : Hid (∀ w', Kp (fun j => j = w3.heap.size ∨ j = wr.heap.size) V3 w' → Cs w' w.heap.size 0 d ∧ (w'.cell? ⟨w.heap.size + 1, 0, none⟩ = some (.slice none 0 0) ∧ w'.cell? ⟨w.heap.size + 1, 1, none⟩ = some (.bool false) ∧ w'.frozen? ⟨w.heap.size + 1, 0, none⟩ = false ∧ w'.frozen? ⟨w.heap.size + 1, 1, none⟩ = false) ∧ (w'.cell? ⟨w1.heap.size, 0, none⟩ = some (.slice fa fn fc) ∧ w'.cell? ⟨w1.heap.size, 1, none⟩ = some (.bool m0)) ∧ StV W.heap.size w' (.slice fa fn fc) m0 K ∧ Kp (fun k => W.heap.size ≤ k) W w') := fun w' k => HL1.out (fun j => w3.heap.size ≤ j) w' (fun _ h => h) (kV23.trans' k (fun j _ e => by rcases e with e | e <;> omega))
            have HI0 : Hid (∀ w5, AddP W.heap.size wr.heap.size (.slice none 0 0) (allS (some []) (powS K A)) V3 (.returned (.tuple #[])) w5 → ∃ v mm vo, RwI V3 w3.heap.size (powS K (A + 0)) w5 v mm ∧ SkV W.heap.size w5 wr.heap.size vo (powsS K A 0) ∧ Sub V3 (.slice none 0 0) vo ∧ Kp (fun j => j = w3.heap.size ∨ j = wr.heap.size) V3 w5) := fun w5 ⟨_, ⟨vo, s1, s2⟩, s3⟩ => by
              have hnm : ∀ j, j < wr.heap.size → ¬ Mv wr.heap.size (.slice none 0 0) j := fun j hj e => by
                rcases e with e | e
                · omega
                · cases e
              refine ⟨.slice ha hn hcc, mm, vo, ⟨(s3.block _ (by omega) (hnm _ hRBl)).trans hRB3, ⟨S, hst3.kp s3 (fun j e => hnm j (hst.own j e).2)⟩, hrw.ap⟩, s1, s2, s3.mono (fun j _ e => ?_)⟩
              rcases e with e | e
              · exact .inr e
              · cases e
            have HZ4 : Hid (w3.heap.size < wr.heap.size ∧ W.heap.size ≤ wr.heap.size ∧ V3.heap.size = wr.heap.size + 1) := ⟨hRBl, hzW, hV3z⟩
            obtain ⟨y0, y1, _, _⟩ := kx_cells hRB3
            obtain ⟨e0, e1, _, _⟩ := kx_cells hOB
            obtain ⟨hc5, _, ⟨_, _⟩, _, _⟩ := HL2.out V3 (Kp.refl _ _)
            obtain ⟨d0', d1', d2', d3', d4', d5', d6', d7', d8'⟩ := hc5
            simp only [Nat.zero_add] at d0' d1' d2' d3' d4' d5' d6' d7' d8'
            clear hinv hrw hkp hst hkid hkW hc4 hst3 kV3 kV23 hV3 hV3z hOB hRB3 hRBl hzW hiA HL1
            go_upto_region 16 with fail
            rw [← HV3.out]
            go_wp2_with fail
            go_fit kA
            rintro e w5 hp
            have he := hp.1
            subst he
            have HI1 : Hid _ := HI0.out w5 hp
            obtain ⟨_, _, _, _, _, _, hk5⟩ := HI1.out
            obtain ⟨hc6, _, _, _, _⟩ := HL2.out w5 hk5
            obtain ⟨f0, f1, f2, f3, f4, f5, f6, f7, f8⟩ := hc6
            simp only [Nat.zero_add] at f0 f1 f2 f3 f4 f5 f6 f7 f8
            clear hp kA HI0 hk5
            obtain ⟨w4, hw4⟩ : ∃ w4, w4 = wr := ⟨_, rfl⟩
            subst hw4
            go_wp2_with fail
            go_loopw [42] (fun ivv w' => ∃ k : Nat, ivv = .int .i64 (k : Int) ∧ k ≤ D ∧ Hid (∃ v mm vo, RwI V3 w3.heap.size (powS K (A + k)) w' v mm ∧ SkV W.heap.size w' w4.heap.size vo (powsS K A k) ∧ Sub V3 (.slice none 0 0) vo ∧ Kp (fun j => j = w3.heap.size ∨ j = w4.heap.size) V3 w')) (fun ivv _ => D - (RowKit.intOf ivv).toNat)
            case atStart => exact ⟨0, rfl, Nat.zero_le _, HI1⟩
            case round =>
              clear y0 y1 e0 e1 f0 f1 f2 f3 f4 f5 f6 f7 f8 d0' d1' d2' d3' d4' d5' d6' d7' d8' x0 x1 c0 c1 c2 c3 c4 c5 c6 c7 c8
              obtain ⟨k, rfl, hk, hinv⟩ := hrel
              obtain ⟨v, mm, vo, hrw, hsk, hsub, hkp⟩ := hinv.out
              obtain ⟨S2, hst⟩ := hrw.st
              obtain ⟨ja, jn, jc, hvf, hf1, hf2⟩ := hst.form
              clear hf1 hf2
              subst hvf
              obtain ⟨mo, hmo, hso⟩ := StV.of hsk
              obtain ⟨oa, on, oc, hvo, hf1, hf2⟩ := hso.form
              clear hf1 hf2
              subst hvo
              have hRBl : w3.heap.size < wr.heap.size := (Array.getElem?_eq_some_iff.1 hrw.box).1
              have hOBl : w4.heap.size < wr.heap.size := (Array.getElem?_eq_some_iff.1 hmo).1
              have hnoR : (Value.slice oa on oc).ownBlock ≠ some w3.heap.size := fun e => by
                have := hsub _ e (by have := HZ4.out; omega)
                cases this
              obtain ⟨y0, y1, _, _⟩ := kx_cells hrw.box
              obtain ⟨e0, e1, _, _⟩ := kx_cells hmo
              obtain ⟨hc4, ⟨r0, r1, z0, z1⟩, ⟨x0, x1⟩, hkid, hkW⟩ := HL2.out wr hkp
              by_cases hlt : k < D
              · have hii : (k : Int) < d.mx - d.mn := by have := HAI.out.2; omega
                have kJ := joined_any S2 W.heap.size (.slice ja jn jc) (.slice fa fn fc) mm m0 (powS K (A + k)) K wr hst hkid (powS_ok K (A + k)) HOK.out (pow_sz HF.out (A + k) (by have := HAD.out.2.2; omega)) (HF.out.mono (by decide))
                have HNX : Hid (∀ w5 u n, StV wr.heap.size w5 u n (jnS (powS K (A + k)) K) → Below wr.heap.size wr w5 → w5.heap[w3.heap.size]? = some (kX (.slice ja jn jc) mm) ∧ Calls Tryz.prog 29 #[.pointer (some ⟨w4.heap.size, 0, none⟩), kV u n] ((w5.setCell ⟨w3.heap.size, 0, none⟩ u).setCell ⟨w3.heap.size, 1, none⟩ (.bool n)) (fun e w7 => e = .returned (.tuple #[]) ∧ Hid (∃ v mm vo, RwI V3 w3.heap.size (powS K (A + (k + 1))) w7 v mm ∧ SkV W.heap.size w7 w4.heap.size vo (powsS K A (k + 1)) ∧ Sub V3 (.slice none 0 0) vo ∧ Kp (fun j => j = w3.heap.size ∨ j = w4.heap.size) V3 w7))) := fun w5 u n h1 h2 => by
                  have z := HZ4.out
                  have hnx := hrw.next hRBl h1 h2
                  have hk6 : Kp (fun j => j = w3.heap.size) wr ((w5.setCell ⟨w3.heap.size, 0, none⟩ u).setCell ⟨w3.heap.size, 1, none⟩ (.bool n)) := (Kp.of h2).trans kp_two
                  have hsu : StV wr.heap.size ((w5.setCell ⟨w3.heap.size, 0, none⟩ u).setCell ⟨w3.heap.size, 1, none⟩ (.bool n)) u n (jnS (powS K (A + k)) K) := h1.kp kp_two (fun i e hi => by have := (h1.own i e).1; have hi' : i = w3.heap.size := hi; omega)
                  have hap : ∀ i, u.ownBlock = some i → ¬ Mv w4.heap.size (.slice oa on oc) i := fun i e hm => by
                    have h3 := (h1.own i e).1
                    rcases hm with hm | hm
                    · omega
                    · have := (hso.own i hm).2; omega
                  refine ⟨(h2.block _ hRBl).trans hrw.box, (addAll_any W.heap.size w4.heap.size (.slice oa on oc) (powsS K A k) wr.heap.size u n (jnS (powS K (A + k)) K) _ (hsk.kp hk6 (fun e => by have e' : w4.heap.size = w3.heap.size := e; omega) (fun i e hi => hnoR (by rw [← (show i = w3.heap.size from hi)]; exact e))) (powsS_ok K A k) (jnS_ok _ _) (by have := hk6.size; have := hkW.size; omega) hsu hap).mono fun e w7 ⟨q1, ⟨v', q2, q3⟩, q4⟩ => ⟨q1, ?_⟩⟩
                  have hnR : ¬ Mv w4.heap.size (.slice oa on oc) w3.heap.size := fun hm => by
                    rcases hm with hm | hm
                    · omega
                    · exact hnoR hm
                  refine ⟨u, n, v', ⟨(q4.block _ (by have := hk6.size; omega) hnR).trans hnx.box, ⟨_, hsu.kp q4 hap⟩, hnx.ap⟩, q2, hsub.trans q3 (by have := hkp.size; have := hk6.size; omega), ?_⟩
                  refine (hkp.trans' hk6 (fun i _ e => .inl e)).trans' q4 (fun i hi e => ?_)
                  rcases e with e | e
                  · exact .inr e
                  · have := hsub i e hi
                    cases this
                clear hinv hrw hkp hst hkid hkW hc4 hsk hsub hso hmo
                generalize jnS (powS K (A + k)) K = RR at *
                go_wp2_with fail
                go_fit kJ
                rintro e w5 ⟨⟨u, n5, rfl, s5⟩, b5⟩
                obtain ⟨hbx, HQ0⟩ := HNX.out w5 u n5 s5 b5
                obtain ⟨ua, un, uc, rfl, hf1, hf2⟩ := s5.form
                obtain ⟨y0, y1, z0, z1⟩ := kx_cells hbx
                clear hf1 hf2 s5 b5 HNX kJ hbx
                go_wp2_with fail
                go_fit HQ0
                rintro e w7 ⟨rfl, HQ⟩
                go_wp2
                exact ⟨⟨k + 1, by go_num, by omega, HQ⟩, by simp [RowKit.intOf]; omega⟩
              · have hkD : k = D := by omega
                have hii : ¬ (k : Int) < d.mx - d.mn := by have := HAI.out.2; omega
                rw [hkD] at hso
                have HP : Hid (NewP w (repS K d.mn d.mx) (.returned (kV (.slice oa on oc) mo)) ((wr.setCell ⟨w.heap.size + 1, 0, none⟩ (.slice oa on oc)).setCell ⟨w.heap.size + 1, 1, none⟩ (.bool mo))) := by unfold Hid; rw [HE.out]; exact HPUT.out W wr _ _ _ (Nat.le_refl _) hso hkW
                clear hinv hrw hkp hst hkid hkW hc4 hsk hsub hso hmo HPUT
                go_wp2
                exact bodyPost_ret (v := kV (.slice oa on oc) mo) (by simp [results, Tryz.results30, go_sem, r0, r1]) rfl HP.out
end Go.Proofs.YtbciclnffokjjaaGreatDoor
