/- A bundle of texts. -/
import Derived.Test.YtajaadagejhllaaGreatDoorBs15
/- Show: a node's kids. -/
namespace Go.Proofs.YtajaadagejhllaaGreatDoor
open Go.RowKit Go.Lib

theorem app_nil (T : ByteArray) : T ++ ⟨#[]⟩ = T := ByteArray.append_empty
theorem nil_size : (⟨#[]⟩ : ByteArray).size = 0 := rfl
theorem Wr.re {S B : Nat} {v v1 : Value} {w w1 w2 : World} {T X : ByteArray} {e : Ending} (h : Wr S B v1 w1 T X e w2) (s : Sub w v v1) (k : Kp (Mv B v) w w1) : Wr S B v w T X e w2 := by
  rcases h with ⟨a, b, c⟩ | ⟨a, b, c⟩
  · exact .inl ⟨a, b, c.re s k⟩
  · exact .inr ⟨a, b, k.next s c⟩
theorem Wq.use {S B : Nat} {v : Value} {w w1 : World} {T X : ByteArray} {f : Nat} {args : Array Value} (h : Wq S B v w T w1) (H : ∀ v1, Wt S w1 B v1 T → Calls Tryz.prog f args w1 fun e w2 => Wr S B v1 w1 T X e w2) : Calls Tryz.prog f args w1 fun e w2 => Wr S B v w T X e w2 := by
  obtain ⟨v1, a, s, k⟩ := h
  exact (H v1 a).mono fun e w2 h => h.re s k
/-- What a node's text asks of the tree. -/
def NW (S B m : Nat) : Prop := ∀ (t : Tr) (T : ByteArray) (v : Value) (w : World), Wt S w B v T → S ≤ w.heap.size → T.size ≤ 4096 → Tat S w t → TbA S w → WF m t →
  Calls Tryz.prog 53 #[.pointer (some ⟨B, 0, none⟩), ndV (t [])] w fun e w' => Wr S B v w T (tx m t) e w'
theorem txK_le (F : Tr → ByteArray) (t : Tr) (s : ByteArray) {n : Nat} : ∀ {i : Nat}, i ≤ n → (txK F t s i).size ≤ (txK F t s n).size := by
  induction n with
  | zero => intro i hi; obtain rfl : i = 0 := by omega
            exact Nat.le_refl _
  | succ n ih =>
    intro i hi
    by_cases h : i = n + 1
    · rw [h]; exact Nat.le_refl _
    · have := ih (i := i) (by omega)
      show _ ≤ ((txK F t s n ++ _) ++ _).size
      rw [ByteArray.size_append, ByteArray.size_append]
      omega

set_option maxHeartbeats 8000000 in
set_option maxRecDepth 100000 in
theorem kids_any (S B m : Nat) (v : Value) (w : World) (T s : ByteArray) (t : Tr) (hIH : NW S B m) (hv : Wt S w B v T) (hS : S ≤ w.heap.size) (hT : T.size ≤ 4096) (ht : Tat S w t) (hA : TbA S w) (hwf : ∀ j, j < (t []).kn → WF m (kid t j)) :
    Calls Tryz.prog 72 #[.pointer (some ⟨B, 0, none⟩), ndV (t []), .string s] w fun e w' => Wr S B v w T (txK (tx m) t s (t []).kn) e w' := by
  have hb0 : Below w.heap.size w (w.alloc (ndX (t []))) := (Below.refl _ w).alloc (Nat.le_refl _) _
  have hcs := ndX_cells (w := w) (t []) (Below.refl _ _)
  have hv0 := hv.below hb0
  have ht0 := ht.below (hb0.mono hS)
  have hA0 := hA.below (hb0.mono hS)
  have hG : ¬ Mv B v w.heap.size := fun e => by have := (hv.base _ e).2; omega
  have hnode := ht.node
  obtain ⟨W0, hW0⟩ : ∃ W0, W0 = w.alloc (ndX (t [])) := ⟨_, rfl⟩
  have HW0 : Hid (W0 = w.alloc (ndX (t []))) := hW0
  obtain ⟨G, hGG⟩ : ∃ G, G = w.heap.size := ⟨_, rfl⟩
  have HG : Hid (G = w.heap.size) := hGG
  rw [← hW0] at hb0 hcs hv0 ht0 hA0
  rw [← hGG] at hcs hG
  have HB : Hid (Bs S B v W0) := hv0.bs (Nat.le_trans hS hb0.size)
  have HA : Hid (TbA S W0) := hA0
  have HT : Hid (Tat S W0 t) := ht0
  have HQ0 : Hid (Wq S B v W0 T W0) := hv0.q
  have HC : Hid (∀ w', Kp (Mv B v) W0 w' → w'.cell? ⟨G, 0, none⟩ = some (.int .i64 (t []).kind)) := fun w' k => k.cell hcs.c0 hG
  have HF : Hid (∀ X e w', Wr S B v W0 T X e w' → Wr S B v w T X e w') := fun X e w' h => h.re (Sub.refl _ _) (Kp.of hb0)
  have HWF : Hid (∀ j, j < (t []).kn → WF m (kid t j)) := hwf
  have IH : Hid (NW S B m) := hIH
  have H1 : Hid (∀ i, i ≤ (t []).kn → (txK (tx m) t s i).size ≤ (txK (tx m) t s (t []).kn).size) := fun i hi => txK_le _ _ _ hi
  have HTs : Hid (T.size ≤ 4096) := hT
  have HS0 : Hid (S ≤ W0.heap.size) := Nat.le_trans hS hb0.size
  obtain ⟨N, hN⟩ : ∃ N, (t []).kn = N := ⟨_, rfl⟩
  have HN : Hid ((t []).kn = N) := hN
  have hNb : (N : Int) ≤ 140737488351232 := by rw [← hN]; omega
  obtain ⟨KA, hKA⟩ : ∃ KA, (t []).ka = KA := ⟨_, rfl⟩
  have HKA : Hid ((t []).ka = KA) := hKA
  have e8 := hcs.c8
  simp only [Nat.zero_add] at e8
  rw [hN, hKA] at e8
  have HD : Hid (∃ d, t [] = d) := ⟨_, rfl⟩
  obtain ⟨d, hd⟩ := HD.out
  have HDD : Hid (t [] = d) := hd
  rw [hN] at H1 HWF
  rw [hd] at HW0 HC
  clear hv ht hA hwf hIH hb0 hcs hv0 ht0 hA0 hG hnode hW0 hGG hN hKA HD hT hS
  rw [hd]
  have hdn : d.kn = N := by rw [← hd]; exact HN.out
  rw [hdn]
  have HDN : Hid (d.kn = N ∧ d.ka = KA) := ⟨hdn, by rw [← hd]; exact HKA.out⟩
  clear hd hdn
  go_enter Tryz.func72, Tryz.ntmps72
  go_upto_region 1 with fail
  rw [← HW0.out, ← HG.out]
  go_wp2_with fail
  go_loopw [11] (fun ivv w' => ∃ i : Nat, ivv = .int .i64 (i : Int) ∧ i ≤ N ∧ Hid (Wq S B v W0 (T ++ txK (tx m) t s i) w') ∧ Hid (T.size + (txK (tx m) t s i).size ≤ 4096)) (fun ivv _ => N - (RowKit.intOf ivv).toNat)
  case atStart => exact ⟨0, rfl, by omega, by unfold Hid; rw [show txK (tx m) t s 0 = ⟨#[]⟩ from rfl, app_nil]; exact HQ0.out, by have := HTs.out; unfold Hid; rw [show txK (tx m) t s 0 = ⟨#[]⟩ from rfl, nil_size]; exact this⟩
  case round =>
    clear e8
    obtain ⟨i, rfl, hi, hI, hZ⟩ := hrel
    by_cases hlt : i < N
    · have hii : (i : Int) < N := by omega
      obtain ⟨v', hwt, hsub, hkp⟩ := hI.out
      have htr := HT.out.below (HB.out.below hkp)
      obtain ⟨g1, o1, hka, hg1, hcs⟩ := htr.kids.at i (by rw [HN.out]; exact hlt)
      have hgc := HC.out wr hkp
      have hal : Below wr.heap.size wr (wr.alloc (ndX (t [i]))) := (Below.refl _ wr).alloc (Nat.le_refl _) _
      have hcl := ndX_cells (w := wr) (t [i]) (Below.refl _ _)
      have hwt2 := hwt.below hal
      have hR : ¬ Mv B v' wr.heap.size := fun e => by have := (hwt.base _ e).2; omega
      obtain ⟨R, hRR⟩ : ∃ R, R = wr.heap.size := ⟨_, rfl⟩
      obtain ⟨W, hW⟩ : ∃ W, W = wr.alloc (ndX (t [i])) := ⟨_, rfl⟩
      have HW : Hid (W = wr.alloc (ndX (t [i]))) := hW
      have HRR : Hid (R = wr.heap.size) := hRR
      rw [← hW] at hal hcl hwt2
      rw [← hRR] at hcl hR
      have kp2 : Kp (Mv B v) W0 W := hkp.trans (Kp.of hal)
      have hbs : Bs S B v' W := hwt2.bs (Nat.le_trans HB.out.sz kp2.size)
      have tba : TbA S W := HA.out.below (HB.out.below kp2)
      have HTK : Hid (∀ w5, Kp (Mv B v') W w5 → Tat S w5 (kid t i) ∧ TbA S w5 ∧ S ≤ w5.heap.size) := fun w5 k5 => ⟨((HT.out.below (HB.out.below kp2)).below (hbs.below k5)).kid i (by rw [HN.out]; exact hlt), tba.below (hbs.below k5), Nat.le_trans hbs.sz k5.size⟩
      have HQ : Hid (Wq S B v' W (T ++ txK (tx m) t s i) W) := hwt2.q
      have HBS : Hid (Bs S B v' W) := hbs
      have HCL : Hid (∀ w5, Kp (Mv B v') W w5 → Cs w5 R 0 (t [i])) := fun w5 k5 => hcl.kp k5 hR
      have HRE : Hid (∀ X w5, Wq S B v' W X w5 → Wq S B v W0 X w5) := fun X w5 h => h.re hsub kp2
      have HKR : Hid (∀ w5, Kp (Mv B v') W w5 → Kp (Mv B v) W0 w5) := fun w5 h => kp2.next hsub h
      have HTi : Hid ((T ++ txK (tx m) t s i).size ≤ 4096) := app_le hZ.out
      have HWK : Hid (WF m (kid t i)) := HWF.out i hlt
      have kBr := fun W => bracketed_any d.kind (t [i]).kind W
      have HXS : Hid (txK (tx m) t s (i + 1) = (txK (tx m) t s i ++ (if i = 0 then ⟨#[]⟩ else s)) ++ (if brB d.kind (t [i]).kind = true then ((⟨#[40, 63, 58]⟩ : ByteArray) ++ tx m (kid t i)) ++ ⟨#[41]⟩ else tx m (kid t i))) := by unfold Hid; rw [← HDD.out]; rfl
      have HNV : Hid (ndV ((kid t i) []) = ndV (t [i])) := rfl
      rw [HKA.out] at hka
      cases hka
      obtain ⟨p0, p1, p2, p3, p4, p5, p6, p7, p8⟩ := hcs
      have HKN : Hid (∀ T5 w5, Wq S B v' W T5 w5 → T5.size ≤ 4096 → Calls Tryz.prog 53 #[.pointer (some ⟨B, 0, none⟩), ndV (t [i])] w5 fun e w' => Wr S B v' W T5 (tx m (kid t i)) e w') := fun T5 w5 q hT5 => q.use fun v1 a => IH.out (kid t i) T5 v1 w5 a (HTK.out w5 q.kp).2.2 hT5 (HTK.out w5 q.kp).1 (HTK.out w5 q.kp).2.1 HWK.out
      clear hwt hsub hkp htr hal hwt2 hR kp2 hbs tba hW hRR hcl hgc
      generalize hdk : t [i] = dk at *
      clear hdk
      go_upto_region 4 with fail
      rw [← HW.out, ← HRR.out]
      by_cases hi0 : i = 0
      · have HI0 : Hid (i = 0) := hi0
        have hgt : ¬ (0 : Int) < (i : Int) := by omega
        clear p0 p1 p2 p3 p4 p5 p6 p7 p8
        have hcs5 := HCL.out _ HQ.out.kp
        obtain ⟨p0, p1, p2, p3, p4, p5, p6, p7, p8⟩ := hcs5
        simp only [Nat.zero_add] at p0 p1 p2 p3 p4 p5 p6 p7 p8
        have hgc := HC.out _ (HKR.out _ HQ.out.kp)
        cases hb : brB d.kind dk.kind
        · have HBB : Hid (brB d.kind dk.kind = false) := hb
          simp only [hb] at kBr
          have k6 := HKN.out _ _ HQ.out (HTi.out)
          clear hb
          go_wp2_with (go_at_call 68; go_fit (kBr _); rintro e w' ⟨rfl, hw⟩; obtain rfl := hw.symm)
          go_fit k6
          rintro e w6 h
          rcases h with ⟨h1, rfl, h2⟩ | ⟨h1, rfl, h2⟩
          · have Z6 : Hid ((T ++ txK (tx m) t s i).size + (tx m (kid t i)).size ≤ 4096) := h1
            have Q6 : Hid (Wq S B v' W ((T ++ txK (tx m) t s i) ++ tx m (kid t i)) w6) := h2
            have k2' := h2.kp
            clear h1 h2 k6
            go_wp2_with fail
            refine ⟨⟨i + 1, by go_num, by omega, ?_, ?_⟩, by simp [RowKit.intOf]; omega⟩
            · have h9 := HRE.out _ _ Q6.out
              unfold Hid
              rw [HXS.out, if_pos HI0.out, HBB.out, if_neg Bool.false_ne_true]
              simpa only [ByteArray.append_assoc, app_nil] using h9
            · have h9 := Z6.out
              unfold Hid
              rw [HXS.out, if_pos HI0.out, HBB.out, if_neg Bool.false_ne_true]
              have hnl := nil_size
              simp only [ByteArray.size_append] at h9 ⊢
              omega
          · have Z6 : Hid (¬ (T ++ txK (tx m) t s i).size + (tx m (kid t i)).size ≤ 4096) := h1
            have Q6 : Hid (Kp (Mv B v') W w6) := h2
            clear h1 h2 k6
            go_wp2
            refine ⟨rfl, HF.out _ _ _ (.inr ⟨?_, rfl, HKR.out _ Q6.out⟩)⟩
            have h2 := Z6.out
            have h3 := H1.out (i + 1) (by omega)
            rw [HXS.out, if_pos HI0.out, HBB.out, if_neg Bool.false_ne_true] at h3
            have hnl := nil_size
            simp only [ByteArray.size_append] at h2 h3
            omega
        · have HBB : Hid (brB d.kind dk.kind = true) := hb
          simp only [hb] at kBr
          have k6 := HQ.out.put HBS.out (HTi.out) ⟨#[40, 63, 58]⟩
          clear hb
          go_wp2_with (go_at_call 68; go_fit (kBr _); rintro e w' ⟨rfl, hw⟩; obtain rfl := hw.symm)
          go_fit k6
          rintro e w6 h
          rcases h with ⟨h1, rfl, h2⟩ | ⟨h1, rfl, h2⟩
          · have Z6 : Hid ((T ++ txK (tx m) t s i).size + ((⟨#[40, 63, 58]⟩ : ByteArray)).size ≤ 4096) := h1
            have Q6 : Hid (Wq S B v' W ((T ++ txK (tx m) t s i) ++ (⟨#[40, 63, 58]⟩ : ByteArray)) w6) := h2
            have k2' := h2.kp
            clear h1 h2 k6
            clear p0 p1 p2 p3 p4 p5 p6 p7 p8 hgc
            have hcs5 := HCL.out _ k2'
            obtain ⟨p0, p1, p2, p3, p4, p5, p6, p7, p8⟩ := hcs5
            simp only [Nat.zero_add] at p0 p1 p2 p3 p4 p5 p6 p7 p8
            clear k2'
            have k7 := HKN.out _ _ Q6.out (app_le Z6.out)
            go_wp2_with fail
            go_fit k7
            rintro e w7 h
            rcases h with ⟨h1, rfl, h2⟩ | ⟨h1, rfl, h2⟩
            · have Z7 : Hid (((T ++ txK (tx m) t s i) ++ (⟨#[40, 63, 58]⟩ : ByteArray)).size + (tx m (kid t i)).size ≤ 4096) := h1
              have Q7 : Hid (Wq S B v' W (((T ++ txK (tx m) t s i) ++ (⟨#[40, 63, 58]⟩ : ByteArray)) ++ tx m (kid t i)) w7) := h2
              have k2' := h2.kp
              clear h1 h2 k7
              have k8 := Q7.out.put HBS.out (app_le Z7.out) ⟨#[41]⟩
              clear p0 p1 p2 p3 p4 p5 p6 p7 p8
              go_wp2_with fail
              go_fit k8
              rintro e w8 h
              rcases h with ⟨h1, rfl, h2⟩ | ⟨h1, rfl, h2⟩
              · have Z8 : Hid ((((T ++ txK (tx m) t s i) ++ (⟨#[40, 63, 58]⟩ : ByteArray)) ++ tx m (kid t i)).size + ((⟨#[41]⟩ : ByteArray)).size ≤ 4096) := h1
                have Q8 : Hid (Wq S B v' W ((((T ++ txK (tx m) t s i) ++ (⟨#[40, 63, 58]⟩ : ByteArray)) ++ tx m (kid t i)) ++ (⟨#[41]⟩ : ByteArray)) w8) := h2
                have k2' := h2.kp
                clear h1 h2 k8
                go_wp2_with fail
                refine ⟨⟨i + 1, by go_num, by omega, ?_, ?_⟩, by simp [RowKit.intOf]; omega⟩
                · have h9 := HRE.out _ _ Q8.out
                  unfold Hid
                  rw [HXS.out, if_pos HI0.out, HBB.out, if_pos rfl]
                  simpa only [ByteArray.append_assoc, app_nil] using h9
                · have h9 := Z8.out
                  unfold Hid
                  rw [HXS.out, if_pos HI0.out, HBB.out, if_pos rfl]
                  have hnl := nil_size
                  simp only [ByteArray.size_append] at h9 ⊢
                  omega
              · have Z8 : Hid (¬ (((T ++ txK (tx m) t s i) ++ (⟨#[40, 63, 58]⟩ : ByteArray)) ++ tx m (kid t i)).size + ((⟨#[41]⟩ : ByteArray)).size ≤ 4096) := h1
                have Q8 : Hid (Kp (Mv B v') W w8) := h2
                clear h1 h2 k8
                go_wp2
                refine ⟨rfl, HF.out _ _ _ (.inr ⟨?_, rfl, HKR.out _ Q8.out⟩)⟩
                have h2 := Z8.out
                have h3 := H1.out (i + 1) (by omega)
                rw [HXS.out, if_pos HI0.out, HBB.out, if_pos rfl] at h3
                have hnl := nil_size
                simp only [ByteArray.size_append] at h2 h3
                omega
            · have Z7 : Hid (¬ ((T ++ txK (tx m) t s i) ++ (⟨#[40, 63, 58]⟩ : ByteArray)).size + (tx m (kid t i)).size ≤ 4096) := h1
              have Q7 : Hid (Kp (Mv B v') W w7) := h2
              clear h1 h2 k7
              go_wp2
              refine ⟨rfl, HF.out _ _ _ (.inr ⟨?_, rfl, HKR.out _ Q7.out⟩)⟩
              have h2 := Z7.out
              have h3 := H1.out (i + 1) (by omega)
              rw [HXS.out, if_pos HI0.out, HBB.out, if_pos rfl] at h3
              have hnl := nil_size
              simp only [ByteArray.size_append] at h2 h3
              omega
          · have Z6 : Hid (¬ (T ++ txK (tx m) t s i).size + ((⟨#[40, 63, 58]⟩ : ByteArray)).size ≤ 4096) := h1
            have Q6 : Hid (Kp (Mv B v') W w6) := h2
            clear h1 h2 k6
            go_wp2
            refine ⟨rfl, HF.out _ _ _ (.inr ⟨?_, rfl, HKR.out _ Q6.out⟩)⟩
            have h2 := Z6.out
            have h3 := H1.out (i + 1) (by omega)
            rw [HXS.out, if_pos HI0.out, HBB.out, if_pos rfl] at h3
            have hnl := nil_size
            simp only [ByteArray.size_append] at h2 h3
            omega
      · have HI0 : Hid (¬ i = 0) := hi0
        have hgt : (0 : Int) < (i : Int) := by omega
        clear p0 p1 p2 p3 p4 p5 p6 p7 p8
        have k3 := HQ.out.put HBS.out HTi.out s
        go_wp2_with fail
        go_fit k3
        rintro e w3 h
        rcases h with ⟨h1, rfl, h2⟩ | ⟨h1, rfl, h2⟩
        · have Z3 : Hid ((T ++ txK (tx m) t s i).size + (s).size ≤ 4096) := h1
          have Q3 : Hid (Wq S B v' W ((T ++ txK (tx m) t s i) ++ s) w3) := h2
          have k2' := h2.kp
          clear h1 h2 k3
          have hcs5 := HCL.out _ k2'
          obtain ⟨p0, p1, p2, p3, p4, p5, p6, p7, p8⟩ := hcs5
          simp only [Nat.zero_add] at p0 p1 p2 p3 p4 p5 p6 p7 p8
          have hgc := HC.out _ (HKR.out _ k2')
          clear k2'
          cases hb : brB d.kind dk.kind
          · have HBB : Hid (brB d.kind dk.kind = false) := hb
            simp only [hb] at kBr
            have k6 := HKN.out _ _ Q3.out (app_le Z3.out)
            clear hb
            go_wp2_with (go_at_call 68; go_fit (kBr _); rintro e w' ⟨rfl, hw⟩; obtain rfl := hw.symm)
            go_fit k6
            rintro e w6 h
            rcases h with ⟨h1, rfl, h2⟩ | ⟨h1, rfl, h2⟩
            · have Z6 : Hid (((T ++ txK (tx m) t s i) ++ s).size + (tx m (kid t i)).size ≤ 4096) := h1
              have Q6 : Hid (Wq S B v' W (((T ++ txK (tx m) t s i) ++ s) ++ tx m (kid t i)) w6) := h2
              have k2' := h2.kp
              clear h1 h2 k6
              go_wp2_with fail
              refine ⟨⟨i + 1, by go_num, by omega, ?_, ?_⟩, by simp [RowKit.intOf]; omega⟩
              · have h9 := HRE.out _ _ Q6.out
                unfold Hid
                rw [HXS.out, if_neg HI0.out, HBB.out, if_neg Bool.false_ne_true]
                simpa only [ByteArray.append_assoc, app_nil] using h9
              · have h9 := Z6.out
                unfold Hid
                rw [HXS.out, if_neg HI0.out, HBB.out, if_neg Bool.false_ne_true]
                have hnl := nil_size
                simp only [ByteArray.size_append] at h9 ⊢
                omega
            · have Z6 : Hid (¬ ((T ++ txK (tx m) t s i) ++ s).size + (tx m (kid t i)).size ≤ 4096) := h1
              have Q6 : Hid (Kp (Mv B v') W w6) := h2
              clear h1 h2 k6
              go_wp2
              refine ⟨rfl, HF.out _ _ _ (.inr ⟨?_, rfl, HKR.out _ Q6.out⟩)⟩
              have h2 := Z6.out
              have h3 := H1.out (i + 1) (by omega)
              rw [HXS.out, if_neg HI0.out, HBB.out, if_neg Bool.false_ne_true] at h3
              have hnl := nil_size
              simp only [ByteArray.size_append] at h2 h3
              omega
          · have HBB : Hid (brB d.kind dk.kind = true) := hb
            simp only [hb] at kBr
            have k6 := Q3.out.put HBS.out (app_le Z3.out) ⟨#[40, 63, 58]⟩
            clear hb
            go_wp2_with (go_at_call 68; go_fit (kBr _); rintro e w' ⟨rfl, hw⟩; obtain rfl := hw.symm)
            go_fit k6
            rintro e w6 h
            rcases h with ⟨h1, rfl, h2⟩ | ⟨h1, rfl, h2⟩
            · have Z6 : Hid (((T ++ txK (tx m) t s i) ++ s).size + ((⟨#[40, 63, 58]⟩ : ByteArray)).size ≤ 4096) := h1
              have Q6 : Hid (Wq S B v' W (((T ++ txK (tx m) t s i) ++ s) ++ (⟨#[40, 63, 58]⟩ : ByteArray)) w6) := h2
              have k2' := h2.kp
              clear h1 h2 k6
              clear p0 p1 p2 p3 p4 p5 p6 p7 p8 hgc
              have hcs5 := HCL.out _ k2'
              obtain ⟨p0, p1, p2, p3, p4, p5, p6, p7, p8⟩ := hcs5
              simp only [Nat.zero_add] at p0 p1 p2 p3 p4 p5 p6 p7 p8
              clear k2'
              have k7 := HKN.out _ _ Q6.out (app_le Z6.out)
              go_wp2_with fail
              go_fit k7
              rintro e w7 h
              rcases h with ⟨h1, rfl, h2⟩ | ⟨h1, rfl, h2⟩
              · have Z7 : Hid ((((T ++ txK (tx m) t s i) ++ s) ++ (⟨#[40, 63, 58]⟩ : ByteArray)).size + (tx m (kid t i)).size ≤ 4096) := h1
                have Q7 : Hid (Wq S B v' W ((((T ++ txK (tx m) t s i) ++ s) ++ (⟨#[40, 63, 58]⟩ : ByteArray)) ++ tx m (kid t i)) w7) := h2
                have k2' := h2.kp
                clear h1 h2 k7
                have k8 := Q7.out.put HBS.out (app_le Z7.out) ⟨#[41]⟩
                clear p0 p1 p2 p3 p4 p5 p6 p7 p8
                go_wp2_with fail
                go_fit k8
                rintro e w8 h
                rcases h with ⟨h1, rfl, h2⟩ | ⟨h1, rfl, h2⟩
                · have Z8 : Hid (((((T ++ txK (tx m) t s i) ++ s) ++ (⟨#[40, 63, 58]⟩ : ByteArray)) ++ tx m (kid t i)).size + ((⟨#[41]⟩ : ByteArray)).size ≤ 4096) := h1
                  have Q8 : Hid (Wq S B v' W (((((T ++ txK (tx m) t s i) ++ s) ++ (⟨#[40, 63, 58]⟩ : ByteArray)) ++ tx m (kid t i)) ++ (⟨#[41]⟩ : ByteArray)) w8) := h2
                  have k2' := h2.kp
                  clear h1 h2 k8
                  go_wp2_with fail
                  refine ⟨⟨i + 1, by go_num, by omega, ?_, ?_⟩, by simp [RowKit.intOf]; omega⟩
                  · have h9 := HRE.out _ _ Q8.out
                    unfold Hid
                    rw [HXS.out, if_neg HI0.out, HBB.out, if_pos rfl]
                    simpa only [ByteArray.append_assoc, app_nil] using h9
                  · have h9 := Z8.out
                    unfold Hid
                    rw [HXS.out, if_neg HI0.out, HBB.out, if_pos rfl]
                    have hnl := nil_size
                    simp only [ByteArray.size_append] at h9 ⊢
                    omega
                · have Z8 : Hid (¬ ((((T ++ txK (tx m) t s i) ++ s) ++ (⟨#[40, 63, 58]⟩ : ByteArray)) ++ tx m (kid t i)).size + ((⟨#[41]⟩ : ByteArray)).size ≤ 4096) := h1
                  have Q8 : Hid (Kp (Mv B v') W w8) := h2
                  clear h1 h2 k8
                  go_wp2
                  refine ⟨rfl, HF.out _ _ _ (.inr ⟨?_, rfl, HKR.out _ Q8.out⟩)⟩
                  have h2 := Z8.out
                  have h3 := H1.out (i + 1) (by omega)
                  rw [HXS.out, if_neg HI0.out, HBB.out, if_pos rfl] at h3
                  have hnl := nil_size
                  simp only [ByteArray.size_append] at h2 h3
                  omega
              · have Z7 : Hid (¬ (((T ++ txK (tx m) t s i) ++ s) ++ (⟨#[40, 63, 58]⟩ : ByteArray)).size + (tx m (kid t i)).size ≤ 4096) := h1
                have Q7 : Hid (Kp (Mv B v') W w7) := h2
                clear h1 h2 k7
                go_wp2
                refine ⟨rfl, HF.out _ _ _ (.inr ⟨?_, rfl, HKR.out _ Q7.out⟩)⟩
                have h2 := Z7.out
                have h3 := H1.out (i + 1) (by omega)
                rw [HXS.out, if_neg HI0.out, HBB.out, if_pos rfl] at h3
                have hnl := nil_size
                simp only [ByteArray.size_append] at h2 h3
                omega
            · have Z6 : Hid (¬ ((T ++ txK (tx m) t s i) ++ s).size + ((⟨#[40, 63, 58]⟩ : ByteArray)).size ≤ 4096) := h1
              have Q6 : Hid (Kp (Mv B v') W w6) := h2
              clear h1 h2 k6
              go_wp2
              refine ⟨rfl, HF.out _ _ _ (.inr ⟨?_, rfl, HKR.out _ Q6.out⟩)⟩
              have h2 := Z6.out
              have h3 := H1.out (i + 1) (by omega)
              rw [HXS.out, if_neg HI0.out, HBB.out, if_pos rfl] at h3
              have hnl := nil_size
              simp only [ByteArray.size_append] at h2 h3
              omega
        · have Z3 : Hid (¬ (T ++ txK (tx m) t s i).size + (s).size ≤ 4096) := h1
          have Q3 : Hid (Kp (Mv B v') W w3) := h2
          clear h1 h2 k3
          go_wp2
          refine ⟨rfl, HF.out _ _ _ (.inr ⟨?_, rfl, HKR.out _ Q3.out⟩)⟩
          have h2 := Z3.out
          have h3 := H1.out (i + 1) (by omega)
          rw [HXS.out, if_neg HI0.out] at h3
          have hnl := nil_size
          simp only [ByteArray.size_append] at h2 h3
          omega

    · obtain rfl : i = N := by omega
      have HI2 := hI
      go_wp2_with fail
      go_end0
      exact HF.out _ _ _ (.inl ⟨hZ.out, rfl, HI2.out⟩)
end Go.Proofs.YtajaadagejhllaaGreatDoor
