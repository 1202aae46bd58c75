/- A bundle of texts. -/
import Derived.Test.YtajaadagejhllaaGreatDoorBs38
import Derived.Test.YtajaadagejhllaaGreatDoorBs39
/- The reference's text of a tree: nodes with kids. -/
namespace Go.Proofs.YtajaadagejhllaaGreatDoor
open Go.RowKit Go.Lib


set_option maxHeartbeats 8000000 in
set_option maxRecDepth 100000 in
theorem rw_6n (S m : Nat) (v : Value) (w : World) (T : ByteArray) (t : Tr) (ab : Int) (hIH : WRC S m) (hv : Ro S w v T) (hS : S ≤ w.heap.size) (ht : Tat S w t) (hA : TbA S w) (hwf : WF (m + 1) t) (hsz : T.size + (tx (m + 1) t).size + 16 * (m + 1 + 1) ≤ 140737488355328) (hbr : brB ab (t []).kind = false) (hk : (t []).kind = 6) :
    Calls Tryz.prog 43 #[v, ndV (t []), .int .i64 ab] w fun e w' => ∃ v', e = .returned v' ∧ Rq S v w (T ++ (tx (m + 1) t)) v' w' := by
  have hb0 : Below w.heap.size w (w.alloc (ndX (t []))) := (Below.refl _ w).alloc (Nat.le_refl _) _
  have hcs := ndX_cells (w := w) (t []) (Below.refl _ _)
  have hq0 := (Rq.refl hv).below hb0
  have ht0 := ht.below (hb0.mono hS)
  have hA0 := hA.below (hb0.mono hS)
  have hG : ¬ Mo v w.heap.size := fun e => by have := ((Bo.of hv hS).lo _ e).2; omega
  have hnode := ht.node
  obtain ⟨⟨hnd, _⟩, _, hkids⟩ := hwf
  have kBr := fun W => rBrackets_any ab (t []).kind W
  simp only [hbr] at kBr
  obtain ⟨W0, hW0⟩ : ∃ W0, W0 = w.alloc (ndX (t [])) := ⟨_, rfl⟩
  have HW0 : Hid (W0 = w.alloc (ndX (t []))) := hW0
  obtain ⟨G, hGG⟩ : ∃ G, G = w.heap.size := ⟨_, rfl⟩
  have HG : Hid (G = w.heap.size) := hGG
  rw [← hW0] at hb0 hcs hq0 ht0 hA0
  rw [← hGG] at hcs hG
  have HB : Hid (Bo S v W0) := Bo.of hq0.1 (Nat.le_trans hS hb0.size)
  have HQ0 : Hid (Rq S v W0 T v W0) := Rq.refl hq0.1
  have HCL : Hid (∀ w', Kp (Mo v) W0 w' → Cs w' G 0 (t [])) := fun w' k => hcs.kp k hG
  have HF : Hid (∀ X v' w', Rq S v W0 X v' w' → Rq S v w X v' w') := fun X v' w' h => h.re (Sub.refl _ _) (Kp.of hb0)
  have HTB : Hid (∀ w5, Kp (Mo v) W0 w5 → TbA w5.heap.size w5 ∧ TbI w5 ∧ TbZ w5) := fun w5 k => ⟨fun w6 b6 => hA0 w6 ((HB.out.below k).trans (b6.mono (Nat.le_trans HB.out.sz k.size))), (hA0 w5 (HB.out.below k)).1, (hA0 w5 (HB.out.below k)).2⟩
  have HSZ : Hid (T.size + (tx (m + 1) t).size + 16 * (m + 1 + 1) ≤ 140737488355328) := hsz
  have z0 := nil_size
  have z3 : (⟨#[40, 63, 58]⟩ : ByteArray).size = 3 := rfl
  have z1 : (⟨#[41]⟩ : ByteArray).size = 1 := rfl
  have z2 : (⟨#[40]⟩ : ByteArray).size = 1 := rfl
  have z4 : (⟨#[124]⟩ : ByteArray).size = 1 := rfl
  have z5 : (⟨#[63, 80, 60]⟩ : ByteArray).size = 3 := rfl
  have z6 : (⟨#[62]⟩ : ByteArray).size = 1 := rfl
  have z7 : (⟨#[63]⟩ : ByteArray).size = 1 := rfl
  have HX : Hid (tx (m + 1) t = txK (tx m) t ⟨#[]⟩ (t []).kn ++ tlB (t []).mn (t []).mx (t []).lz) := by
    show (if (t []).kind = 2 then _ else if (t []).kind = 3 then _ else if (t []).kind = 5 then _ else if (t []).kind = 4 then _ else if (t []).kind = 6 then _ else if (t []).kind = 7 then _ else _) = _
    rw [if_neg (by omega), if_neg (by omega), if_neg (by omega), if_neg (by omega), if_pos hk]
    unfold tlB
    rw [← ByteArray.append_assoc]
  obtain ⟨rk, r0, r1, r2⟩ := ndB_rep hnd hk
  have HM : Hid (0 ≤ (t []).mn ∧ (t []).mn ≤ 1000 ∧ -1 ≤ (t []).mx ∧ (t []).mx ≤ 1000) := by unfold Hid; omega
  clear rk r0 r1 r2
  obtain ⟨N, hN⟩ : ∃ N, (t []).kn = N := ⟨_, rfl⟩
  have HN : Hid ((t []).kn = N) := hN
  have hNb : (N : Int) ≤ 140737488351232 := by rw [← hN]; omega
  obtain ⟨KA, hKA⟩ : ∃ KA, (t []).ka = KA := ⟨_, rfl⟩
  have HKA : Hid ((t []).ka = KA) := hKA
  obtain ⟨KX, hKX⟩ : ∃ KX, txK (tx m) t ⟨#[]⟩ = KX := ⟨_, rfl⟩
  have HKX : Hid (txK (tx m) t ⟨#[]⟩ = KX) := hKX
  have HK0 : Hid (KX 0 = ⟨#[]⟩) := by unfold Hid; rw [← hKX]; rfl
  have HKX1 : Hid (∀ i, KX (i + 1) = (KX i ++ (if i = 0 then ⟨#[]⟩ else ⟨#[]⟩)) ++ txA 6 m (kid t i)) := fun i => by rw [← hKX, txK_succ, hk]
  have HTT : Hid (∀ w5, Kp (Mo v) W0 w5 → Tat S w5 t) := fun w5 k => ht0.below (HB.out.below k)
  have HKC : Hid (∀ T5 v5 w5, Rq S v W0 T5 v5 w5 → ∀ j (_ : j < N), T5.size + (tx m (kid t j)).size + 16 * (m + 1) ≤ 140737488355328 → Calls Tryz.prog 43 #[v5, ndV (t [j]), .int .i64 6] w5 fun e w6 => ∃ v6, e = .returned v6 ∧ Rq S v W0 (T5 ++ txA 6 m (kid t j)) v6 w6 ∧ Kp (Mo v5) w5 w6) := fun T5 v5 w5 q j hj h => (hIH (kid t j) T5 v5 w5 6 q.1 (Nat.le_trans HB.out.sz q.2.2.size) ((ht0.below (HB.out.below q.2.2)).kid j (by rw [hN]; exact hj)) (hA0.below (HB.out.below q.2.2)) (hkids j (by rw [hN]; exact hj)) h).mono fun _ _ ⟨v6, he, q6⟩ => ⟨v6, he, q6.re q.2.1 q.2.2, q6.2.2⟩
  have HKD : Hid ((t []).kind = 6) := hk
  have HDN : Hid ((t []).kn = N ∧ (t []).ka = KA) := ⟨hN, hKA⟩
  rw [hKX, hN] at HX
  have y2 : ((t []).kind == 2) = false := by simp; omega
  have y3 : ((t []).kind == 3) = false := by simp; omega
  have y7 : ((t []).kind == 7) = false := by simp; omega
  have y8 : ((t []).kind == 8) = false := by simp; omega
  have y9 : ((t []).kind == 9) = false := by simp; omega
  have y10 : ((t []).kind == 10) = false := by simp; omega
  have y11 : ((t []).kind == 11) = false := by simp; omega
  have y12 : ((t []).kind == 12) = false := by simp; omega
  have y13 : ((t []).kind == 13) = false := by simp; omega
  have y5 : ((t []).kind == 5) = false := by simp; omega
  have y6 : ((t []).kind == 6) = true := by simpa using hk
  clear hk ht0 ht hkids hIH hA hS
  have hcs0 := HCL.out W0 (Kp.refl _ _)
  obtain ⟨d, hd⟩ : ∃ d, t [] = d := ⟨_, rfl⟩
  have HDD : Hid (t [] = d) := hd
  rw [hd] at HCL hcs0 HKD HDN kBr y2 y3 y7 y8 y9 y10 y11 y12 y13 y5 y6 HW0 HM HX
  rw [hd]
  clear hd hN hKA hKX
  obtain ⟨e0, e1, e2, e3, e4, e5, e6, e7, e8⟩ := hcs0
  simp only [Nat.zero_add] at e0 e1 e2 e3 e4 e5 e6 e7 e8
  rw [HDN.out.1] at e8
  clear hv hb0 hcs hq0 hA0 hG hnode hW0 hGG hnd hbr hsz
  go_enter Tryz.func43, Tryz.ntmps43
  go_upto_region 1 with fail
  rw [← HW0.out, ← HG.out]
  go_wp2_with (go_at_call 54; go_fit (kBr _); rintro e w' ⟨rfl, hw⟩; obtain rfl := hw.symm)
  have HTX : Hid (T.size + (tx (m + 1) t).size + 16 * (m + 1 + 1) ≤ 140737488355328) := HSZ.out
  rw [HX.out] at HTX
  have HSZK : Hid (∀ i, i < N → (KX i).size + (tx m (kid t i)).size + 1 ≤ (KX N).size + 1) := fun i hi => by have := txK_one m t ⟨#[]⟩ hi; rw [HKX.out] at this; omega
  have HKN : Hid (∀ T5 v5 w5, Rq S v W0 T5 v5 w5 → ∀ j (_ : j < N), T5.size + (tx m (kid t j)).size + 16 * (m + 1) ≤ 140737488355328 → Calls Tryz.prog 43 #[v5, ndV (t [j]), .int .i64 6] w5 fun e w6 => ∃ v6, e = .returned v6 ∧ Rq S v W0 (T5 ++ txA 6 m (kid t j)) v6 w6 ∧ Kp (Mo v5) w5 w6) := HKC.out
  go_wp2_with fail
  go_loopw [0, 8] (fun wv ivv w' => ∃ i : Nat, ivv = .int .i64 (i : Int) ∧ i ≤ N ∧ Hid (Rq S v W0 ((T) ++ KX i) wv w')) (fun _ ivv _ => N - (RowKit.intOf ivv).toNat)
  case atStart => exact ⟨0, rfl, by omega, by
    unfold Hid
    rw [HK0.out, app_nil]
    exact HQ0.out⟩
  case round =>
    clear e0 e1 e2 e3 e4 e5 e6 e7 e8
    obtain ⟨i, rfl, hi, hI⟩ := hrel
    by_cases hlt : i < N
    · have hii : (i : Int) < N := by omega
      have HI : Hid (i < N) := hlt
      have hkp := hI.out.2.2
      obtain ⟨g1, o1, hka, hg1, hcs⟩ := (HTT.out wr hkp).kids.at i (by rw [HN.out]; exact hlt)
      rw [HKA.out] at hka
      cases hka
      have HKF : Hid (∀ w2, Kp (Mo v) W0 w2 → (w2.cell? ⟨G, 0, none⟩ = some (.int .i64 6) ∧ w2.cell? ⟨G, 8, none⟩ = some (.slice (some ⟨g1, o1, none⟩) N d.kc) ∧ w2.cell? ⟨g1, o1 + i * 9, none⟩ = some (.int .i64 (t [i]).kind) ∧ w2.cell? ⟨g1, o1 + i * 9 + 1, none⟩ = some (.int .i32 (t [i]).r) ∧ w2.cell? ⟨g1, o1 + i * 9 + 2, none⟩ = some (.slice (t [i]).ra (t [i]).rn (t [i]).rc) ∧ w2.cell? ⟨g1, o1 + i * 9 + 3, none⟩ = some (.int .i64 (t [i]).mn) ∧ w2.cell? ⟨g1, o1 + i * 9 + 4, none⟩ = some (.int .i64 (t [i]).mx) ∧ w2.cell? ⟨g1, o1 + i * 9 + 5, none⟩ = some (.bool (t [i]).lz) ∧ w2.cell? ⟨g1, o1 + i * 9 + 6, none⟩ = some (.int .i64 (t [i]).cp) ∧ w2.cell? ⟨g1, o1 + i * 9 + 7, none⟩ = some (.string (t [i]).nm) ∧ w2.cell? ⟨g1, o1 + i * 9 + 8, none⟩ = some (.slice (t [i]).ka (t [i]).kn (t [i]).kc))) := fun w2 k2 => by
        obtain ⟨g', o', e', _, hc'⟩ := (HTT.out w2 k2).kids.at i (by rw [HN.out]; exact hlt)
        rw [HKA.out] at e'
        cases e'
        obtain ⟨p0, p1, p2, p3, p4, p5, p6, p7, p8⟩ := hc'
        have hg := HCL.out w2 k2
        have h0 := hg.c0
        have h8 := hg.c8
        simp only [Nat.zero_add] at h0 h8
        rw [HKD.out] at h0
        rw [HDN.out.1, HDN.out.2] at h8
        exact ⟨h0, h8, p0, p1, p2, p3, p4, p5, p6, p7, p8⟩
      have HKN := HKN.out
      have HKN : Hid (∀ T5 v5 w5, Rq S v W0 T5 v5 w5 → T5.size + (tx m (kid t i)).size + 16 * (m + 1) ≤ 140737488355328 → Calls Tryz.prog 43 #[v5, ndV (t [i]), .int .i64 6] w5 fun e w6 => ∃ v6, e = .returned v6 ∧ Rq S v W0 (T5 ++ txA 6 m (kid t i)) v6 w6 ∧ Kp (Mo v5) w5 w6) := fun T5 v5 w5 q h => HKN T5 v5 w5 q i hlt h
      have HXS : Hid (KX (i + 1) = (KX i ++ (if i = 0 then ⟨#[]⟩ else ⟨#[]⟩)) ++ txA 6 m (kid t i)) := HKX1.out i
      clear hkp hcs
      generalize t [i] = dk at *
      have HKN0 : Hid (∀ w2, Below wr.heap.size wr w2 → Calls Tryz.prog 43 #[u0, ndV dk, .int .i64 6] w2 fun e w6 => ∃ v6, e = .returned v6 ∧ Hid (Rq S v W0 (((T) ++ KX i) ++ txA 6 m (kid t i)) v6 w6) ∧ Kp (Mo u0) wr w6) := fun w2 b => (HKN.out _ _ w2 (hI.out.below b) (by
        have h := HSZK.out i HI.out
        have h2 := HTX.out
        have z4 : (⟨#[124]⟩ : ByteArray).size = 1 := rfl
        try simp only [ByteArray.size_append] at h h2 ⊢
        omega)).mono fun _ _ ⟨v6, he, h6, k6⟩ => ⟨v6, he, h6, (Kp.of b).trans k6⟩
      have HKS : Hid (∀ w2, Kp (Mo u0) wr w2 → (w2.cell? ⟨G, 0, none⟩ = some (.int .i64 6) ∧ w2.cell? ⟨G, 8, none⟩ = some (.slice (some ⟨g1, o1, none⟩) N d.kc) ∧ w2.cell? ⟨g1, o1 + i * 9, none⟩ = some (.int .i64 dk.kind) ∧ w2.cell? ⟨g1, o1 + i * 9 + 1, none⟩ = some (.int .i32 dk.r) ∧ w2.cell? ⟨g1, o1 + i * 9 + 2, none⟩ = some (.slice dk.ra dk.rn dk.rc) ∧ w2.cell? ⟨g1, o1 + i * 9 + 3, none⟩ = some (.int .i64 dk.mn) ∧ w2.cell? ⟨g1, o1 + i * 9 + 4, none⟩ = some (.int .i64 dk.mx) ∧ w2.cell? ⟨g1, o1 + i * 9 + 5, none⟩ = some (.bool dk.lz) ∧ w2.cell? ⟨g1, o1 + i * 9 + 6, none⟩ = some (.int .i64 dk.cp) ∧ w2.cell? ⟨g1, o1 + i * 9 + 7, none⟩ = some (.string dk.nm) ∧ w2.cell? ⟨g1, o1 + i * 9 + 8, none⟩ = some (.slice dk.ka dk.kn dk.kc)) ∧ Kp (Mo u0) wr w2) := fun w2 k => ⟨HKF.out w2 (hI.out.2.2.nextO hI.out.2.1 k), k⟩
      have hb0 : Below wr.heap.size wr wr := Below.refl _ _
      have hk0 : Kp (Mo u0) wr wr := Kp.refl _ _
      obtain ⟨⟨y0, y8, p0, p1, p2, p3, p4, p5, p6, p7, p8⟩, _⟩ := HKS.out wr hk0
      go_wp2_with fail
      clear y0 y8 p0 p1 p2 p3 p4 p5 p6 p7 p8
      go_region_held3 (fun w2 => (w2.cell? ⟨G, 0, none⟩ = some (.int .i64 6) ∧ w2.cell? ⟨G, 8, none⟩ = some (.slice (some ⟨g1, o1, none⟩) N d.kc) ∧ w2.cell? ⟨g1, o1 + i * 9, none⟩ = some (.int .i64 dk.kind) ∧ w2.cell? ⟨g1, o1 + i * 9 + 1, none⟩ = some (.int .i32 dk.r) ∧ w2.cell? ⟨g1, o1 + i * 9 + 2, none⟩ = some (.slice dk.ra dk.rn dk.rc) ∧ w2.cell? ⟨g1, o1 + i * 9 + 3, none⟩ = some (.int .i64 dk.mn) ∧ w2.cell? ⟨g1, o1 + i * 9 + 4, none⟩ = some (.int .i64 dk.mx) ∧ w2.cell? ⟨g1, o1 + i * 9 + 5, none⟩ = some (.bool dk.lz) ∧ w2.cell? ⟨g1, o1 + i * 9 + 6, none⟩ = some (.int .i64 dk.cp) ∧ w2.cell? ⟨g1, o1 + i * 9 + 7, none⟩ = some (.string dk.nm) ∧ w2.cell? ⟨g1, o1 + i * 9 + 8, none⟩ = some (.slice dk.ka dk.kn dk.kc)) ∧ Kp (Mo u0) wr w2) (first | exact HKS.out _ (by assumption) | exact HKS.out _ (Kp.drew (by assumption))) (first | (go_at_call 43; go_fit (HKN0.out _ (by assumption)); rintro e w6 ⟨v6, rfl, h6, k6⟩) | (go_at_call 43; go_fit (HKN0.out _ (Below.drew (by assumption))); rintro e w6 ⟨v6, rfl, h6, k6⟩))
      have H6 : Hid (Rq S v W0 (((T) ++ KX i) ++ txA 6 m (kid t i)) v6 w6) := h6
      clear h6 k6
      go_wp2
      refine ⟨⟨i + 1, by go_num, HI.out, ?_⟩, by simp [RowKit.intOf]; omega⟩
      have h9 := H6.out
      unfold Hid
      rw [HXS.out, ite_self]
      first | exact h9 | (rw [app_nil]; exact h9) | (simp only [ByteArray.append_assoc] at h9 ⊢; exact h9) | (simp only [app_nil] at h9 ⊢; exact h9) | (simp only [ByteArray.append_assoc, app_nil] at h9 ⊢; exact h9)

    · have hin : i = N := by omega
      have hii : ¬ (i : Int) < N := by omega
      have QL : Hid (Rq S v W0 ((T) ++ KX N) u0 wr) := hin ▸ hI
      obtain ⟨e0, e1, e2, e3, e4, e5, e6, e7, e8⟩ := HCL.out _ QL.out.2.2
      simp only [Nat.zero_add] at e0 e1 e2 e3 e4 e5 e6 e7 e8
      rw [HDN.out.1] at e8
      clear hI hin
      have kT := rtimes_any d wr HM.out.1 HM.out.2.1 HM.out.2.2.1 HM.out.2.2.2 (HTB.out _ QL.out.2.2).1
      rw [show ndV d = rxV d.kind d.r d.ra d.rn d.rc d.mn d.mx d.lz d.cp d.nm d.ka N d.kc by rw [← HDN.out.1]] at kT
      go_wp2_with fail
      go_fit kT
      rintro e wt ⟨rfl, bt⟩
      have kr := (QL.out.below bt).put HB.out (tlB d.mn d.mx d.lz) (by
        have h := HSZ.out
        rw [HX.out] at h
        try simp only [ByteArray.size_append] at h ⊢
        omega)
      clear bt kT
      go_wp2_with fail
      go_fit kr
      rintro e wr ⟨vr, rfl, hr⟩
      have Qr : Hid (Rq S v W0 (((T) ++ KX N) ++ (tlB d.mn d.mx d.lz)) vr wr) := hr
      clear kr
      clear e0 e1 e2 e3 e4 e5 e6 e7 e8
      obtain ⟨e0, e1, e2, e3, e4, e5, e6, e7, e8⟩ := HCL.out _ hr.2.2
      simp only [Nat.zero_add] at e0 e1 e2 e3 e4 e5 e6 e7 e8
      rw [HDN.out.1] at e8
      clear hr
      go_wp2
      go_ret
      refine ⟨_, rfl, HF.out _ _ _ ?_⟩
      have h9 := Qr.out
      rw [HX.out]
      first | exact h9 | (rw [app_nil]; exact h9) | (simp only [ByteArray.append_assoc] at h9 ⊢; exact h9) | (simp only [app_nil] at h9 ⊢; exact h9) | (simp only [ByteArray.append_assoc, app_nil] at h9 ⊢; exact h9)


set_option maxHeartbeats 8000000 in
set_option maxRecDepth 100000 in
theorem rw_6b (S m : Nat) (v : Value) (w : World) (T : ByteArray) (t : Tr) (ab : Int) (hIH : WRC S m) (hv : Ro S w v T) (hS : S ≤ w.heap.size) (ht : Tat S w t) (hA : TbA S w) (hwf : WF (m + 1) t) (hsz : T.size + (tx (m + 1) t).size + 16 * (m + 1 + 1) ≤ 140737488355328) (hbr : brB ab (t []).kind = true) (hk : (t []).kind = 6) :
    Calls Tryz.prog 43 #[v, ndV (t []), .int .i64 ab] w fun e w' => ∃ v', e = .returned v' ∧ Rq S v w (T ++ (((⟨#[40, 63, 58]⟩ : ByteArray) ++ tx (m + 1) t) ++ ⟨#[41]⟩)) v' w' := by
  have hb0 : Below w.heap.size w (w.alloc (ndX (t []))) := (Below.refl _ w).alloc (Nat.le_refl _) _
  have hcs := ndX_cells (w := w) (t []) (Below.refl _ _)
  have hq0 := (Rq.refl hv).below hb0
  have ht0 := ht.below (hb0.mono hS)
  have hA0 := hA.below (hb0.mono hS)
  have hG : ¬ Mo v w.heap.size := fun e => by have := ((Bo.of hv hS).lo _ e).2; omega
  have hnode := ht.node
  obtain ⟨⟨hnd, _⟩, _, hkids⟩ := hwf
  have kBr := fun W => rBrackets_any ab (t []).kind W
  simp only [hbr] at kBr
  obtain ⟨W0, hW0⟩ : ∃ W0, W0 = w.alloc (ndX (t [])) := ⟨_, rfl⟩
  have HW0 : Hid (W0 = w.alloc (ndX (t []))) := hW0
  obtain ⟨G, hGG⟩ : ∃ G, G = w.heap.size := ⟨_, rfl⟩
  have HG : Hid (G = w.heap.size) := hGG
  rw [← hW0] at hb0 hcs hq0 ht0 hA0
  rw [← hGG] at hcs hG
  have HB : Hid (Bo S v W0) := Bo.of hq0.1 (Nat.le_trans hS hb0.size)
  have HQ0 : Hid (Rq S v W0 T v W0) := Rq.refl hq0.1
  have HCL : Hid (∀ w', Kp (Mo v) W0 w' → Cs w' G 0 (t [])) := fun w' k => hcs.kp k hG
  have HF : Hid (∀ X v' w', Rq S v W0 X v' w' → Rq S v w X v' w') := fun X v' w' h => h.re (Sub.refl _ _) (Kp.of hb0)
  have HTB : Hid (∀ w5, Kp (Mo v) W0 w5 → TbA w5.heap.size w5 ∧ TbI w5 ∧ TbZ w5) := fun w5 k => ⟨fun w6 b6 => hA0 w6 ((HB.out.below k).trans (b6.mono (Nat.le_trans HB.out.sz k.size))), (hA0 w5 (HB.out.below k)).1, (hA0 w5 (HB.out.below k)).2⟩
  have HSZ : Hid (T.size + (tx (m + 1) t).size + 16 * (m + 1 + 1) ≤ 140737488355328) := hsz
  have z0 := nil_size
  have z3 : (⟨#[40, 63, 58]⟩ : ByteArray).size = 3 := rfl
  have z1 : (⟨#[41]⟩ : ByteArray).size = 1 := rfl
  have z2 : (⟨#[40]⟩ : ByteArray).size = 1 := rfl
  have z4 : (⟨#[124]⟩ : ByteArray).size = 1 := rfl
  have z5 : (⟨#[63, 80, 60]⟩ : ByteArray).size = 3 := rfl
  have z6 : (⟨#[62]⟩ : ByteArray).size = 1 := rfl
  have z7 : (⟨#[63]⟩ : ByteArray).size = 1 := rfl
  have HX : Hid (tx (m + 1) t = txK (tx m) t ⟨#[]⟩ (t []).kn ++ tlB (t []).mn (t []).mx (t []).lz) := by
    show (if (t []).kind = 2 then _ else if (t []).kind = 3 then _ else if (t []).kind = 5 then _ else if (t []).kind = 4 then _ else if (t []).kind = 6 then _ else if (t []).kind = 7 then _ else _) = _
    rw [if_neg (by omega), if_neg (by omega), if_neg (by omega), if_neg (by omega), if_pos hk]
    unfold tlB
    rw [← ByteArray.append_assoc]
  obtain ⟨rk, r0, r1, r2⟩ := ndB_rep hnd hk
  have HM : Hid (0 ≤ (t []).mn ∧ (t []).mn ≤ 1000 ∧ -1 ≤ (t []).mx ∧ (t []).mx ≤ 1000) := by unfold Hid; omega
  clear rk r0 r1 r2
  obtain ⟨N, hN⟩ : ∃ N, (t []).kn = N := ⟨_, rfl⟩
  have HN : Hid ((t []).kn = N) := hN
  have hNb : (N : Int) ≤ 140737488351232 := by rw [← hN]; omega
  obtain ⟨KA, hKA⟩ : ∃ KA, (t []).ka = KA := ⟨_, rfl⟩
  have HKA : Hid ((t []).ka = KA) := hKA
  obtain ⟨KX, hKX⟩ : ∃ KX, txK (tx m) t ⟨#[]⟩ = KX := ⟨_, rfl⟩
  have HKX : Hid (txK (tx m) t ⟨#[]⟩ = KX) := hKX
  have HK0 : Hid (KX 0 = ⟨#[]⟩) := by unfold Hid; rw [← hKX]; rfl
  have HKX1 : Hid (∀ i, KX (i + 1) = (KX i ++ (if i = 0 then ⟨#[]⟩ else ⟨#[]⟩)) ++ txA 6 m (kid t i)) := fun i => by rw [← hKX, txK_succ, hk]
  have HTT : Hid (∀ w5, Kp (Mo v) W0 w5 → Tat S w5 t) := fun w5 k => ht0.below (HB.out.below k)
  have HKC : Hid (∀ T5 v5 w5, Rq S v W0 T5 v5 w5 → ∀ j (_ : j < N), T5.size + (tx m (kid t j)).size + 16 * (m + 1) ≤ 140737488355328 → Calls Tryz.prog 43 #[v5, ndV (t [j]), .int .i64 6] w5 fun e w6 => ∃ v6, e = .returned v6 ∧ Rq S v W0 (T5 ++ txA 6 m (kid t j)) v6 w6 ∧ Kp (Mo v5) w5 w6) := fun T5 v5 w5 q j hj h => (hIH (kid t j) T5 v5 w5 6 q.1 (Nat.le_trans HB.out.sz q.2.2.size) ((ht0.below (HB.out.below q.2.2)).kid j (by rw [hN]; exact hj)) (hA0.below (HB.out.below q.2.2)) (hkids j (by rw [hN]; exact hj)) h).mono fun _ _ ⟨v6, he, q6⟩ => ⟨v6, he, q6.re q.2.1 q.2.2, q6.2.2⟩
  have HKD : Hid ((t []).kind = 6) := hk
  have HDN : Hid ((t []).kn = N ∧ (t []).ka = KA) := ⟨hN, hKA⟩
  rw [hKX, hN] at HX
  have y2 : ((t []).kind == 2) = false := by simp; omega
  have y3 : ((t []).kind == 3) = false := by simp; omega
  have y7 : ((t []).kind == 7) = false := by simp; omega
  have y8 : ((t []).kind == 8) = false := by simp; omega
  have y9 : ((t []).kind == 9) = false := by simp; omega
  have y10 : ((t []).kind == 10) = false := by simp; omega
  have y11 : ((t []).kind == 11) = false := by simp; omega
  have y12 : ((t []).kind == 12) = false := by simp; omega
  have y13 : ((t []).kind == 13) = false := by simp; omega
  have y5 : ((t []).kind == 5) = false := by simp; omega
  have y6 : ((t []).kind == 6) = true := by simpa using hk
  clear hk ht0 ht hkids hIH hA hS
  have hcs0 := HCL.out W0 (Kp.refl _ _)
  obtain ⟨d, hd⟩ : ∃ d, t [] = d := ⟨_, rfl⟩
  have HDD : Hid (t [] = d) := hd
  rw [hd] at HCL hcs0 HKD HDN kBr y2 y3 y7 y8 y9 y10 y11 y12 y13 y5 y6 HW0 HM HX
  rw [hd]
  clear hd hN hKA hKX
  obtain ⟨e0, e1, e2, e3, e4, e5, e6, e7, e8⟩ := hcs0
  simp only [Nat.zero_add] at e0 e1 e2 e3 e4 e5 e6 e7 e8
  rw [HDN.out.1] at e8
  clear hv hb0 hcs hq0 hA0 hG hnode hW0 hGG hnd hbr hsz
  go_enter Tryz.func43, Tryz.ntmps43
  go_upto_region 1 with fail
  rw [← HW0.out, ← HG.out]
  go_wp2_with (go_at_call 54; go_fit (kBr _); rintro e w' ⟨rfl, hw⟩; obtain rfl := hw.symm)
  have ka := HQ0.out.put HB.out ((⟨#[40, 63, 58]⟩ : ByteArray)) (by
    have h := HSZ.out
    rw [HX.out] at h
    try simp only [ByteArray.size_append] at h ⊢
    omega)
  go_wp2_with fail
  go_fit ka
  rintro e wa ⟨va, rfl, ha⟩
  have Qa : Hid (Rq S v W0 ((T) ++ ((⟨#[40, 63, 58]⟩ : ByteArray))) va wa) := ha
  clear ka
  clear e0 e1 e2 e3 e4 e5 e6 e7 e8
  obtain ⟨e0, e1, e2, e3, e4, e5, e6, e7, e8⟩ := HCL.out _ ha.2.2
  simp only [Nat.zero_add] at e0 e1 e2 e3 e4 e5 e6 e7 e8
  rw [HDN.out.1] at e8
  clear ha
  have HTX : Hid (T.size + (tx (m + 1) t).size + 16 * (m + 1 + 1) ≤ 140737488355328) := HSZ.out
  rw [HX.out] at HTX
  have HSZK : Hid (∀ i, i < N → (KX i).size + (tx m (kid t i)).size + 1 ≤ (KX N).size + 1) := fun i hi => by have := txK_one m t ⟨#[]⟩ hi; rw [HKX.out] at this; omega
  have HKN : Hid (∀ T5 v5 w5, Rq S v W0 T5 v5 w5 → ∀ j (_ : j < N), T5.size + (tx m (kid t j)).size + 16 * (m + 1) ≤ 140737488355328 → Calls Tryz.prog 43 #[v5, ndV (t [j]), .int .i64 6] w5 fun e w6 => ∃ v6, e = .returned v6 ∧ Rq S v W0 (T5 ++ txA 6 m (kid t j)) v6 w6 ∧ Kp (Mo v5) w5 w6) := HKC.out
  go_wp2_with fail
  go_loopw [0, 8] (fun wv ivv w' => ∃ i : Nat, ivv = .int .i64 (i : Int) ∧ i ≤ N ∧ Hid (Rq S v W0 (((T) ++ (⟨#[40, 63, 58]⟩ : ByteArray)) ++ KX i) wv w')) (fun _ ivv _ => N - (RowKit.intOf ivv).toNat)
  case atStart => exact ⟨0, rfl, by omega, by
    unfold Hid
    rw [HK0.out, app_nil]
    exact Qa.out⟩
  case round =>
    clear e0 e1 e2 e3 e4 e5 e6 e7 e8
    obtain ⟨i, rfl, hi, hI⟩ := hrel
    by_cases hlt : i < N
    · have hii : (i : Int) < N := by omega
      have HI : Hid (i < N) := hlt
      have hkp := hI.out.2.2
      obtain ⟨g1, o1, hka, hg1, hcs⟩ := (HTT.out wr hkp).kids.at i (by rw [HN.out]; exact hlt)
      rw [HKA.out] at hka
      cases hka
      have HKF : Hid (∀ w2, Kp (Mo v) W0 w2 → (w2.cell? ⟨G, 0, none⟩ = some (.int .i64 6) ∧ w2.cell? ⟨G, 8, none⟩ = some (.slice (some ⟨g1, o1, none⟩) N d.kc) ∧ w2.cell? ⟨g1, o1 + i * 9, none⟩ = some (.int .i64 (t [i]).kind) ∧ w2.cell? ⟨g1, o1 + i * 9 + 1, none⟩ = some (.int .i32 (t [i]).r) ∧ w2.cell? ⟨g1, o1 + i * 9 + 2, none⟩ = some (.slice (t [i]).ra (t [i]).rn (t [i]).rc) ∧ w2.cell? ⟨g1, o1 + i * 9 + 3, none⟩ = some (.int .i64 (t [i]).mn) ∧ w2.cell? ⟨g1, o1 + i * 9 + 4, none⟩ = some (.int .i64 (t [i]).mx) ∧ w2.cell? ⟨g1, o1 + i * 9 + 5, none⟩ = some (.bool (t [i]).lz) ∧ w2.cell? ⟨g1, o1 + i * 9 + 6, none⟩ = some (.int .i64 (t [i]).cp) ∧ w2.cell? ⟨g1, o1 + i * 9 + 7, none⟩ = some (.string (t [i]).nm) ∧ w2.cell? ⟨g1, o1 + i * 9 + 8, none⟩ = some (.slice (t [i]).ka (t [i]).kn (t [i]).kc))) := fun w2 k2 => by
        obtain ⟨g', o', e', _, hc'⟩ := (HTT.out w2 k2).kids.at i (by rw [HN.out]; exact hlt)
        rw [HKA.out] at e'
        cases e'
        obtain ⟨p0, p1, p2, p3, p4, p5, p6, p7, p8⟩ := hc'
        have hg := HCL.out w2 k2
        have h0 := hg.c0
        have h8 := hg.c8
        simp only [Nat.zero_add] at h0 h8
        rw [HKD.out] at h0
        rw [HDN.out.1, HDN.out.2] at h8
        exact ⟨h0, h8, p0, p1, p2, p3, p4, p5, p6, p7, p8⟩
      have HKN := HKN.out
      have HKN : Hid (∀ T5 v5 w5, Rq S v W0 T5 v5 w5 → T5.size + (tx m (kid t i)).size + 16 * (m + 1) ≤ 140737488355328 → Calls Tryz.prog 43 #[v5, ndV (t [i]), .int .i64 6] w5 fun e w6 => ∃ v6, e = .returned v6 ∧ Rq S v W0 (T5 ++ txA 6 m (kid t i)) v6 w6 ∧ Kp (Mo v5) w5 w6) := fun T5 v5 w5 q h => HKN T5 v5 w5 q i hlt h
      have HXS : Hid (KX (i + 1) = (KX i ++ (if i = 0 then ⟨#[]⟩ else ⟨#[]⟩)) ++ txA 6 m (kid t i)) := HKX1.out i
      clear hkp hcs
      generalize t [i] = dk at *
      have HKN0 : Hid (∀ w2, Below wr.heap.size wr w2 → Calls Tryz.prog 43 #[u0, ndV dk, .int .i64 6] w2 fun e w6 => ∃ v6, e = .returned v6 ∧ Hid (Rq S v W0 ((((T) ++ (⟨#[40, 63, 58]⟩ : ByteArray)) ++ KX i) ++ txA 6 m (kid t i)) v6 w6) ∧ Kp (Mo u0) wr w6) := fun w2 b => (HKN.out _ _ w2 (hI.out.below b) (by
        have h := HSZK.out i HI.out
        have h2 := HTX.out
        have z4 : (⟨#[124]⟩ : ByteArray).size = 1 := rfl
        try simp only [ByteArray.size_append] at h h2 ⊢
        omega)).mono fun _ _ ⟨v6, he, h6, k6⟩ => ⟨v6, he, h6, (Kp.of b).trans k6⟩
      have HKS : Hid (∀ w2, Kp (Mo u0) wr w2 → (w2.cell? ⟨G, 0, none⟩ = some (.int .i64 6) ∧ w2.cell? ⟨G, 8, none⟩ = some (.slice (some ⟨g1, o1, none⟩) N d.kc) ∧ w2.cell? ⟨g1, o1 + i * 9, none⟩ = some (.int .i64 dk.kind) ∧ w2.cell? ⟨g1, o1 + i * 9 + 1, none⟩ = some (.int .i32 dk.r) ∧ w2.cell? ⟨g1, o1 + i * 9 + 2, none⟩ = some (.slice dk.ra dk.rn dk.rc) ∧ w2.cell? ⟨g1, o1 + i * 9 + 3, none⟩ = some (.int .i64 dk.mn) ∧ w2.cell? ⟨g1, o1 + i * 9 + 4, none⟩ = some (.int .i64 dk.mx) ∧ w2.cell? ⟨g1, o1 + i * 9 + 5, none⟩ = some (.bool dk.lz) ∧ w2.cell? ⟨g1, o1 + i * 9 + 6, none⟩ = some (.int .i64 dk.cp) ∧ w2.cell? ⟨g1, o1 + i * 9 + 7, none⟩ = some (.string dk.nm) ∧ w2.cell? ⟨g1, o1 + i * 9 + 8, none⟩ = some (.slice dk.ka dk.kn dk.kc)) ∧ Kp (Mo u0) wr w2) := fun w2 k => ⟨HKF.out w2 (hI.out.2.2.nextO hI.out.2.1 k), k⟩
      have hb0 : Below wr.heap.size wr wr := Below.refl _ _
      have hk0 : Kp (Mo u0) wr wr := Kp.refl _ _
      obtain ⟨⟨y0, y8, p0, p1, p2, p3, p4, p5, p6, p7, p8⟩, _⟩ := HKS.out wr hk0
      go_wp2_with fail
      clear y0 y8 p0 p1 p2 p3 p4 p5 p6 p7 p8
      go_region_held3 (fun w2 => (w2.cell? ⟨G, 0, none⟩ = some (.int .i64 6) ∧ w2.cell? ⟨G, 8, none⟩ = some (.slice (some ⟨g1, o1, none⟩) N d.kc) ∧ w2.cell? ⟨g1, o1 + i * 9, none⟩ = some (.int .i64 dk.kind) ∧ w2.cell? ⟨g1, o1 + i * 9 + 1, none⟩ = some (.int .i32 dk.r) ∧ w2.cell? ⟨g1, o1 + i * 9 + 2, none⟩ = some (.slice dk.ra dk.rn dk.rc) ∧ w2.cell? ⟨g1, o1 + i * 9 + 3, none⟩ = some (.int .i64 dk.mn) ∧ w2.cell? ⟨g1, o1 + i * 9 + 4, none⟩ = some (.int .i64 dk.mx) ∧ w2.cell? ⟨g1, o1 + i * 9 + 5, none⟩ = some (.bool dk.lz) ∧ w2.cell? ⟨g1, o1 + i * 9 + 6, none⟩ = some (.int .i64 dk.cp) ∧ w2.cell? ⟨g1, o1 + i * 9 + 7, none⟩ = some (.string dk.nm) ∧ w2.cell? ⟨g1, o1 + i * 9 + 8, none⟩ = some (.slice dk.ka dk.kn dk.kc)) ∧ Kp (Mo u0) wr w2) (first | exact HKS.out _ (by assumption) | exact HKS.out _ (Kp.drew (by assumption))) (first | (go_at_call 43; go_fit (HKN0.out _ (by assumption)); rintro e w6 ⟨v6, rfl, h6, k6⟩) | (go_at_call 43; go_fit (HKN0.out _ (Below.drew (by assumption))); rintro e w6 ⟨v6, rfl, h6, k6⟩))
      have H6 : Hid (Rq S v W0 ((((T) ++ (⟨#[40, 63, 58]⟩ : ByteArray)) ++ KX i) ++ txA 6 m (kid t i)) v6 w6) := h6
      clear h6 k6
      go_wp2
      refine ⟨⟨i + 1, by go_num, HI.out, ?_⟩, by simp [RowKit.intOf]; omega⟩
      have h9 := H6.out
      unfold Hid
      rw [HXS.out, ite_self]
      first | exact h9 | (rw [app_nil]; exact h9) | (simp only [ByteArray.append_assoc] at h9 ⊢; exact h9) | (simp only [app_nil] at h9 ⊢; exact h9) | (simp only [ByteArray.append_assoc, app_nil] at h9 ⊢; exact h9)

    · have hin : i = N := by omega
      have hii : ¬ (i : Int) < N := by omega
      have QL : Hid (Rq S v W0 (((T) ++ (⟨#[40, 63, 58]⟩ : ByteArray)) ++ KX N) u0 wr) := hin ▸ hI
      obtain ⟨e0, e1, e2, e3, e4, e5, e6, e7, e8⟩ := HCL.out _ QL.out.2.2
      simp only [Nat.zero_add] at e0 e1 e2 e3 e4 e5 e6 e7 e8
      rw [HDN.out.1] at e8
      clear hI hin
      have kT := rtimes_any d wr HM.out.1 HM.out.2.1 HM.out.2.2.1 HM.out.2.2.2 (HTB.out _ QL.out.2.2).1
      rw [show ndV d = rxV d.kind d.r d.ra d.rn d.rc d.mn d.mx d.lz d.cp d.nm d.ka N d.kc by rw [← HDN.out.1]] at kT
      go_wp2_with fail
      go_fit kT
      rintro e wt ⟨rfl, bt⟩
      have kr := (QL.out.below bt).put HB.out (tlB d.mn d.mx d.lz) (by
        have h := HSZ.out
        rw [HX.out] at h
        try simp only [ByteArray.size_append] at h ⊢
        omega)
      clear bt kT
      go_wp2_with fail
      go_fit kr
      rintro e wr ⟨vr, rfl, hr⟩
      have Qr : Hid (Rq S v W0 ((((T) ++ (⟨#[40, 63, 58]⟩ : ByteArray)) ++ KX N) ++ (tlB d.mn d.mx d.lz)) vr wr) := hr
      clear kr
      clear e0 e1 e2 e3 e4 e5 e6 e7 e8
      obtain ⟨e0, e1, e2, e3, e4, e5, e6, e7, e8⟩ := HCL.out _ hr.2.2
      simp only [Nat.zero_add] at e0 e1 e2 e3 e4 e5 e6 e7 e8
      rw [HDN.out.1] at e8
      clear hr
      have kc := Qr.out.put HB.out ((⟨#[41]⟩ : ByteArray)) (by
        have h := HSZ.out
        rw [HX.out] at h
        try simp only [ByteArray.size_append] at h ⊢
        omega)
      go_wp2_with fail
      go_fit kc
      rintro e wc ⟨vc, rfl, hc⟩
      have Qc : Hid (Rq S v W0 (((((T) ++ (⟨#[40, 63, 58]⟩ : ByteArray)) ++ KX N) ++ (tlB d.mn d.mx d.lz)) ++ ((⟨#[41]⟩ : ByteArray))) vc wc) := hc
      clear kc
      clear e0 e1 e2 e3 e4 e5 e6 e7 e8
      obtain ⟨e0, e1, e2, e3, e4, e5, e6, e7, e8⟩ := HCL.out _ hc.2.2
      simp only [Nat.zero_add] at e0 e1 e2 e3 e4 e5 e6 e7 e8
      rw [HDN.out.1] at e8
      clear hc
      go_wp2
      go_ret
      refine ⟨_, rfl, HF.out _ _ _ ?_⟩
      have h9 := Qc.out
      rw [HX.out]
      first | exact h9 | (rw [app_nil]; exact h9) | (simp only [ByteArray.append_assoc] at h9 ⊢; exact h9) | (simp only [app_nil] at h9 ⊢; exact h9) | (simp only [ByteArray.append_assoc, app_nil] at h9 ⊢; exact h9)

end Go.Proofs.YtajaadagejhllaaGreatDoor
