/- A bundle of texts. -/
import Derived.Test.YtbciclnffokjjaaGreatDoorBt35
import Derived.Test.YtbciclnffokjjaaGreatDoorBt25
/- The reference's words: repeats whose kid has texts. -/
namespace Go.Proofs.YtbciclnffokjjaaGreatDoor
open Go.RowKit Go.Lib

theorem up_up {α : Type} (f : Nat → α) (j : Nat) (u v : α) : up (up f j u) j v = up f j v := by
  funext B
  unfold up
  by_cases e : B = j
  · rw [if_pos e, if_pos e]
  · rw [if_neg e, if_neg e, if_neg e]
theorem up_swap {α : Type} (f : Nat → α) {j k : Nat} (h : j ≠ k) (a b a' : α) : up (up (up f j a) k b) j a' = up (up f j a') k b := by
  funext B
  unfold up
  by_cases e : B = j
  · rw [if_pos e, if_neg (by omega), if_pos e]
  · rw [if_neg e]
    by_cases e' : B = k
    · rw [if_pos e', if_pos e']
    · rw [if_neg e', if_neg e', if_neg e, if_neg e]
theorem BxI.lt {w : World} {d : Nd} {f : Nat → Option Sto} {V : World} (h : BxI w d f V) {B : Nat} {r : Sto} (hB : f B = some r) : B < V.heap.size := by
  obtain ⟨_, a, n, c, m, hb, _⟩ := h.bx B r hB
  exact (Array.getElem?_eq_some_iff.1 hb).1
set_option maxRecDepth 100000 in
/-- One more kid behind the row. -/
theorem BxI.thn {w : World} {d : Nd} {f f' : Nat → Option Sto} {K N i : Nat} {rk : Sto} {V : World} (h : BxI w d f V) (hK : f K = some rk) (hN : f N = some (powS rk i)) (hf : up f N (some (powS rk (i + 1))) = f') (hko : rk.ok) (hz : Szs rk 40000) (hi : i ≤ 1000) : ∃ a n c m a' n' c' m', (V.cell? ⟨N, 0, none⟩ = some (.slice a n c) ∧ V.cell? ⟨N, 1, none⟩ = some (.bool m)) ∧ (V.cell? ⟨K, 0, none⟩ = some (.slice a' n' c') ∧ V.cell? ⟨K, 1, none⟩ = some (.bool m')) ∧ Calls Tryz.prog 42 #[.agg #[.slice a n c, .bool m], .agg #[.slice a' n' c', .bool m']] V (PutP w d f' N) := by
  obtain ⟨a, n, c, m, hr, hc⟩ := h.at' hN
  obtain ⟨a', n', c', m', hr', hc'⟩ := h.at' hK
  obtain ⟨c0, c1, _, _⟩ := hc V (Below.refl _ _)
  obtain ⟨d0, d1, _, _⟩ := hc' V (Below.refl _ _)
  refine ⟨a, n, c, m, a', n', c', m', ⟨c0, c1⟩, ⟨d0, d1⟩, ?_⟩
  have hb : i * 40000 ≤ 1000 * 40000 := Nat.mul_le_mul_right _ hi
  exact (then_any _ _ _ _ (powS rk i) rk (i * 40000) 40000 V hr hr' (powS_ok rk i) hko (hz.pow i) hz (by omega)).mono (fun e w5 hL => h.call hN hf hL)
/-- One more list beside the others. -/
theorem BxI.nd {w : World} {d : Nd} {f f' : Nat → Option Sto} {N O : Nat} {r q : Sto} {V : World} (h : BxI w d f V) (hN : f N = some q) (hO : f O = some r) (hf : up f O (some (allS r q)) = f') (hr : r.ok) (hq : q.ok) : ∃ a n c m a' n' c' m', (V.cell? ⟨O, 0, none⟩ = some (.slice a n c) ∧ V.cell? ⟨O, 1, none⟩ = some (.bool m)) ∧ (V.cell? ⟨N, 0, none⟩ = some (.slice a' n' c') ∧ V.cell? ⟨N, 1, none⟩ = some (.bool m')) ∧ Calls Tryz.prog 43 #[.agg #[.slice a n c, .bool m], .agg #[.slice a' n' c', .bool m']] V (PutP w d f' O) := by
  obtain ⟨a, n, c, m, hr1, hc⟩ := h.at' hO
  obtain ⟨a', n', c', m', hr', hc'⟩ := h.at' hN
  obtain ⟨c0, c1, _, _⟩ := hc V (Below.refl _ _)
  obtain ⟨d0, d1, _, _⟩ := hc' V (Below.refl _ _)
  refine ⟨a, n, c, m, a', n', c', m', ⟨c0, c1⟩, ⟨d0, d1⟩, ?_⟩
  exact (and_any _ _ _ _ r q V hr1 hr' hr hq).mono (fun e w5 hL => h.call hO hf hL)
set_option maxHeartbeats 8000000 in
set_option maxRecDepth 100000 in
theorem words_62 (m : Nat) (t : Tr) (w : World) (kk : (t []).kind = 6) (hkn : (t []).kn = 1) (hm0 : ¬ (t []).mx = 0) (hmn : 0 ≤ (t []).mn ∧ (t []).mn ≤ 1000) (hmx : (t []).mx = -1 ∨ (t []).mn ≤ (t []).mx ∧ (t []).mx ≤ 1000) (hgr : wrdF m (kid t 0) ≠ none ∧ grwS (wrdF m (kid t 0)) = true) (hz : Szs (wrdF m (kid t 0)) 40000) (ht : Tat w.heap.size w t) (hK : ∀ V, Below w.heap.size w V → Calls Tryz.prog 21 #[ndV (t [0])] V (LsP V (wrdF m (kid t 0)))) : Calls Tryz.prog 21 #[ndV (t [])] w (LsP w (wrdF (m + 1) t)) := by
  have h0 := Wd0.start w (t [])
  rw [wrd_eq, if_neg (by omega), if_neg (by omega), if_neg (by omega), if_neg (by omega), if_neg (by omega), if_pos kk]
  have hko : (wrdF m (kid t 0)).ok := wrdF_ok m _
  have kC : Calls Tryz.prog 21 #[ndV (t [0])] (wdW w (t [])) fun e V2 => ∃ a n c mk, e = .returned (.agg #[.slice a n c, .bool mk]) ∧ Hid (RlV V2 (.slice a n c) mk (wrdF m (kid t 0)) ∧ Wd0 w (t []) V2) := (hK _ h0.lo).mono (fun e w5 ⟨⟨v, mk, he, hv⟩, b⟩ => by
    obtain ⟨a, n, c, rfl⟩ := hv.form
    exact ⟨a, n, c, mk, he, hv, h0.below b⟩)
  obtain ⟨g, o, hka, hg, hcs⟩ := (ht.below h0.lo).kids.at 0 (by omega)
  obtain ⟨k0, k1, k2, k3, k4, k5, k6, k7, k8⟩ := hcs
  simp only [Nat.zero_mul, Nat.add_zero] at k0 k1 k2 k3 k4 k5 k6 k7 k8
  obtain ⟨x0, x1, x2, x3, x4, x5, x6, x7, x8⟩ := h0.bx
  simp only [Nat.zero_add] at x0 x1 x2 x3 x4 x5 x6 x7 x8
  rw [kk] at x0
  rw [hka, hkn] at x8
  obtain ⟨W, hW⟩ : ∃ W, W = wdW w (t []) := ⟨_, rfl⟩
  have HW : Hid (W = wdW w (t [])) := hW
  rw [← hW] at x0 x1 x2 x3 x4 x5 x6 x7 x8 kC k0 k1 k2 k3 k4 k5 k6 k7 k8
  have hm0b : ((t []).mx == 0) = false := by simpa using hm0
  clear h0 hW kk hK ht hg hka hkn
  generalize wrdF m (kid t 0) = rk at *
  generalize t [0] = dk at *
  generalize t [] = d at *
  have HM : Hid (¬ d.mx = 0 ∧ (0 ≤ d.mn ∧ d.mn ≤ 1000) ∧ (d.mx = -1 ∨ d.mn ≤ d.mx ∧ d.mx ≤ 1000)) := ⟨hm0, hmn, hmx⟩
  clear hm0 hmn hmx
  go_enter Tryz.func21, Tryz.ntmps21
  go_upto_region 2 with fail
  rw [show (((w.alloc (ndX d)).alloc (lX (.slice none 0 0) false)).alloc (.cells #[.string ⟨#[]⟩] 9)).alloc (lX (.slice (some ⟨w.heap.size + 1 + 1, 0, none⟩) 1 1) false) = W from HW.out.symm]
  go_wp2_with fail
  go_fit kC
  rintro e V2 ⟨ak, nk, ck, mk, rfl, HV2⟩
  clear kC k0 k1 k2 k3 k4 k5 k6 k7 k8 x0 x1 x2 x3 x4 x5 x6 x7 x8
  obtain ⟨V3, hV3⟩ : ∃ V3, V3 = V2.alloc (lX (.slice ak nk ck) mk) := ⟨_, rfl⟩
  have HV3 : Hid (V3 = V2.alloc (lX (.slice ak nk ck) mk)) := hV3
  obtain ⟨K, hKe⟩ : ∃ K, K = V2.heap.size := ⟨_, rfl⟩
  have hB3 : BxI w d (up (fun _ => none) K (some rk)) V3 := by
    rw [hV3, hKe]
    exact BxI.new ⟨HV2.out.2, fun B r e => by cases e⟩ HV2.out.1
  have HB3 : Hid (BxI w d (up (fun _ => none) K (some rk)) V3) := hB3
  have HRK : Hid (∀ V, Below V3.heap.size V3 V → RlV V (.slice ak nk ck) mk rk) := fun V bV => by
    have b23 : Below V2.heap.size V2 V3 := by rw [hV3]; exact (Below.refl _ V2).alloc (Nat.le_refl _) _
    exact (HV2.out.1.below b23).below bV
  have HKC : Hid (∀ V, Below V3.heap.size V3 V → V.cell? ⟨K, 0, none⟩ = some (.slice ak nk ck) ∧ V.cell? ⟨K, 1, none⟩ = some (.bool mk)) := fun V bV => by
    have e : V3.heap[K]? = some (lX (.slice ak nk ck) mk) := by rw [hV3, hKe]; exact heap_alloc_new V2 _
    have hz3 := (Array.getElem?_eq_some_iff.1 e).1
    obtain ⟨c0, c1, _, _⟩ := lx_cells ((bV.block _ hz3).trans e)
    exact ⟨c0, c1⟩
  have HK3 : Hid (K < V3.heap.size) := by unfold Hid; rw [hV3, hKe]; simp
  obtain ⟨q0, q1⟩ := HKC.out V3 (Below.refl _ _)
  have kB := blank_any (.slice ak nk ck) mk rk V3 (HRK.out V3 (Below.refl _ _))
  clear hV3 HV2 hB3
  go_upto_region 28 with fail
  rw [← hKe]
  rw [show V2.alloc (lX (.slice ak nk ck) mk) = V3 from HV3.out.symm]
  clear hKe
  go_wp2_with fail
  go_fit kB
  rintro e w4 ⟨rfl, b4⟩
  have B4 : Hid (Below V3.heap.size V3 w4) := b4
  obtain ⟨⟨x3, x4⟩, ⟨l0, l1⟩, y0, y1, z0, z1⟩ := (HB3.out.below b4).w0.cells
  obtain ⟨q0, q1⟩ := HKC.out w4 b4
  have kN := none_any (.slice ak nk ck) mk rk w4 (HRK.out w4 b4)
  have HFIN : Hid (∀ V, Below V3.heap.size V3 V → ∀ (a : Option Addr) (n c : Nat) (mm : Bool) (r : Sto), RlV V (.slice a n c) mm r → LsP w r (.returned (.agg #[.slice a n c, .bool mm])) ((V.setCell ⟨w.heap.size + 1, 0, none⟩ (.slice a n c)).setCell ⟨w.heap.size + 1, 1, none⟩ (.bool mm))) := fun V bV a n c mm r hr => (HB3.out.below bV).w0.fin hr
  clear kB b4
  obtain ⟨g2, g3, g4, g1⟩ : rk ≠ none ∧ grwS rk = true ∧ blkS rk = false ∧ nonS rk = false := by
    rcases grw_cases rk with ⟨_, _, g⟩ | ⟨_, _, g, _⟩ | ⟨g, _⟩ | g
    · rw [hgr.2] at g; cases g
    · rw [hgr.2] at g; cases g
    · exact absurd g hgr.1
    · exact g
  rw [g4]
  rw [g1] at kN
  have HF5 : Hid (∀ w5, Below w4.heap.size w4 w5 → (w5.cell? ⟨w.heap.size, 3, none⟩ = some (.int .i64 d.mn) ∧ w5.cell? ⟨w.heap.size, 4, none⟩ = some (.int .i64 d.mx)) ∧ (w5.cell? ⟨K, 0, none⟩ = some (.slice ak nk ck) ∧ w5.cell? ⟨K, 1, none⟩ = some (.bool mk)) ∧ (w5.cell? ⟨w.heap.size + 1, 0, none⟩ = some (.slice none 0 0) ∧ w5.cell? ⟨w.heap.size + 1, 1, none⟩ = some (.bool false) ∧ w5.frozen? ⟨w.heap.size + 1, 0, none⟩ = false ∧ w5.frozen? ⟨w.heap.size + 1, 1, none⟩ = false) ∧ (Calls Tryz.prog 45 #[.agg #[.slice ak nk ck, .bool mk]] w5 fun e w' => e = .returned (.bool false) ∧ Below w5.heap.size w5 w') ∧ ∀ V, Below w5.heap.size w5 V → LsP w none (.returned (.agg #[.slice none 0 0, .bool true])) ((V.setCell ⟨w.heap.size + 1, 0, none⟩ (.slice none 0 0)).setCell ⟨w.heap.size + 1, 1, none⟩ (.bool true))) := fun w5 b5 => by
    have b35 := B4.out.trans (b5.mono B4.out.size)
    have hc := (HB3.out.below b35).w0.cells
    have kN5 := none_any (.slice ak nk ck) mk rk w5 (HRK.out w5 b35)
    rw [g1] at kN5
    have hk := HKC.out w5 b35
    exact ⟨hc.1, hk, hc.2.2, kN5, fun V bV => HFIN.out V (b35.trans (bV.mono b35.size)) _ _ _ _ _ (.inl ⟨rfl, rfl, rfl⟩)⟩
  have HMK : Hid (mk = false) := by
    rcases HRK.out w4 B4.out with ⟨h, _⟩ | ⟨L, _, _, _, h, _⟩
    · exact absurd h g2
    · exact h
  have HG : Hid (grwS rk = true) := g3
  have HKO : Hid (rk.ok ∧ Szs rk 40000) := ⟨hko, hz⟩
  clear g1 g2 g3 g4 HFIN HKC HRK hz hko hgr x3 x4 l0 l1 y0 y1 z0 z1
  go_wp2_with fail
  go_fit kN
  rintro e w5 ⟨rfl, b5⟩
  have h5 := HF5.out w5 b5
  obtain ⟨x3, x4⟩ := h5.1
  obtain ⟨q0, q1⟩ := h5.2.1
  have kN5 := h5.2.2.2.1
  clear h5
  have B5 : Hid (Below w4.heap.size w4 w5) := b5
  clear kN b5
  go_wp2_with fail
  go_fit kN5
  clear x3 x4 q0 q1
  rintro e w6 ⟨rfl, b6⟩
  have b46 := B5.out.trans (b6.mono B5.out.size)
  have h6 := HF5.out w6 b46
  obtain ⟨x3, x4⟩ := h6.1
  obtain ⟨q0, q1⟩ := h6.2.1
  obtain ⟨y0, y1, z0, z1⟩ := h6.2.2.1
  have hP := h6.2.2.2.2
  clear h6
  have HP : Hid _ := hP
  have HB6 : Hid (BxI w d (up (fun _ => none) K (some rk)) w6) := HB3.out.below (B4.out.trans (b46.mono B4.out.size))
  rw [HMK.out] at q1
  clear kN5 b6 HF5 hP b46 B5 B4 HB3 HV3 HK3
  by_cases hx : d.mx = -1
  · have HE : Hid (repS rk d.mn d.mx = none) := by
      unfold Hid repS
      rw [if_neg HM.out.1, if_neg (by rw [HG.out]; simp), if_pos hx]
    rw [hx] at x4
    clear HB6
    go_wp2
    exact bodyPost_ret (v := .agg #[.slice none 0 0, .bool true]) (by simp [results, Tryz.results21, go_sem, y0, y1]) rfl (by rw [HE.out]; exact HP.out _ (Below.refl _ _))
  · have hxb : (d.mx == -1) = false := by simpa using hx
    have HE : Hid (repS rk d.mn d.mx = powsS rk d.mn.toNat (d.mx - d.mn).toNat) := by
      unfold Hid repS
      rw [if_neg HM.out.1, if_neg (by rw [HG.out]; simp), if_neg hx]
    clear HP
    have hl := HB6.out.w0.cells.2.1
    obtain ⟨l0, l1⟩ := hl
    obtain ⟨f, hf⟩ : ∃ f, f = up (fun _ => none) K (some rk) := ⟨_, rfl⟩
    have HFK : Hid (f K = some rk) := by unfold Hid; rw [hf]; exact up_same _ _ _
    rw [← hf] at HB6
    obtain ⟨M, hM⟩ : ∃ M : Nat, d.mn = (M : Int) := ⟨d.mn.toNat, by have := HM.out.2.1.1; omega⟩
    obtain ⟨D, hD⟩ : ∃ D : Nat, d.mx = ((M + D : Nat) : Int) := ⟨(d.mx - d.mn).toNat, by have := HM.out.2.2; omega⟩
    have hMD : M + D ≤ 1000 := by have := HM.out.2.2; omega
    have HE' : Hid (repS rk d.mn d.mx = powsS rk M D) := by
      unfold Hid
      rw [HE.out, hM, hD]
      congr 1 <;> omega
    have HCL : Hid (∀ g V, BxI w d g V → V.cell? ⟨w.heap.size, 3, none⟩ = some (.int .i64 (M : Int)) ∧ V.cell? ⟨w.heap.size, 4, none⟩ = some (.int .i64 ((M + D : Nat) : Int))) := fun g V h => by
      have := h.w0.cells.1
      rw [hM, hD] at this
      exact this
    obtain ⟨N, hN⟩ : ∃ N, N = w6.heap.size := ⟨_, rfl⟩
    have hKN : K ≠ N := by
      have := HB6.out.lt HFK.out
      omega
    have HI0 : Hid (BxI w d (up f N (some (powS rk 0))) (w6.alloc (lX (.slice (some ⟨w.heap.size + 1 + 1, 0, none⟩) 1 1) false))) := by
      unfold Hid
      rw [hN]
      exact HB6.out.new HB6.out.w0.blank
    have HKN : Hid (K ≠ N) := hKN
    have HDM : Hid (M + D ≤ 1000) := hMD
    have hMI : (M : Int) ≤ 1000 := by omega
    clear hf HB6 HE hM hD hKN HM hm0b x3 q0 y0 y1 z0 z1 HMK HG hMD
    go_upto_region 35 with fail
    rw [← hN]
    clear hN l0 l1 q1 hx hxb x4
    generalize w6.alloc (lX (.slice (some ⟨w.heap.size + 1 + 1, 0, none⟩) 1 1) false) = V0 at *
    go_wp2_with fail
    go_loopw [10] (fun ivv w' => ∃ i : Nat, ivv = .int .i64 (i : Int) ∧ i ≤ M ∧ Hid (BxI w d (up f N (some (powS rk i))) w')) (fun ivv _ => M - (RowKit.intOf ivv).toNat)
    case atStart => exact ⟨0, rfl, Nat.zero_le _, HI0⟩
    case round =>
      clear HI0
      obtain ⟨i, rfl, hi, hinv⟩ := hrel
      obtain ⟨x3, x4⟩ := HCL.out _ _ hinv.out
      by_cases hlt : i < M
      · have hii : (i : Int) < M := by omega
        obtain ⟨a, n, c, m', a', n', c', m1, ⟨n0, n1⟩, ⟨q0, q1⟩, kT⟩ := hinv.out.thn (i := i) ((up_other _ _ _ _ HKN.out).trans HFK.out) (up_same _ _ _) (up_up _ _ _ _) HKO.out.1 HKO.out.2 (by have := HDM.out; omega)
        clear hinv HCL
        go_wp2_with fail
        go_fit kT
        rintro e w5 ⟨⟨a5, n5, c5, m5, rfl, HN⟩, ⟨u0, j0⟩, ⟨u1, j1⟩, f0, f1⟩
        go_wp2
        exact ⟨⟨i + 1, by go_num, by omega, HN⟩, by simp [RowKit.intOf]; omega⟩
      · have hii : ¬ (i : Int) < M := by omega
        obtain rfl : i = M := by omega
        obtain ⟨a, n, c, m', hr, hc⟩ := hinv.out.at' (up_same _ _ _)
        obtain ⟨n0, n1, _, _⟩ := hc wr (Below.refl _ _)
        obtain ⟨O, hO⟩ : ∃ O, O = wr.heap.size := ⟨_, rfl⟩
        have HNO : Hid (N ≠ O) := by
          have := hinv.out.lt (up_same _ _ _)
          unfold Hid
          omega
        have HKO2 : Hid (K ≠ O) := by
          have := hinv.out.lt ((up_other _ _ _ _ HKN.out).trans HFK.out)
          unfold Hid
          omega
        have HJ0 : Hid (BxI w d (up (up f N (some (powS rk (i + 0)))) O (some (powsS rk i 0))) (wr.alloc (lX (.slice a n c) m'))) := by
          have h := hinv.out.new hr
          rw [show powsS rk i 0 = powS rk i from all_nil (powS_ok rk i), hO]
          exact h
        clear hinv hr hc
        go_upto_region 40 with fail
        rw [← hO]
        clear hO n0 n1 x3 x4 hii hlt hi
        generalize wr.alloc (lX (.slice a n c) m') = V1 at *
        obtain ⟨x3, x4⟩ := HCL.out _ _ HJ0.out
        go_wp2_with fail
        have hMD : i + D ≤ 1000 := HDM.out
        clear hMI
        go_loopw [12] (fun ivv w' => ∃ j : Nat, ivv = .int .i64 ((i + j : Nat) : Int) ∧ j ≤ D ∧ Hid (BxI w d (up (up f N (some (powS rk (i + j)))) O (some (powsS rk i j))) w')) (fun ivv _ => i + D - (RowKit.intOf ivv).toNat)
        case atStart => exact ⟨0, rfl, Nat.zero_le _, HJ0⟩
        case round =>
          clear HJ0 x3 x4
          obtain ⟨j, rfl, hj, hinv⟩ := hrel
          obtain ⟨x3, x4⟩ := HCL.out _ _ hinv.out
          obtain ⟨_, _, y0, y1, z0, z1⟩ := hinv.out.w0.cells
          obtain ⟨a, n, c, m', hr, hc⟩ := hinv.out.at' (up_same _ _ _)
          obtain ⟨o0, o1, _, _⟩ := hc wr (Below.refl _ _)
          have HDN : Hid (powsS rk i j = powsS rk i D → LsP w (repS rk d.mn d.mx) (.returned (.agg #[.slice a n c, .bool m'])) ((wr.setCell ⟨w.heap.size + 1, 0, none⟩ (.slice a n c)).setCell ⟨w.heap.size + 1, 1, none⟩ (.bool m'))) := fun e => by
            rw [HE'.out, ← e]
            exact hinv.out.w0.fin hr
          by_cases hlt : j < D
          · have hii : ((i + j : Nat) : Int) < ((i + D : Nat) : Int) := by omega
            cases m' with
            | true =>
              have HP : Hid _ := HDN.out (by
                rcases hr with ⟨h, _⟩ | ⟨_, _, _, _, h, _⟩
                · rw [h, show D = j + (D - j) by omega, pows_many h]
                · cases h)
              clear hinv HCL HDN hr hc
              go_wp2
              exact bodyPost_ret (v := .agg #[.slice a n c, .bool true]) (by simp [results, Tryz.results21, go_sem, y0, y1]) rfl HP.out
            | false =>
              have HTH : Hid _ := hinv.out.thn (K := K) (N := N) (i := i + j) ((up_other _ _ _ _ HKO2.out).trans ((up_other _ _ _ _ HKN.out).trans HFK.out)) ((up_other _ _ _ _ HNO.out).trans (up_same _ _ _)) (up_swap _ HNO.out _ _ _) HKO.out.1 HKO.out.2 (by omega)
              obtain ⟨a1, n1, c1, m1, a2, n2, c2, m2, ⟨n0, n1'⟩, ⟨q0, q1⟩, kT⟩ := HTH.out
              clear hinv HDN hr hc HTH HCL
              go_wp2_with fail
              go_fit kT
              rintro e w5 ⟨⟨a5, n5, c5, m5, rfl, HN⟩, ⟨u0, j0⟩, ⟨u1, j1⟩, f0, f1⟩
              clear o0 o1 n0 n1' q0 q1 kT y0 y1 z0 z1 x3 x4
              go_upto_region 44 with fail
              clear j0 j1 f0 f1
              generalize ((w5.setCell ⟨N, 0, none⟩ (.slice a5 n5 c5)).setCell ⟨N, 1, none⟩ (.bool m5)) = V7 at *
              obtain ⟨a1, n1, c1, m1, a2, n2, c2, m2, ⟨o0, o1⟩, ⟨n0, n1'⟩, kA⟩ := HN.out.nd (N := N) (O := O) ((up_other _ _ _ _ HNO.out).trans (up_same _ _ _)) (up_same _ _ _) (up_up _ _ _ _) (powsS_ok rk i j) (powS_ok rk _)
              clear HN
              go_wp2_with fail
              go_fit kA
              rintro e w8 ⟨⟨a8, n8, c8, m8, rfl, HA⟩, ⟨u0, j0⟩, ⟨u1, j1⟩, f0, f1⟩
              clear o0 o1 n0 n1' kA
              go_wp2
              exact ⟨⟨j + 1, by go_num, by omega, HA⟩, by simp [RowKit.intOf]; omega⟩
          · have hii : ¬ ((i + j : Nat) : Int) < ((i + D : Nat) : Int) := by omega
            have HP : Hid _ := HDN.out (by rw [show j = D by omega])
            clear hinv HCL HDN hr hc
            go_wp2
            exact bodyPost_ret (v := .agg #[.slice a n c, .bool m']) (by simp [results, Tryz.results21, go_sem, y0, y1]) rfl HP.out
end Go.Proofs.YtbciclnffokjjaaGreatDoor
/- The reference's words, whole; places. -/
namespace Go.Proofs.YtbciclnffokjjaaGreatDoor
open Go.RowKit Go.Lib

theorem wwords_step (m : Nat) (hIH : WwC m) : WwC (m + 1) := by
  intro t w hw ha hl ht
  have hkid := lenF_kid hw hl
  obtain ⟨hk8, hka⟩ := ask_kid ha
  obtain ⟨⟨hnd, _⟩, hkn, hk⟩ := hw
  have hkd := ndB_kind hnd
  have hK : ¬ ((t []).kind = 6 ∧ (t []).mx = 0) → ∀ q, q < (t []).kn → Szs (wrdF m (kid t q)) 40000 ∧ ∀ V, Below w.heap.size w V → Calls Tryz.prog 21 #[ndV (t [q])] V (LsP V (wrdF m (kid t q))) := fun h q hq => by
    have hl' := hkid h q hq
    refine ⟨(wrd_size m _ (hk q hq) hl').mono (by omega), fun V b => ?_⟩
    exact hIH (kid t q) V (hk q hq) (hka q hq) hl' (((ht.kid q hq).below b).mono b.size)
  by_cases k1 : (t []).kind = 1
  · exact words_1 m t w k1
  by_cases k2 : (t []).kind = 2
  · exact words_2 m t w k2 (ndB_lit hnd k2).1 (ndB_lit hnd k2).2
  by_cases k3 : (t []).kind = 3
  · exact words_3 m t w k3 ht.ranges (by have := ht.node.1; omega) (ssB_at (ndB_cls hnd k3))
  by_cases k4 : (t []).kind = 4
  · have h2 := ndB_row hnd (.inl k4)
    exact words_4 m t w k4 (by omega) hkn ht (fun q hq => (hK (by omega) q hq).1) (fun q hq => (hK (by omega) q hq).2)
  by_cases k5 : (t []).kind = 5
  · have h2 := ndB_row hnd (.inr k5)
    exact words_5 m t w k5 (by omega) hkn ht (fun q hq => (hK (by omega) q hq).1) (fun q hq => (hK (by omega) q hq).2)
  by_cases k6 : (t []).kind = 6
  · have h6 := ndB_rep hnd k6
    by_cases hx : (t []).mx = 0
    · exact words_60 m t w k6 hx
    · have k0 := hK (fun e => hx e.2) 0 (by omega)
      by_cases hg : wrdF m (kid t 0) = none ∨ grwS (wrdF m (kid t 0)) = false
      · exact words_61 m t w k6 h6.1 hx ⟨h6.2.1, h6.2.2.1⟩ h6.2.2.2 hg ht k0.2
      · exact words_62 m t w k6 h6.1 hx ⟨h6.2.1, h6.2.2.1⟩ h6.2.2.2 ⟨fun e => hg (.inl e), by cases e : grwS (wrdF m (kid t 0)) with
          | true => rfl
          | false => exact absurd (.inr e) hg⟩ k0.1 ht k0.2
  have k7 : (t []).kind = 7 := by omega
  have h1 := ndB_grp hnd k7
  exact words_7 m t w k7 h1 ht (hK (by omega) 0 (by omega)).2
theorem wwords_any : ∀ m, WwC m
  | 0 => fun _ _ h => by cases h
  | m + 1 => wwords_step m (wwords_any m)
end Go.Proofs.YtbciclnffokjjaaGreatDoor
