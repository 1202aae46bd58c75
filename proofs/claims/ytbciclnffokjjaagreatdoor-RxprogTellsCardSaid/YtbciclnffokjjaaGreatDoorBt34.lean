/- A bundle of texts. -/
import Derived.Test.YtbciclnffokjjaaGreatDoorBt33
/- The reference's words: choices. -/
namespace Go.Proofs.YtbciclnffokjjaaGreatDoor
open Go.RowKit Go.Lib

set_option maxHeartbeats 8000000 in
set_option maxRecDepth 100000 in
theorem words_5 (m : Nat) (t : Tr) (w : World) (kk : (t []).kind = 5) (hkn : 1 ≤ (t []).kn) (hkm : (t []).kn ≤ 8194) (ht : Tat w.heap.size w t) (hz : ∀ q, q < (t []).kn → Szs (wrdF m (kid t q)) 40000) (hK : ∀ q, q < (t []).kn → ∀ V, Below w.heap.size w V → Calls Tryz.prog 21 #[ndV (t [q])] V (LsP V (wrdF m (kid t q)))) : Calls Tryz.prog 21 #[ndV (t [])] w (LsP w (wrdF (m + 1) t)) := by
  have h0 := Wd0.start w (t [])
  rw [wrd_eq, if_neg (by omega), if_neg (by omega), if_neg (by omega), if_neg (by omega), if_pos kk]
  obtain ⟨F, hF⟩ : ∃ F : Nat → Sto, F = altS (fun q => wrdF m (kid t q)) := ⟨_, rfl⟩
  have HOK : Hid (∀ i, (F i).ok) := fun i => by rw [hF]; exact altS_ok _ i
  have HSZ : Hid (∀ i, i ≤ (t []).kn → Szs (F i) (i * 40000)) := fun i hi => by
    rw [hF]
    induction i with
    | zero => exact Szs.nil _
    | succ i ih =>
      have h1 := ih (by omega)
      have h2 := hz i (by omega)
      rw [Nat.add_mul, Nat.one_mul]
      exact Szs.all (altS_ok _ i) (h1.mono (by omega)) (h2.mono (by omega))
  have HI0 : Hid (CaI w (t []) (wdW w (t [])).heap.size (F 0) ((wdW w (t [])).alloc (lX (.slice none 0 0) false))) := by
    have hb := h0.below ((Below.refl _ (wdW w (t []))).alloc (Nat.le_refl _) (lX (.slice none 0 0) false))
    refine ⟨hb, ⟨_, _, heap_alloc_new _ _, ?_⟩, by have := h0.sz; exact this⟩
    rw [hF]
    exact .inr ⟨[], none, 0, rfl, rfl, rfl, .inl rfl⟩
  have HST : Hid (∀ O i V, i < (t []).kn → CaI w (t []) O (F i) V → ∃ v m' g o, V.heap[O]? = some (lX v m') ∧ (t []).ka = some ⟨g, o, none⟩ ∧ (∀ V1, Below V.heap.size V V1 → (Cs V1 g (o + i * 9) (t [i]) ∧ V1.cell? ⟨w.heap.size, 8, none⟩ = some (.slice (t []).ka (t []).kn (t []).kc)) ∧ (V1.cell? ⟨O, 0, none⟩ = some v ∧ V1.cell? ⟨O, 1, none⟩ = some (.bool m')) ∧ Calls Tryz.prog 21 #[ndV (t [i])] V1 fun e V2 => (∃ v2 m2, e = .returned (.agg #[v2, .bool m2]) ∧ (V2.cell? ⟨O, 0, none⟩ = some v ∧ V2.cell? ⟨O, 1, none⟩ = some (.bool m')) ∧ Hid (Calls Tryz.prog 43 #[.agg #[v, .bool m'], .agg #[v2, .bool m2]] V2 fun e w5 => (∃ a' n' c' m5, e = .returned (.agg #[.slice a' n' c', .bool m5]) ∧ Hid (CaI w (t []) O (F (i + 1)) ((w5.setCell ⟨O, 0, none⟩ (.slice a' n' c')).setCell ⟨O, 1, none⟩ (.bool m5)))) ∧ (∃ u, w5.cell? ⟨O, 0, none⟩ = some u) ∧ (∃ u, w5.cell? ⟨O, 1, none⟩ = some u) ∧ w5.frozen? ⟨O, 0, none⟩ = false ∧ w5.frozen? ⟨O, 1, none⟩ = false)))) := fun O i V hi h => by
    obtain ⟨v, m', hbo, hrl⟩ := h.ob
    obtain ⟨g, o, hka, _, _⟩ := ht.kids.at i hi
    refine ⟨v, m', g, o, hbo, hka, fun V1 b1 => ?_⟩
    have hzz := (Array.getElem?_eq_some_iff.1 hbo).1
    have w1 := h.w0.below b1
    obtain ⟨g', o', hka', _, hcs⟩ := (ht.below w1.lo).kids.at i hi
    rw [hka] at hka'
    cases hka'
    obtain ⟨c0, c1, _, _⟩ := lx_cells ((b1.block _ hzz).trans hbo)
    refine ⟨⟨hcs, by have := w1.bx.c8; rw [Nat.zero_add] at this; exact this⟩, ⟨c0, c1⟩, ?_⟩
    refine (hK i hi V1 w1.lo).mono ?_
    rintro e V2 ⟨⟨v2, m2, rfl, hv2⟩, b2⟩
    have b12 : Below V.heap.size V V2 := b1.trans (b2.mono b1.size)
    obtain ⟨c0, c1, _, _⟩ := lx_cells ((b12.block _ hzz).trans hbo)
    refine ⟨v2, m2, rfl, ⟨c0, c1⟩, ?_⟩
    refine (and_any v v2 m' m2 (F i) (wrdF m (kid t i)) V2 (hrl.below b12) hv2 (HOK.out i) (wrdF_ok m _)).mono ?_
    rintro e w5 ⟨⟨v5, m5, rfl, hv5⟩, b5⟩
    have b15 : Below V.heap.size V w5 := b12.trans (b5.mono b12.size)
    obtain ⟨c0, c1, f0, f1⟩ := lx_cells ((b15.block _ hzz).trans hbo)
    have e5 : F (i + 1) = allS (F i) (wrdF m (kid t i)) := by rw [hF]; rfl
    rw [← e5] at hv5
    obtain ⟨a', n', c', rfl⟩ := hv5.form
    exact ⟨⟨a', n', c', m5, rfl, h.next b15 hv5⟩, ⟨_, c0⟩, ⟨_, c1⟩, f0, f1⟩
  have HFIN : Hid (∀ O V, CaI w (t []) O (F (t []).kn) V → ∃ a' n' c' m', V.heap[O]? = some (lX (.slice a' n' c') m') ∧ LsP w (F (t []).kn) (.returned (.agg #[.slice a' n' c', .bool m'])) ((V.setCell ⟨w.heap.size + 1, 0, none⟩ (.slice a' n' c')).setCell ⟨w.heap.size + 1, 1, none⟩ (.bool m'))) := fun O V h => by
    obtain ⟨v, m', hbo, hrl⟩ := h.ob
    obtain ⟨a', n', c', rfl⟩ := hrl.form
    exact ⟨a', n', c', m', hbo, h.w0.fin hrl⟩
  have HBX : Hid (∀ O i V, CaI w (t []) O (F i) V → V.cell? ⟨w.heap.size, 8, none⟩ = some (.slice (t []).ka (t []).kn (t []).kc) ∧ (V.cell? ⟨w.heap.size + 1, 0, none⟩ = some (.slice none 0 0) ∧ V.cell? ⟨w.heap.size + 1, 1, none⟩ = some (.bool false) ∧ V.frozen? ⟨w.heap.size + 1, 0, none⟩ = false ∧ V.frozen? ⟨w.heap.size + 1, 1, none⟩ = false)) := fun O i V h => ⟨by have := h.w0.bx.c8; rw [Nat.zero_add] at this; exact this, lx_cells h.w0.rs⟩
  rw [← hF]
  obtain ⟨x0, x1, x2, x3, x4, x5, x6, x7, x8⟩ := h0.bx
  simp only [Nat.zero_add] at x0 x1 x2 x3 x4 x5 x6 x7 x8
  rw [kk] at x0
  obtain ⟨l0, l1, _, _⟩ := lx_cells h0.bl
  obtain ⟨W, hW⟩ : ∃ W, W = wdW w (t []) := ⟨_, rfl⟩
  have HW : Hid (W = wdW w (t [])) := hW
  rw [← hW] at x0 x1 x2 x3 x4 x5 x6 x7 x8 l0 l1 HI0
  have hkI : ((t []).kn : Int) ≤ 8194 := by omega
  clear h0 hW kk hK ht hz hkn hkm HOK HSZ hF
  obtain ⟨dk, hdk⟩ : ∃ dk : Nat → Nd, dk = fun i => t [i] := ⟨_, rfl⟩
  have HDK : Hid (∀ i, t [i] = dk i) := fun i => by rw [hdk]
  clear hdk
  generalize t [] = d at *
  go_enter Tryz.func21, Tryz.ntmps21
  go_upto_region 2 with fail
  rw [show (((w.alloc (ndX d)).alloc (lX (.slice none 0 0) false)).alloc (.cells #[.string ⟨#[]⟩] 9)).alloc (lX (.slice (some ⟨w.heap.size + 1 + 1, 0, none⟩) 1 1) false) = W from HW.out.symm]
  go_upto_region 20 with fail
  obtain ⟨O, hO⟩ : ∃ O, O = W.heap.size := ⟨_, rfl⟩
  rw [← hO] at HI0 ⊢
  have HO : Hid (O = W.heap.size) := hO
  clear hO x0 x1 x2 x3 x4 x5 x6 x7 x8 l0 l1
  generalize W.alloc (lX (.slice none 0 0) false) = V0 at *
  go_wp2_with fail
  go_loopw [7] (fun ivv w' => ∃ i : Nat, ivv = .int .i64 (i : Int) ∧ i ≤ d.kn ∧ Hid (CaI w d O (F i) w')) (fun ivv _ => d.kn - (RowKit.intOf ivv).toNat)
  case atStart => exact ⟨0, rfl, Nat.zero_le _, HI0⟩
  case round =>
    clear HI0
    obtain ⟨i, rfl, hi, hinv⟩ := hrel
    obtain ⟨x8, y0, y1, z0, z1⟩ := HBX.out O i wr hinv.out
    by_cases hlt : i < d.kn
    · have hii : (i : Int) < d.kn := by omega
      obtain ⟨v, m', g, o, hbo, hka, HV1⟩ := HST.out O i wr hlt hinv.out
      have HV1' : Hid _ := HV1
      have hb0 : Below wr.heap.size wr wr := Below.refl _ _
      obtain ⟨⟨⟨k0, k1, k2, k3, k4, k5, k6, k7, k8⟩, _⟩, ⟨o0, o1⟩, _⟩ := HV1 wr hb0
      rw [hka] at x8
      clear HST HFIN HBX hinv HV1 hbo y0 y1 z0 z1 hka
      rw [HDK.out i] at k0 k1 k2 k3 k4 k5 k6 k7 k8 HV1'
      go_wp2_with fail
      go_region_with (first | (go_at_call 21; go_fit (HV1'.out _ hb0).2.2; rintro e V2 ⟨v2, m2, rfl, ⟨s0, s1⟩, HC2⟩) | (go_at_call 21; go_fit (HV1'.out _ hb0.drew).2.2; rintro e V2 ⟨v2, m2, rfl, ⟨s0, s1⟩, HC2⟩) | (go_at_call 43; go_fit HC2.out; rintro e w5 ⟨⟨a', n', c', m5, rfl, HN⟩, ⟨u0, j0⟩, ⟨u1, j1⟩, f0, f1⟩))
      all_goals
        go_wp2
        exact ⟨⟨i + 1, by go_num, by omega, HN⟩, by simp [RowKit.intOf]; omega⟩
    · have hii : ¬ (i : Int) < d.kn := by omega
      obtain rfl : i = d.kn := by omega
      obtain ⟨a', n', c', m', hbo, hP⟩ := HFIN.out O wr hinv.out
      obtain ⟨r0, r1, _, _⟩ := lx_cells hbo
      have HP : Hid _ := hP
      clear HST HFIN HBX hinv hbo hP
      go_wp2
      exact bodyPost_ret (v := .agg #[.slice a' n' c', .bool m']) (by simp [results, Tryz.results21, go_sem, y0, y1]) rfl HP.out
end Go.Proofs.YtbciclnffokjjaaGreatDoor
