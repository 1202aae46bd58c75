/- A bundle of texts. -/
import Derived.Test.YtbciclnffokjjaaDoorBb36
import Derived.Test.YtbciclnffokjjaaDoorBb24
import Derived.SizedLaws
import Derived.ProofKit
import Derived.OpenShut
import Derived.ChangeSlices
import Derived.ChangeSame
import Derived.ChangeOld
import Derived.Carry
import Derived.Deep.Slices
import Derived.Test.YtbciclnffokjjaaDoorBb04
/- frontOf. -/
namespace Go.Proofs.YtbciclnffokjjaaDoor
open Go.RowKit Go.Lib

theorem bA_empty : (⟨#[]⟩ : ByteArray) = bA [] := rfl
theorem bA_enc (r : Int) : bA (Utf8.encode r).data.toList = Utf8.encode r := bA_eta _
set_option maxHeartbeats 4000000 in
set_option maxRecDepth 100000 in
theorem front_step (m : Nat) (hIH : FrC m) : FrC (m + 1) := by
  intro t w hw hl ht hT
  have hsz := tabs_size hT
  have hkid := lenF_kid hw hl
  have hw0 := hw
  obtain ⟨⟨hnd, _⟩, hkn, hk⟩ := hw
  have hkd := ndB_kind hnd
  obtain ⟨W, hW⟩ : ∃ W, W = (w.alloc (ndX (t []))).alloc (fX ⟨#[]⟩ false) := ⟨_, rfl⟩
  have HW : Hid (W = (w.alloc (ndX (t []))).alloc (fX ⟨#[]⟩ false)) := hW
  have hWz : W.heap.size = w.heap.size + 2 := by rw [hW]; simp
  have hb0 : Below (w.heap.size) w W := by rw [hW]; exact ((Below.refl _ w).alloc (Nat.le_refl _) _).alloc (by simp) _
  have hr0 : W.heap[w.heap.size + 1]? = some (fX ⟨#[]⟩ false) := by rw [hW]; have := World.alloc_heap_new (w.alloc (ndX (t []))) (fX ⟨#[]⟩ false); rwa [World.size_alloc] at this
  have hc := ndX_cells (w := w) (t []) (W := W) (by rw [hW]; exact (Below.refl _ _).alloc (Nat.le_refl _) _)
  have HB0 : Hid (Below w.heap.size w W) := hb0
  have HFIN : Hid (∀ (w2 : World) (s : ByteArray) (X : Bool), Below W.heap.size W w2 → Below w.heap.size w ((w2.setCell ⟨w.heap.size + 1, 0, none⟩ (.string s)).setCell ⟨w.heap.size + 1, 1, none⟩ (.bool X))) := fun w2 s X b => ((hb0.trans (b.mono hb0.size)).setCell (p := ⟨w.heap.size + 1, 0, none⟩) (show w.heap.size ≤ w.heap.size + 1 by omega) _).setCell (p := ⟨w.heap.size + 1, 1, none⟩) (show w.heap.size ≤ w.heap.size + 1 by omega) _
  have HR : Hid (∀ w2, Below W.heap.size W w2 → w2.cell? ⟨w.heap.size + 1, 0, none⟩ = some (.string ⟨#[]⟩) ∧ w2.cell? ⟨w.heap.size + 1, 1, none⟩ = some (.bool false) ∧ w2.frozen? ⟨w.heap.size + 1, 0, none⟩ = false ∧ w2.frozen? ⟨w.heap.size + 1, 1, none⟩ = false) := fun w2 b => fx_cells ((b.block (w.heap.size + 1) (by omega)).trans hr0)
  have htW : Tat W.heap.size W t := (ht.below hb0).mono hb0.size
  have hTW : Lib.Utf8Tabs 0 1 W := tabs_below hT hsz hb0
  obtain ⟨q0, q1, q2, q3, q4, q5, q6, q7, q8⟩ := hc
  simp only [Nat.zero_add] at q0 q1 q2 q3 q4 q5 q6 q7 q8
  obtain ⟨r0, r1, z0, z1⟩ := fx_cells hr0
  by_cases k2 : (t []).kind = 2
  · have kT := text_one W.heap.size (t []).r (W.alloc (.cells #[.int .i32 (t []).r] 21)) (by unfold World.cell?; rw [World.alloc_heap_new]; rfl)
    have HE : Hid (frF cmC (m + 1) t = if Utf8.valid (t []).r = true then ((Utf8.encode (t []).r).data.toList, true) else ([], false)) := by
      unfold Hid
      unfold frF
      rw [if_pos k2]
    rw [hWz] at kT
    have HX : Hid (W.alloc (.cells #[.int .i32 (t []).r] 21) = W.alloc (.cells #[.int .i32 (t []).r] 21)) := rfl
    have rr := HR.out (W.alloc (.cells #[.int .i32 (t []).r] 21)) ((Below.refl _ _).alloc (Nat.le_refl _) _)
    have HFW := HFIN.out (W.alloc (.cells #[.int .i32 (t []).r] 21))
    have HFW2 : Hid (∀ (s : ByteArray) (X : Bool), Below w.heap.size w (((W.alloc (.cells #[.int .i32 (t []).r] 21)).setCell ⟨w.heap.size + 1, 0, none⟩ (.string s)).setCell ⟨w.heap.size + 1, 1, none⟩ (.bool X))) := fun s X => HFW s X ((Below.refl _ _).alloc (Nat.le_refl _) _)
    obtain ⟨d, hd⟩ : ∃ d, t [] = d := ⟨_, rfl⟩
    rw [hd] at HW q0 q1 q2 q3 q4 q5 q6 q7 q8 k2 kT HE rr HFW2 ⊢
    have t2 : (d.kind == 2) = true := by simpa using k2
    have RR : Hid _ := rr
    clear hd rr
    clear hnd hkn hk hkid hIH ht hb0 hr0 hT hW hkd htW hTW HR HFIN HFW k2 HX hw0 hl
    cases hv : Utf8.valid d.r
    · rw [hv] at kT HE
      simp only [Bool.false_eq_true, if_false] at kT HE
      clear hv
      go_enter Tryd.func9, Tryd.ntmps9
      go_upto_region 1 with fail
      rw [← HW.out]
      go_wp2_with fail
      go_fit kT
      rintro e w2 ⟨rfl, hw2⟩
      rw [← hw2] at RR HFW2
      obtain ⟨r0, r1, z0, z1⟩ := RR.out
      clear hw2 RR kT
      go_wp2
      refine bodyPost_ret (v := frV ([], false)) (by simp [results, Tryd.results9, go_sem, r0, r1]) rfl ⟨by rw [HE.out], HFW2.out _ _⟩
    · rw [hv] at kT HE
      simp only [if_true] at kT HE
      clear hv
      go_enter Tryd.func9, Tryd.ntmps9
      go_upto_region 1 with fail
      rw [← HW.out]
      go_wp2_with fail
      go_fit kT
      rintro e w2 ⟨rfl, hw2⟩
      rw [← hw2] at RR HFW2
      obtain ⟨r0, r1, z0, z1⟩ := RR.out
      clear hw2 RR kT
      go_wp2
      refine bodyPost_ret (v := frV ((Utf8.encode d.r).data.toList, true)) (by rw [show frV ((Utf8.encode d.r).data.toList, true) = .agg #[.string (Utf8.encode d.r), .bool true] by unfold frV; rw [bA_enc]]; simp [results, Tryd.results9, go_sem, r0, r1]) rfl ⟨by rw [HE.out], HFW2.out _ _⟩
  have HE : frF cmC (m + 1) t = if (t []).kind = 3 then ([], false) else if (t []).kind = 4 then rowF (fun q => frF cmC m (kid t q)) (t []).kn else if (t []).kind = 5 then comF cmC (fun q => frF cmC m (kid t q)) ((t []).kn - 1) else if (t []).kind = 6 then repF (frF cmC m (kid t 0)) (t []).mn (t []).mx else if (t []).kind = 7 then frF cmC m (kid t 0) else ([], true) := by
    conv => lhs; unfold frF
    rw [if_neg k2]
  have t2 : ((t []).kind == 2) = false := by simpa using k2
  have HRR : Hid (∀ w2, Below W.heap.size W w2 → ∀ f : Fr, (w2.cell? ⟨w.heap.size + 1, 0, none⟩ = some (.string ⟨#[]⟩) ∧ w2.cell? ⟨w.heap.size + 1, 1, none⟩ = some (.bool false) ∧ w2.frozen? ⟨w.heap.size + 1, 0, none⟩ = false ∧ w2.frozen? ⟨w.heap.size + 1, 1, none⟩ = false)) := fun w2 b _ => HR.out w2 b
  by_cases k3 : (t []).kind = 3
  · rw [if_pos k3] at HE
    have HE' : Hid _ := HE
    have HFW := HFIN.out W
    have HFW2 : Hid (∀ (s : ByteArray) (X : Bool), Below w.heap.size w ((W.setCell ⟨w.heap.size + 1, 0, none⟩ (.string s)).setCell ⟨w.heap.size + 1, 1, none⟩ (.bool X))) := fun s X => HFW s X (Below.refl _ _)
    obtain ⟨d, hd⟩ : ∃ d, t [] = d := ⟨_, rfl⟩
    rw [hd] at HW q0 q1 q2 q3 q4 q5 q6 q7 q8 k3 t2 ⊢
    have t3 : (d.kind == 3) = true := by simpa using k3
    clear hnd hkn hk hkid hIH ht hb0 hr0 hT hW hkd htW hTW HR HRR HFIN HFW k2 k3 hw0 hl hd HE
    go_enter Tryd.func9, Tryd.ntmps9
    go_upto_region 1 with fail
    rw [← HW.out]
    go_wp2
    refine bodyPost_ret (v := frV ([], false)) (by simp [results, Tryd.results9, go_sem, r0, r1]) rfl ⟨by rw [HE'.out], HFW2.out _ _⟩
  rw [if_neg k3] at HE
  have t3 : ((t []).kind == 3) = false := by simpa using k3
  by_cases k4 : (t []).kind = 4
  · rw [if_pos k4] at HE
    have HE' : Hid _ := HE
    have kC := rowFront_any m hIH t W (fun j hj => ⟨hk j hj, hkid (fun e => by omega) j hj⟩) hkn htW hTW
    obtain ⟨f, hf⟩ : ∃ f, rowF (fun q => frF cmC m (kid t q)) (t []).kn = f := ⟨_, rfl⟩
    rw [hf] at HE' kC
    obtain ⟨gt, ge⟩ := f
    have HEQ : Hid (frF cmC (m + 1) t = (gt, ge)) := HE'
    obtain ⟨d, hd⟩ : ∃ d, t [] = d := ⟨_, rfl⟩
    rw [hd] at HW q0 q1 q2 q3 q4 q5 q6 q7 q8 k4 t2 t3 kC ⊢
    have t4 : (d.kind == 4) = true := by simpa using k4
    clear hnd hkn hk hkid hIH ht hb0 hr0 hT hW hkd htW hTW k2 k3 k4 hw0 hl hd HE hf HE' HR
    go_enter Tryd.func9, Tryd.ntmps9
    go_upto_region 1 with fail
    rw [← HW.out]
    go_wp2_with fail
    go_fit kC
    rintro e w2 ⟨rfl, b2⟩
    obtain ⟨r0, r1, z0, z1⟩ := HRR.out w2 b2 (gt, ge)
    have HFW2 : Hid _ := HFIN.out w2 (bA gt) ge b2
    clear b2 kC HRR HFIN
    go_wp2
    refine bodyPost_ret (v := frV (gt, ge)) (by simp [results, Tryd.results9, go_sem, r0, r1]) rfl ⟨by rw [HEQ.out], HFW2.out⟩
  rw [if_neg k4] at HE
  have t4 : ((t []).kind == 4) = false := by simpa using k4
  by_cases k5 : (t []).kind = 5
  · rw [if_pos k5] at HE
    have HE' : Hid _ := HE
    have kC := commonFront_any m hIH t W (fun j hj => ⟨hk j hj, hkid (fun e => by omega) j hj⟩) hkn (ndB_row hnd (.inr k5)) htW hTW
    obtain ⟨f, hf⟩ : ∃ f, comF cmC (fun q => frF cmC m (kid t q)) ((t []).kn - 1) = f := ⟨_, rfl⟩
    rw [hf] at HE' kC
    obtain ⟨gt, ge⟩ := f
    have HEQ : Hid (frF cmC (m + 1) t = (gt, ge)) := HE'
    obtain ⟨d, hd⟩ : ∃ d, t [] = d := ⟨_, rfl⟩
    rw [hd] at HW q0 q1 q2 q3 q4 q5 q6 q7 q8 k5 t2 t3 t4 kC ⊢
    have t5 : (d.kind == 5) = true := by simpa using k5
    clear hnd hkn hk hkid hIH ht hb0 hr0 hT hW hkd htW hTW k2 k3 k4 k5 hw0 hl hd HE hf HE' HR
    go_enter Tryd.func9, Tryd.ntmps9
    go_upto_region 1 with fail
    rw [← HW.out]
    go_wp2_with fail
    go_fit kC
    rintro e w2 ⟨rfl, b2⟩
    obtain ⟨r0, r1, z0, z1⟩ := HRR.out w2 b2 (gt, ge)
    have HFW2 : Hid _ := HFIN.out w2 (bA gt) ge b2
    clear b2 kC HRR HFIN
    go_wp2
    refine bodyPost_ret (v := frV (gt, ge)) (by simp [results, Tryd.results9, go_sem, r0, r1]) rfl ⟨by rw [HEQ.out], HFW2.out⟩
  rw [if_neg k5] at HE
  have t5 : ((t []).kind == 5) = false := by simpa using k5
  by_cases k6 : (t []).kind = 6
  · rw [if_pos k6] at HE
    have HE' : Hid _ := HE
    have kC := repeatFront_any m hIH t W hw0 hl k6 htW hTW
    obtain ⟨f, hf⟩ : ∃ f, repF (frF cmC m (kid t 0)) (t []).mn (t []).mx = f := ⟨_, rfl⟩
    rw [hf] at HE' kC
    obtain ⟨gt, ge⟩ := f
    have HEQ : Hid (frF cmC (m + 1) t = (gt, ge)) := HE'
    obtain ⟨d, hd⟩ : ∃ d, t [] = d := ⟨_, rfl⟩
    rw [hd] at HW q0 q1 q2 q3 q4 q5 q6 q7 q8 k6 t2 t3 t4 t5 kC ⊢
    have t6 : (d.kind == 6) = true := by simpa using k6
    clear hnd hkn hk hkid hIH ht hb0 hr0 hT hW hkd htW hTW k2 k3 k4 k5 k6 hw0 hl hd HE hf HE' HR
    go_enter Tryd.func9, Tryd.ntmps9
    go_upto_region 1 with fail
    rw [← HW.out]
    go_wp2_with fail
    go_fit kC
    rintro e w2 ⟨rfl, b2⟩
    obtain ⟨r0, r1, z0, z1⟩ := HRR.out w2 b2 (gt, ge)
    have HFW2 : Hid _ := HFIN.out w2 (bA gt) ge b2
    clear b2 kC HRR HFIN
    go_wp2
    refine bodyPost_ret (v := frV (gt, ge)) (by simp [results, Tryd.results9, go_sem, r0, r1]) rfl ⟨by rw [HEQ.out], HFW2.out⟩
  rw [if_neg k6] at HE
  have t6 : ((t []).kind == 6) = false := by simpa using k6
  by_cases k7 : (t []).kind = 7
  · rw [if_pos k7] at HE
    have HE' : Hid _ := HE
    have hk1 := ndB_grp hnd k7
    have kC := hIH (kid t 0) W (hk 0 (by omega)) (hkid (fun e => by omega) 0 (by omega)) (htW.kid 0 (by omega)) hTW
    change Calls Tryd.prog 9 #[ndV (t [0])] W _ at kC
    obtain ⟨f, hf⟩ : ∃ f, frF cmC m (kid t 0) = f := ⟨_, rfl⟩
    rw [hf] at HE' kC
    obtain ⟨gt, ge⟩ := f
    have HEQ : Hid (frF cmC (m + 1) t = (gt, ge)) := HE'
    obtain ⟨g1, o1, hka, hg1, hcs⟩ := htW.kids.at 0 (by omega)
    obtain ⟨p0, p1, p2, p3, p4, p5, p6, p7, p8⟩ := hcs
    simp only [Nat.zero_mul, Nat.add_zero] at p0 p1 p2 p3 p4 p5 p6 p7 p8
    rw [hka] at q8
    have hkI : 0 < ((t []).kn : Int) := by omega
    clear hk1 hka
    generalize t [0] = d0 at *
    obtain ⟨d, hd⟩ : ∃ d, t [] = d := ⟨_, rfl⟩
    rw [hd] at hkI HW q0 q1 q2 q3 q4 q5 q6 q7 q8 k7 t2 t3 t4 t5 t6 ⊢
    have t7 : (d.kind == 7) = true := by simpa using k7
    clear hnd hkn hk hkid hIH ht hb0 hr0 hT hW hkd htW hTW k2 k3 k4 k5 k6 k7 hw0 hl hd HE hf HE' HR
    go_enter Tryd.func9, Tryd.ntmps9
    go_upto_region 1 with fail
    rw [← HW.out]
    go_wp2_with fail
    go_fit kC
    rintro e w2 ⟨rfl, b2⟩
    obtain ⟨r0, r1, z0, z1⟩ := HRR.out w2 b2 (gt, ge)
    have HFW2 : Hid _ := HFIN.out w2 (bA gt) ge b2
    clear b2 kC HRR HFIN
    go_wp2
    refine bodyPost_ret (v := frV (gt, ge)) (by simp [results, Tryd.results9, go_sem, r0, r1]) rfl ⟨by rw [HEQ.out], HFW2.out⟩
  rw [if_neg k7] at HE
  have t7 : ((t []).kind == 7) = false := by simpa using k7
  have HE' : Hid _ := HE
  have HFW := HFIN.out W
  have HFW2 : Hid (∀ (s : ByteArray) (X : Bool), Below w.heap.size w ((W.setCell ⟨w.heap.size + 1, 0, none⟩ (.string s)).setCell ⟨w.heap.size + 1, 1, none⟩ (.bool X))) := fun s X => HFW s X (Below.refl _ _)
  obtain ⟨d, hd⟩ : ∃ d, t [] = d := ⟨_, rfl⟩
  rw [hd] at HW q0 q1 q2 q3 q4 q5 q6 q7 q8 t2 t3 t4 t5 t6 t7 ⊢
  clear hnd hkn hk hkid hIH ht hb0 hr0 hT hW hkd htW hTW HR HRR HFIN HFW k2 k3 k4 k5 k6 k7 hw0 hl hd HE
  go_enter Tryd.func9, Tryd.ntmps9
  go_upto_region 1 with fail
  rw [← HW.out]
  go_wp2
  refine bodyPost_ret (v := frV ([], true)) (by simp [results, Tryd.results9, go_sem, r0, r1]) rfl ⟨by rw [HE'.out], HFW2.out _ _⟩
theorem front_any : ∀ m, FrC m
  | 0 => fun _ _ h => by cases h
  | m + 1 => front_step m (front_any m)
end Go.Proofs.YtbciclnffokjjaaDoor
/- Prefix. -/
namespace Go.Proofs.YtbciclnffokjjaaDoor
open Go.RowKit Go.Lib

set_option maxHeartbeats 1000000 in
set_option maxRecDepth 100000 in
theorem hasProgram_any (t : Tr) (w : World) (ht : Tat w.heap.size w t) : Calls Tryd.prog 8 #[ndV (t [])] w fun e w' => e = .returned (.bool (decide (0 < sizF t) && decide (sizF t ≤ 10000))) ∧ Below w.heap.size w w' := by
  have hb : Below w.heap.size w (w.alloc (ndX (t []))) := (Below.refl _ w).alloc (Nat.le_refl _) _
  have kS := size_any t _ ((ht.below hb).mono hb.size)
  have HB : Hid _ := hb
  clear ht hb
  generalize sizF t = s at *
  generalize t [] = d at *
  by_cases h0 : 0 < s
  · rw [decide_eq_true h0, Bool.true_and]
    go_enter Tryd.func8, Tryd.ntmps8
    go_wp2_with fail
    go_fit kS
    rintro e w1 ⟨rfl, b1⟩
    have B1 : Hid _ := HB.out.trans (b1.mono HB.out.size)
    clear b1
    go_wp2
    go_ret
    exact ⟨rfl, B1.out⟩
  · rw [decide_eq_false h0]
    go_enter Tryd.func8, Tryd.ntmps8
    go_wp2_with fail
    go_fit kS
    rintro e w1 ⟨rfl, b1⟩
    have B1 : Hid _ := HB.out.trans (b1.mono HB.out.size)
    clear b1
    go_wp2
    go_ret
    exact ⟨rfl, B1.out⟩
/-- What Prefix answers. -/
def preF (t : Tr) : List UInt8 := if 0 < sizF t ∧ sizF t ≤ 10000 then (frF cmC 8195 t).1 else []
set_option maxHeartbeats 1000000 in
set_option maxRecDepth 100000 in
theorem prefix_any (t : Tr) (w : World) (ht : Tat w.heap.size w t) (hT : Lib.Utf8Tabs 0 1 w) : Calls Tryd.prog 4 #[ndV (t [])] w fun e w' => e = .returned (.string (bA (preF t))) ∧ Below w.heap.size w w' := by
  have hsz := tabs_size hT
  have hb : Below w.heap.size w (w.alloc (ndX (t []))) := (Below.refl _ w).alloc (Nat.le_refl _) _
  have ht1 := (ht.below hb).mono hb.size
  have kH := hasProgram_any t _ ht1
  have HB : Hid _ := hb
  have hc := ndX_cells (w := w) (t []) (Below.refl _ _)
  by_cases h : 0 < sizF t ∧ sizF t ≤ 10000
  · have hp : preF t = (frF cmC 8195 t).1 := by unfold preF; rw [if_pos h]
    obtain ⟨hok, hlen, hsz2⟩ := sizF_ok (t := t) (by omega) h.2
    have hwf := WF_ok hok
    rw [decide_eq_true h.1, decide_eq_true h.2] at kH
    have HF : Hid (∀ w1, Below (w.alloc (ndX (t []))).heap.size (w.alloc (ndX (t []))) w1 → (Calls Tryd.prog 9 #[ndV (t [])] w1 fun e w' => e = .returned (frV (frF cmC 8195 t)) ∧ Below w1.heap.size w1 w') ∧ Cs w1 w.heap.size 0 (t []) ∧ Below w.heap.size w w1) := fun w1 b => ⟨front_any 8195 t w1 hwf (by omega) ((ht1.below b).mono b.size) (tabs_below (tabs_below hT hsz hb) (by simp; omega) b), hc.below b (by simp), hb.trans (b.mono hb.size)⟩
    rw [hp]
    clear ht ht1 hb hc hok hlen hsz2 hwf hp h
    obtain ⟨⟨ft, fe⟩, hf⟩ : ∃ f, frF cmC 8195 t = f := ⟨_, rfl⟩
    rw [hf] at HF ⊢
    clear hf
    generalize t [] = d at *
    go_enter Tryd.func4, Tryd.ntmps4
    go_wp2_with fail
    go_fit kH
    rintro e w1 ⟨rfl, b1⟩
    obtain ⟨kF, hc1, hb1⟩ := HF.out w1 b1
    have HB1 : Hid (Below w.heap.size w w1) := hb1
    obtain ⟨q0, q1, q2, q3, q4, q5, q6, q7, q8⟩ := hc1
    simp only [Nat.zero_add] at q0 q1 q2 q3 q4 q5 q6 q7 q8
    clear b1 hb1 HF kH
    go_wp2_with fail
    go_fit kF
    rintro e w2 ⟨rfl, b2⟩
    have HB2 : Hid _ := HB1.out.trans (b2.mono HB1.out.size)
    clear b2
    have hfl : ∀ w : World, Sem.run Tryd.prog (Instr.field 39 (frV (ft, fe)) 0) w = .ok (.string (bA ft)) w := fun _ => by kernel_rfl
    go_wp2
    go_ret
    exact ⟨rfl, HB2.out⟩
  · have hp : preF t = [] := by unfold preF; rw [if_neg h]
    rw [hp]
    have hd : (decide (0 < sizF t) && decide (sizF t ≤ 10000)) = false := by
      rw [Bool.and_eq_false_iff]
      by_cases h1 : 0 < sizF t
      · exact .inr (decide_eq_false (fun h2 => h ⟨h1, h2⟩))
      · exact .inl (decide_eq_false h1)
    rw [hd] at kH
    clear hd h hp ht ht1 hb hc
    generalize t [] = d at *
    go_enter Tryd.func4, Tryd.ntmps4
    go_wp2_with fail
    go_fit kH
    rintro e w1 ⟨rfl, b1⟩
    have B1 : Hid _ := HB.out.trans (b1.mono HB.out.size)
    clear b1
    go_wp2
    go_ret
    exact ⟨rfl, B1.out⟩
end Go.Proofs.YtbciclnffokjjaaDoor
/- RxprogSounds: a program that came in. -/
namespace Go.Proofs.YtbciclnffokjjaaDoor
open Go.ChangeShapes Go.WideShapes Go.ChangeAt Go.RowKit

theorem own : ownKnob Tryd.prog.godebug = none := by kernel_rfl
theorem laidOut : laidOutB Tryd.prog = true := by kernel_rfl
theorem weights_all {H : Type} {P : Program} {e : TypeId} {d : DataW H} : ∀ {es : List (DataW H)}, d ∈ es → ∀ n ∈ d.weights P e, n ∈ DataW.weightsAll P e es
  | [], h, _, _ => by cases h
  | d0 :: es, h, n, hn => by
    simp only [DataW.weightsAll, List.mem_append]
    rcases List.mem_cons.1 h with rfl | h
    · exact .inl hn
    · exact .inr (weights_all h n hn)
theorem weights_elem {H : Type} {P : Program} {t e : TypeId} {es ss : List (DataW H)} {d : DataW H} (hu : P.underlying t = some (.slice e)) (hd : d ∈ es) (n : Nat) (hn : n ∈ d.weights P e) : n ∈ (DataW.slice es ss : DataW H).weights P t := by
  simp only [DataW.weights, hu, List.mem_cons, List.mem_append]
  exact .inr (.inl (weights_all hd n hn))

set_option maxRecDepth 100000 in
theorem ranges_open {H : Type} {enc : TypeId × Value → H} {W : World} {v : Value} {d : DataW H} {p : List MemPlace} {fuel : Nat}
    (hf : DataW.trod enc Tryd.prog W 0 (fun _ => true) true fuel 22 [v] = some (d, p)) (hz : ∀ n ∈ d.weights Tryd.prog 22, n ≤ reachBytes) :
    ∃ (a : Option Addr) (len cap : Nat) (f : Nat → Rg), v = .slice a len cap ∧ Rml W a f len ∧ len * 8 ≤ 140737488351232 ∧ (a = none → len = 0 ∧ cap = 0) := by
  rcases Go.Deep.open_slice Tryd.underlying22 hf with ⟨hcs, _⟩ | ⟨x, l, c, m, n, D, Pl, hcs, _, hl, hm, hmm, hd, hall⟩
  · simp at hcs
    exact ⟨none, 0, 0, fun _ => (0, 0), hcs, .inl rfl, by omega, fun _ => ⟨rfl, rfl⟩⟩
  · simp at hcs
    have hm' : m = c := by simpa using hmm
    subst hm'
    obtain ⟨rfl, _⟩ := Prod.mk.inj hd
    have hC : Tryd.prog.cellsOf 51 = 2 := by kernel_rfl
    have each : ∀ i, i < m → ∃ u : Rg, W.cell? (x.add (i * 2)) = some (.int .i32 u.1) ∧ W.cell? (x.add (i * 2 + 1)) = some (.int .i32 u.2) := by
      intro i hi
      obtain ⟨cs', h1, h2⟩ := hall i hi
      rw [hC] at h1
      obtain ⟨_, hlen, hcell⟩ := World.cells?_some h1
      obtain ⟨xs, k, hk, hxy, _, hxl, hff⟩ := DataW.trod_struct Tryd.underlying51 h2
      match xs, hxl, cs', hlen with
      | [y0, y1], _, [v0, v1], _ =>
        have g0 := hff 0 _ rfl
        have g1 := hff 1 _ rfl
        have c3 : Tryd.prog.cellsOf 21 = 1 := by kernel_rfl
        simp [c3] at g0 g1
        obtain ⟨t, e0, _, _⟩ := DataW.trod_int Tryd.underlying21 g0
        obtain ⟨s, e1, _, _⟩ := DataW.trod_int Tryd.underlying21 g1
        have q0 := hcell 0 (by omega)
        have q1 := hcell 1 (by omega)
        rw [Go.Deep.add_add] at q0 q1
        have w0 : v0 = .int .i32 t := by simpa using e0
        have w1 : v1 = .int .i32 s := by simpa using e1
        rw [w0, w1] at q0 q1
        exact ⟨(t, s), by simpa using q0, by simpa using q1⟩
    have hI : Inhabited Rg := ⟨(0, 0)⟩
    obtain ⟨ss, hss⟩ := Go.Deep.choose_lt each
    refine ⟨some x, l, m, ss, hcs, ?_, ?_, fun h => by cases h⟩
    · by_cases h0 : l = 0
      · exact .inl h0
      · right
        obtain ⟨g, o, sp⟩ := x
        have hsp : sp = none := by
          have := (hss 0 (by omega)).1
          simpa [Addr.add] using World.cell?_spot this
        subst hsp
        have h00 := (hss 0 (by omega)).1
        rw [Go.WideShapes.add_plain] at h00
        refine ⟨g, o, rfl, block_lt_of_cell h00, fun j hj => ?_⟩
        obtain ⟨q0, q1⟩ := hss j (by omega)
        rw [Go.WideShapes.add_plain] at q0 q1
        exact ⟨q0, by rw [Nat.add_assoc]; exact q1⟩
    · have hb : Tryd.prog.bytesOf 51 = 8 := by kernel_rfl
      have hr : reachBytes = 140737488351232 := by decide
      have := hz ((((List.range l).map D).length + ((List.range (m - l)).map fun j => D (l + j)).length) * 8) (by
        simp only [DataW.weights, Tryd.underlying22, hb]
        exact List.mem_cons.2 (.inl rfl))
      simp at this
      omega

end Go.Proofs.YtbciclnffokjjaaDoor
