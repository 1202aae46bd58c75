/- A bundle of texts. -/
import Derived.Test.YtbciclnffokjjaaGreatDoorBt32
/- The reference's words: its beginning, leaves, groups. -/
namespace Go.Proofs.YtbciclnffokjjaaGreatDoor
open Go.RowKit Go.Lib

/-- What a call of words answers. -/
def WwC (m : Nat) : Prop := ∀ (t : Tr) (w : World), WF m t → askF m t = false → lenF m t ≤ 10000 → Tat w.heap.size w t → Calls Tryz.prog 21 #[ndV (t [])] w (LsP w (wrdF m t))
abbrev wdW (w : World) (d : Nd) : World := (((w.alloc (ndX d)).alloc (lX (.slice none 0 0) false)).alloc (.cells #[.string ⟨#[]⟩] 9)).alloc (lX (.slice (some ⟨w.heap.size + 1 + 1, 0, none⟩) 1 1) false)
/-- words, behind its first two steps. -/
structure Wd0 (w : World) (d : Nd) (V : World) : Prop where
  bx : Cs V w.heap.size 0 d
  rs : V.heap[w.heap.size + 1]? = some (lX (.slice none 0 0) false)
  bc : V.cell? ⟨w.heap.size + 1 + 1, 0, none⟩ = some (.string ⟨#[]⟩)
  bl : V.heap[w.heap.size + 1 + 1 + 1]? = some (lX (.slice (some ⟨w.heap.size + 1 + 1, 0, none⟩) 1 1) false)
  lo : Below w.heap.size w V
  sz : w.heap.size + 1 + 1 + 1 < V.heap.size
theorem Wd0.start (w : World) (d : Nd) : Wd0 w d (wdW w d) := by
  have b1 : Below (w.alloc (ndX d)).heap.size (w.alloc (ndX d)) (wdW w d) := (((Below.refl _ (w.alloc (ndX d))).alloc (Nat.le_refl _) _).alloc (by simp) _).alloc (by simp) _
  have z1 : (w.alloc (ndX d)).heap.size = w.heap.size + 1 := by simp
  have e2 := heap_alloc_new (w.alloc (ndX d)) (lX (.slice none 0 0) false)
  rw [z1] at e2
  have e3 := heap_alloc_new ((w.alloc (ndX d)).alloc (lX (.slice none 0 0) false)) (.cells #[.string ⟨#[]⟩] 9)
  rw [World.size_alloc, z1] at e3
  have e4 := heap_alloc_new (((w.alloc (ndX d)).alloc (lX (.slice none 0 0) false)).alloc (.cells #[.string ⟨#[]⟩] 9)) (lX (.slice (some ⟨w.heap.size + 1 + 1, 0, none⟩) 1 1) false)
  rw [World.size_alloc, World.size_alloc, z1] at e4
  have e3' : (wdW w d).heap[w.heap.size + 1 + 1]? = some (.cells #[.string ⟨#[]⟩] 9) := (Below.heap_alloc _ _ _ (by simp)).trans e3
  refine ⟨ndX_cells (w := w) d b1, ?_, ?_, e4, ?_, by simp⟩
  · exact (Below.heap_alloc _ _ _ (by simp)).trans ((Below.heap_alloc _ _ _ (by simp)).trans e2)
  · unfold World.cell?; rw [e3']; rfl
  · exact ((Below.refl _ w).alloc (Nat.le_refl _) _).trans (b1.mono (by simp))
theorem Wd0.below {w : World} {d : Nd} {V V' : World} (h : Wd0 w d V) (b : Below V.heap.size V V') : Wd0 w d V' := by
  have z := h.sz
  refine ⟨h.bx.below b (by omega), (b.block _ (by omega)).trans h.rs, (b.cell (p := ⟨w.heap.size + 1 + 1, 0, none⟩) (by show w.heap.size + 1 + 1 < _; omega)).trans h.bc, (b.block _ (by omega)).trans h.bl, h.lo.trans (b.mono h.lo.size), Nat.lt_of_lt_of_le z b.size⟩
/-- A list goes into the result. -/
theorem Wd0.fin {w : World} {d : Nd} {V : World} (h : Wd0 w d V) {v : Value} {m : Bool} {r : Sto} (hv : RlV V v m r) : LsP w r (.returned (.agg #[v, .bool m])) ((V.setCell ⟨w.heap.size + 1, 0, none⟩ v).setCell ⟨w.heap.size + 1, 1, none⟩ (.bool m)) :=
  ⟨⟨v, m, rfl, hv.box (two_kp _ _ _ _) (fun b e => ⟨none, 0, 0, false, by have e' : b = w.heap.size + 1 := e; rw [e']; exact h.rs⟩)⟩, two_set h.lo (by omega) _ _⟩
theorem Wd0.blank {w : World} {d : Nd} {V : World} (h : Wd0 w d V) : RlV V (.slice (some ⟨w.heap.size + 1 + 1, 0, none⟩) 1 1) false (some [⟨#[]⟩]) := by
  refine .inr ⟨[⟨#[]⟩], _, 1, rfl, rfl, rfl, .inr ⟨_, 0, rfl, by have := h.sz; omega, fun j x hj => ?_⟩⟩
  have hl := (List.getElem?_eq_some_iff.1 hj).1
  obtain rfl : j = 0 := by simpa using hl
  cases hj
  exact h.bc
theorem wrd_eq (m : Nat) (t : Tr) : wrdF (m + 1) t = if (t []).kind = 1 then some [⟨#[]⟩]
    else if (t []).kind = 2 then rngS (some []) (t []).r 1
    else if (t []).kind = 3 then clsS (some []) (t []).rf (t []).rn
    else if (t []).kind = 4 then rowH (fun q => wrdF m (kid t q)) (t []).kn 0 (t []).kn
    else if (t []).kind = 5 then altS (fun q => wrdF m (kid t q)) (t []).kn
    else if (t []).kind = 6 then repS (wrdF m (kid t 0)) (t []).mn (t []).mx
    else if (t []).kind = 7 then wrdF m (kid t 0)
    else some [] := rfl
set_option maxHeartbeats 2000000 in
set_option maxRecDepth 100000 in
theorem words_1 (m : Nat) (t : Tr) (w : World) (k1 : (t []).kind = 1) : Calls Tryz.prog 21 #[ndV (t [])] w (LsP w (wrdF (m + 1) t)) := by
  have h0 := Wd0.start w (t [])
  have HP : Hid _ := h0.fin h0.blank
  rw [wrd_eq, if_pos k1]
  obtain ⟨x0, x1, x2, x3, x4, x5, x6, x7, x8⟩ := h0.bx
  simp only [Nat.zero_add] at x0 x1 x2 x3 x4 x5 x6 x7 x8
  rw [k1] at x0
  obtain ⟨b0, b1, _, _⟩ := lx_cells h0.bl
  obtain ⟨y0, y1, z0, z1⟩ := lx_cells h0.rs
  obtain ⟨W, hW⟩ : ∃ W, W = wdW w (t []) := ⟨_, rfl⟩
  have HW : Hid (W = wdW w (t [])) := hW
  rw [← hW] at x0 x1 x2 x3 x4 x5 x6 x7 x8 b0 b1 y0 y1 z0 z1 HP
  clear h0 hW
  have HK : Hid ((t []).kind = 1) := k1
  clear k1
  generalize t [] = d at *
  go_enter Tryz.func21, Tryz.ntmps21
  go_upto_region 2 with fail
  rw [show (((w.alloc (ndX d)).alloc (lX (.slice none 0 0) false)).alloc (.cells #[.string ⟨#[]⟩] 9)).alloc (lX (.slice (some ⟨w.heap.size + 1 + 1, 0, none⟩) 1 1) false) = W from HW.out.symm]
  go_wp2
  exact bodyPost_ret (v := .agg #[.slice (some ⟨w.heap.size + 1 + 1, 0, none⟩) 1 1, .bool false]) (by simp [results, Tryz.results21, go_sem, y0, y1]) rfl HP.out
/-- A call's list goes into the result. -/
def AnsP (w : World) (r : Sto) (e : Ending) (w5 : World) : Prop := ∃ a' n' c' m', e = .returned (.agg #[.slice a' n' c', .bool m']) ∧ Hid (LsP w r (.returned (.agg #[.slice a' n' c', .bool m'])) ((w5.setCell ⟨w.heap.size + 1, 0, none⟩ (.slice a' n' c')).setCell ⟨w.heap.size + 1, 1, none⟩ (.bool m'))) ∧ w5.cell? ⟨w.heap.size + 1, 0, none⟩ = some (.slice none 0 0) ∧ w5.cell? ⟨w.heap.size + 1, 1, none⟩ = some (.bool false) ∧ w5.frozen? ⟨w.heap.size + 1, 0, none⟩ = false ∧ w5.frozen? ⟨w.heap.size + 1, 1, none⟩ = false
theorem Wd0.ans {w : World} {d : Nd} {V : World} (h : Wd0 w d V) {r : Sto} {e : Ending} {w5 : World} (hL : LsP V r e w5) : AnsP w r e w5 := by
  obtain ⟨⟨v, m, rfl, hv⟩, b⟩ := hL
  obtain ⟨a', n', c', rfl⟩ := hv.form
  have h5 := h.below b
  exact ⟨a', n', c', m, rfl, h5.fin hv, lx_cells h5.rs⟩
set_option maxHeartbeats 2000000 in
set_option maxRecDepth 100000 in
theorem words_2 (m : Nat) (t : Tr) (w : World) (kk : (t []).kind = 2) (h1 : 0 ≤ (t []).r) (h2 : (t []).r ≤ 1114111) : Calls Tryz.prog 21 #[ndV (t [])] w (LsP w (wrdF (m + 1) t)) := by
  have h0 := Wd0.start w (t [])
  have kC : Calls Tryz.prog 41 #[.slice (some ⟨(wdW w (t [])).heap.size, 0, none⟩) 1 1] ((wdW w (t [])).alloc (.cells #[.int .i32 (t []).r, .int .i32 (t []).r] 49)) (AnsP w (rngS (some []) (t []).r 1)) := by
    have e : ((wdW w (t [])).alloc (.cells #[.int .i32 (t []).r, .int .i32 (t []).r] 49)).heap[(wdW w (t [])).heap.size]? = some (.cells #[.int .i32 (t []).r, .int .i32 (t []).r] 49) := heap_alloc_new _ _
    have hR : Rml ((wdW w (t [])).alloc (.cells #[.int .i32 (t []).r, .int .i32 (t []).r] 49)) (some ⟨(wdW w (t [])).heap.size, 0, none⟩) (fun _ => ((t []).r, (t []).r)) 1 := by
      refine .inr ⟨_, 0, rfl, by simp, fun j hj => ?_⟩
      obtain rfl : j = 0 := by omega
      constructor
      · unfold World.cell?; rw [e]; rfl
      · unfold World.cell?; rw [e]; rfl
    have hb : Wd0 w (t []) ((wdW w (t [])).alloc (.cells #[.int .i32 (t []).r, .int .i32 (t []).r] 49)) := h0.below ((Below.refl _ _).alloc (Nat.le_refl _) _)
    refine (runes_any _ 1 1 (fun _ => ((t []).r, (t []).r)) _ hR (by decide) (fun _ _ => ⟨h1, Int.le_refl _, h2⟩)).mono (fun e w5 hL => ?_)
    have e2 : clsS (some []) (fun _ => ((t []).r, (t []).r)) 1 = rngS (some []) (t []).r 1 := by
      show rngS (some []) (t []).r ((t []).r - (t []).r + 1).toNat = _
      rw [show ((t []).r - (t []).r + 1).toNat = 1 by omega]
    rw [e2] at hL
    exact hb.ans hL
  rw [wrd_eq, if_neg (by omega), if_pos kk]
  obtain ⟨x0, x1, x2, x3, x4, x5, x6, x7, x8⟩ := h0.bx
  simp only [Nat.zero_add] at x0 x1 x2 x3 x4 x5 x6 x7 x8
  rw [kk] at x0
  obtain ⟨W, hW⟩ : ∃ W, W = wdW w (t []) := ⟨_, rfl⟩
  have HW : Hid (W = wdW w (t [])) := hW
  rw [← hW] at x0 x1 x2 x3 x4 x5 x6 x7 x8 kC
  clear h0 hW kk h1 h2
  generalize t [] = d at *
  go_enter Tryz.func21, Tryz.ntmps21
  go_upto_region 2 with fail
  rw [show (((w.alloc (ndX d)).alloc (lX (.slice none 0 0) false)).alloc (.cells #[.string ⟨#[]⟩] 9)).alloc (lX (.slice (some ⟨w.heap.size + 1 + 1, 0, none⟩) 1 1) false) = W from HW.out.symm]
  go_wp2_with fail
  go_fit kC
  rintro e w5 ⟨a', n', c', m', rfl, HP, y0, y1, z0, z1⟩
  clear kC
  go_wp2
  exact bodyPost_ret (v := .agg #[.slice a' n' c', .bool m']) (by simp [results, Tryz.results21, go_sem, y0, y1]) rfl HP.out
set_option maxHeartbeats 2000000 in
set_option maxRecDepth 100000 in
theorem words_3 (m : Nat) (t : Tr) (w : World) (kk : (t []).kind = 3) (hr : Rml w (t []).ra (t []).rf (t []).rn) (h1 : (t []).rn * 8 ≤ 140737488351232) (h2 : ∀ j, j < (t []).rn → 0 ≤ ((t []).rf j).1 ∧ ((t []).rf j).1 ≤ ((t []).rf j).2 ∧ ((t []).rf j).2 ≤ 1114111) : Calls Tryz.prog 21 #[ndV (t [])] w (LsP w (wrdF (m + 1) t)) := by
  have h0 := Wd0.start w (t [])
  have kC : Calls Tryz.prog 41 #[.slice (t []).ra (t []).rn (t []).rc] (wdW w (t [])) (AnsP w (clsS (some []) (t []).rf (t []).rn)) :=
    (runes_any _ _ _ (t []).rf _ (hr.below h0.lo) (by omega) h2).mono (fun e w5 hL => h0.ans hL)
  rw [wrd_eq, if_neg (by omega), if_neg (by omega), if_pos kk]
  obtain ⟨x0, x1, x2, x3, x4, x5, x6, x7, x8⟩ := h0.bx
  simp only [Nat.zero_add] at x0 x1 x2 x3 x4 x5 x6 x7 x8
  rw [kk] at x0
  obtain ⟨W, hW⟩ : ∃ W, W = wdW w (t []) := ⟨_, rfl⟩
  have HW : Hid (W = wdW w (t [])) := hW
  rw [← hW] at x0 x1 x2 x3 x4 x5 x6 x7 x8 kC
  clear h0 hW kk h1 h2 hr
  generalize clsS (some []) (t []).rf (t []).rn = R at *
  generalize t [] = d at *
  go_enter Tryz.func21, Tryz.ntmps21
  go_upto_region 2 with fail
  rw [show (((w.alloc (ndX d)).alloc (lX (.slice none 0 0) false)).alloc (.cells #[.string ⟨#[]⟩] 9)).alloc (lX (.slice (some ⟨w.heap.size + 1 + 1, 0, none⟩) 1 1) false) = W from HW.out.symm]
  go_wp2_with fail
  go_fit kC
  rintro e w5 ⟨a', n', c', m', rfl, HP, y0, y1, z0, z1⟩
  clear kC
  go_wp2
  exact bodyPost_ret (v := .agg #[.slice a' n' c', .bool m']) (by simp [results, Tryz.results21, go_sem, y0, y1]) rfl HP.out
set_option maxHeartbeats 2000000 in
set_option maxRecDepth 100000 in
theorem words_7 (m : Nat) (t : Tr) (w : World) (kk : (t []).kind = 7) (hkn : (t []).kn = 1) (ht : Tat w.heap.size w t) (hK : ∀ V, Below w.heap.size w V → Calls Tryz.prog 21 #[ndV (t [0])] V (LsP V (wrdF m (kid t 0)))) : Calls Tryz.prog 21 #[ndV (t [])] w (LsP w (wrdF (m + 1) t)) := by
  have h0 := Wd0.start w (t [])
  have kC : Calls Tryz.prog 21 #[ndV (t [0])] (wdW w (t [])) (AnsP w (wrdF m (kid t 0))) := (hK _ h0.lo).mono (fun e w5 hL => h0.ans hL)
  obtain ⟨g, o, hka, hg, hcs⟩ := (ht.below h0.lo).kids.at 0 (by omega)
  obtain ⟨k0, k1, k2, k3, k4, k5, k6, k7, k8⟩ := hcs
  simp only [Nat.zero_mul, Nat.add_zero] at k0 k1 k2 k3 k4 k5 k6 k7 k8
  rw [wrd_eq, if_neg (by omega), if_neg (by omega), if_neg (by omega), if_neg (by omega), if_neg (by omega), if_neg (by omega), if_pos kk]
  obtain ⟨x0, x1, x2, x3, x4, x5, x6, x7, x8⟩ := h0.bx
  simp only [Nat.zero_add] at x0 x1 x2 x3 x4 x5 x6 x7 x8
  rw [kk] at x0
  obtain ⟨W, hW⟩ : ∃ W, W = wdW w (t []) := ⟨_, rfl⟩
  have HW : Hid (W = wdW w (t [])) := hW
  rw [← hW] at x0 x1 x2 x3 x4 x5 x6 x7 x8 kC k0 k1 k2 k3 k4 k5 k6 k7 k8
  rw [hka, hkn] at x8
  clear h0 hW kk hK ht hg hka hkn
  generalize wrdF m (kid t 0) = R at *
  generalize t [0] = dk at *
  generalize t [] = d at *
  go_enter Tryz.func21, Tryz.ntmps21
  go_upto_region 2 with fail
  rw [show (((w.alloc (ndX d)).alloc (lX (.slice none 0 0) false)).alloc (.cells #[.string ⟨#[]⟩] 9)).alloc (lX (.slice (some ⟨w.heap.size + 1 + 1, 0, none⟩) 1 1) false) = W from HW.out.symm]
  go_wp2_with fail
  go_fit kC
  rintro e w5 ⟨a', n', c', m', rfl, HP, y0, y1, z0, z1⟩
  clear kC
  go_wp2
  exact bodyPost_ret (v := .agg #[.slice a' n' c', .bool m']) (by simp [results, Tryz.results21, go_sem, y0, y1]) rfl HP.out
end Go.Proofs.YtbciclnffokjjaaGreatDoor
/- The reference's words: rows and choices. -/
namespace Go.Proofs.YtbciclnffokjjaaGreatDoor
open Go.RowKit Go.Lib

/-- A row or a choice under way: what is put together lies in the box O. -/
structure CaI (w : World) (d : Nd) (O : Nat) (r : Sto) (V : World) : Prop where
  w0 : Wd0 w d V
  ob : ∃ v m, V.heap[O]? = some (lX v m) ∧ RlV V v m r
  hO : w.heap.size + 1 + 1 + 1 < O
theorem CaI.next {w : World} {d : Nd} {O : Nat} {r r' : Sto} {V w5 : World} (h : CaI w d O r V) (b : Below V.heap.size V w5) {v' : Value} {m' : Bool} (hv : RlV w5 v' m' r') : CaI w d O r' ((w5.setCell ⟨O, 0, none⟩ v').setCell ⟨O, 1, none⟩ (.bool m')) := by
  obtain ⟨v, m, hb1, hr1⟩ := h.ob
  obtain ⟨a, n, c, rfl⟩ := hr1.form
  have z1 := (Array.getElem?_eq_some_iff.1 hb1).1
  have hO := h.hO
  have k := two_kp w5 O v' (.bool m')
  have h5 : w5.heap[O]? = some (lX (.slice a n c) m) := (b.block _ (by omega)).trans hb1
  have w5' := h.w0.below b
  have z5 := w5'.sz
  have nO : ∀ q, q < O → ¬ (q = O) := fun q hq e => by omega
  refine ⟨⟨w5'.bx.kp k (nO _ (by omega)), (k.block _ (by omega) (nO _ (by omega))).trans w5'.rs, k.cell w5'.bc (nO (w.heap.size + 1 + 1) (by omega)), (k.block _ (by omega) (nO _ (by omega))).trans w5'.bl, two_set w5'.lo (by omega) _ _, Nat.lt_of_lt_of_le z5 k.size⟩, ⟨v', m', heap_two h5, hv.box k (fun q hq => ⟨a, n, c, m, by have e : q = O := hq; rw [e]; exact h5⟩)⟩, hO⟩
set_option maxHeartbeats 8000000 in
set_option maxRecDepth 100000 in
theorem words_4 (m : Nat) (t : Tr) (w : World) (kk : (t []).kind = 4) (hkn : 1 ≤ (t []).kn) (hkm : (t []).kn ≤ 8194) (ht : Tat w.heap.size w t) (hz : ∀ q, q < (t []).kn → Szs (wrdF m (kid t q)) 40000) (hK : ∀ q, q < (t []).kn → ∀ V, Below w.heap.size w V → Calls Tryz.prog 21 #[ndV (t [q])] V (LsP V (wrdF m (kid t q)))) : Calls Tryz.prog 21 #[ndV (t [])] w (LsP w (wrdF (m + 1) t)) := by
  have h0 := Wd0.start w (t [])
  rw [wrd_eq, if_neg (by omega), if_neg (by omega), if_neg (by omega), if_pos kk]
  rw [row_cat (fun q => wrdF_ok m _) _ 0 _ (Nat.le_refl _) hkn]
  obtain ⟨F, hF⟩ : ∃ F : Nat → Sto, F = catS (fun q => wrdF m (kid t q)) 0 := ⟨_, rfl⟩
  have HOK : Hid (∀ i, (F i).ok) := fun i => by rw [hF]; exact catS_ok _ _ i
  have HSZ : Hid (∀ i, i ≤ (t []).kn → Szs (F i) (i * 40000)) := fun i hi => by
    rw [hF]
    induction i with
    | zero => exact fun L e x hx => (by cases e; rcases List.mem_singleton.1 hx with rfl; exact Nat.zero_le _)
    | succ i ih =>
      have h1 := ih (by omega)
      have h2 := hz i (by omega)
      rw [Nat.add_mul, Nat.one_mul]
      show Szs (jnS (catS (fun q => wrdF m (kid t q)) 0 i) (wrdF m (kid t (0 + i)))) _
      rw [Nat.zero_add]
      exact h1.jn h2
  have HI0 : Hid (CaI w (t []) (wdW w (t [])).heap.size (F 0) ((wdW w (t [])).alloc (lX (.slice (some ⟨w.heap.size + 1 + 1, 0, none⟩) 1 1) false))) := by
    have hb := h0.below ((Below.refl _ (wdW w (t []))).alloc (Nat.le_refl _) (lX (.slice (some ⟨w.heap.size + 1 + 1, 0, none⟩) 1 1) false))
    refine ⟨hb, ⟨_, _, heap_alloc_new _ _, ?_⟩, by have := h0.sz; exact this⟩
    rw [hF]
    exact hb.blank
  have HST : Hid (∀ O i V, i < (t []).kn → CaI w (t []) O (F i) V → ∃ v m' g o, V.heap[O]? = some (lX v m') ∧ (t []).ka = some ⟨g, o, none⟩ ∧ (∀ V1, Below V.heap.size V V1 → (Cs V1 g (o + i * 9) (t [i]) ∧ V1.cell? ⟨w.heap.size, 8, none⟩ = some (.slice (t []).ka (t []).kn (t []).kc)) ∧ (V1.cell? ⟨O, 0, none⟩ = some v ∧ V1.cell? ⟨O, 1, none⟩ = some (.bool m')) ∧ Calls Tryz.prog 21 #[ndV (t [i])] V1 fun e V2 => (∃ v2 m2, e = .returned (.agg #[v2, .bool m2]) ∧ (V2.cell? ⟨O, 0, none⟩ = some v ∧ V2.cell? ⟨O, 1, none⟩ = some (.bool m')) ∧ Hid (Calls Tryz.prog 42 #[.agg #[v, .bool m'], .agg #[v2, .bool m2]] V2 fun e w5 => (∃ a' n' c' m5, e = .returned (.agg #[.slice a' n' c', .bool m5]) ∧ Hid (CaI w (t []) O (F (i + 1)) ((w5.setCell ⟨O, 0, none⟩ (.slice a' n' c')).setCell ⟨O, 1, none⟩ (.bool m5)))) ∧ (∃ u, w5.cell? ⟨O, 0, none⟩ = some u) ∧ (∃ u, w5.cell? ⟨O, 1, none⟩ = some u) ∧ w5.frozen? ⟨O, 0, none⟩ = false ∧ w5.frozen? ⟨O, 1, none⟩ = false)))) := fun O i V hi h => by
    obtain ⟨v, m', hbo, hrl⟩ := h.ob
    obtain ⟨g, o, hka, _, _⟩ := ht.kids.at i hi
    refine ⟨v, m', g, o, hbo, hka, fun V1 b1 => ?_⟩
    have hzz := (Array.getElem?_eq_some_iff.1 hbo).1
    have w1 := h.w0.below b1
    obtain ⟨g', o', hka', _, hcs⟩ := (ht.below w1.lo).kids.at i hi
    rw [hka] at hka'
    cases hka'
    obtain ⟨c0, c1, _, _⟩ := lx_cells ((b1.block _ hzz).trans hbo)
    refine ⟨⟨hcs, by have := w1.bx.c8; rw [Nat.zero_add] at this; exact this⟩, ⟨c0, c1⟩, ?_⟩
    refine (hK i hi V1 w1.lo).mono ?_
    rintro e V2 ⟨⟨v2, m2, rfl, hv2⟩, b2⟩
    have b12 : Below V.heap.size V V2 := b1.trans (b2.mono b1.size)
    obtain ⟨c0, c1, _, _⟩ := lx_cells ((b12.block _ hzz).trans hbo)
    refine ⟨v2, m2, rfl, ⟨c0, c1⟩, ?_⟩
    refine (then_any v v2 m' m2 (F i) (wrdF m (kid t i)) (i * 40000) 40000 V2 (hrl.below b12) hv2 (HOK.out i) (wrdF_ok m _) (HSZ.out i (by omega)) (hz i hi) (by have : i * 40000 ≤ 8194 * 40000 := Nat.mul_le_mul_right _ (by omega); omega)).mono ?_
    rintro e w5 ⟨⟨v5, m5, rfl, hv5⟩, b5⟩
    have b15 : Below V.heap.size V w5 := b12.trans (b5.mono b12.size)
    obtain ⟨c0, c1, f0, f1⟩ := lx_cells ((b15.block _ hzz).trans hbo)
    have e5 : F (i + 1) = jnS (F i) (wrdF m (kid t i)) := by rw [hF]; show jnS _ (wrdF m (kid t (0 + i))) = _; rw [Nat.zero_add]
    rw [← e5] at hv5
    obtain ⟨a', n', c', rfl⟩ := hv5.form
    exact ⟨⟨a', n', c', m5, rfl, h.next b15 hv5⟩, ⟨_, c0⟩, ⟨_, c1⟩, f0, f1⟩
  have HFIN : Hid (∀ O V, CaI w (t []) O (F (t []).kn) V → ∃ a' n' c' m', V.heap[O]? = some (lX (.slice a' n' c') m') ∧ LsP w (F (t []).kn) (.returned (.agg #[.slice a' n' c', .bool m'])) ((V.setCell ⟨w.heap.size + 1, 0, none⟩ (.slice a' n' c')).setCell ⟨w.heap.size + 1, 1, none⟩ (.bool m'))) := fun O V h => by
    obtain ⟨v, m', hbo, hrl⟩ := h.ob
    obtain ⟨a', n', c', rfl⟩ := hrl.form
    exact ⟨a', n', c', m', hbo, h.w0.fin hrl⟩
  have HBX : Hid (∀ O i V, CaI w (t []) O (F i) V → V.cell? ⟨w.heap.size, 8, none⟩ = some (.slice (t []).ka (t []).kn (t []).kc) ∧ (V.cell? ⟨w.heap.size + 1, 0, none⟩ = some (.slice none 0 0) ∧ V.cell? ⟨w.heap.size + 1, 1, none⟩ = some (.bool false) ∧ V.frozen? ⟨w.heap.size + 1, 0, none⟩ = false ∧ V.frozen? ⟨w.heap.size + 1, 1, none⟩ = false)) := fun O i V h => ⟨by have := h.w0.bx.c8; rw [Nat.zero_add] at this; exact this, lx_cells h.w0.rs⟩
  rw [← hF]
  obtain ⟨x0, x1, x2, x3, x4, x5, x6, x7, x8⟩ := h0.bx
  simp only [Nat.zero_add] at x0 x1 x2 x3 x4 x5 x6 x7 x8
  rw [kk] at x0
  obtain ⟨l0, l1, _, _⟩ := lx_cells h0.bl
  obtain ⟨W, hW⟩ : ∃ W, W = wdW w (t []) := ⟨_, rfl⟩
  have HW : Hid (W = wdW w (t [])) := hW
  rw [← hW] at x0 x1 x2 x3 x4 x5 x6 x7 x8 l0 l1 HI0
  have hkI : ((t []).kn : Int) ≤ 8194 := by omega
  clear h0 hW kk hK ht hz hkn hkm HOK HSZ hF
  obtain ⟨dk, hdk⟩ : ∃ dk : Nat → Nd, dk = fun i => t [i] := ⟨_, rfl⟩
  have HDK : Hid (∀ i, t [i] = dk i) := fun i => by rw [hdk]
  clear hdk
  generalize t [] = d at *
  go_enter Tryz.func21, Tryz.ntmps21
  go_upto_region 2 with fail
  rw [show (((w.alloc (ndX d)).alloc (lX (.slice none 0 0) false)).alloc (.cells #[.string ⟨#[]⟩] 9)).alloc (lX (.slice (some ⟨w.heap.size + 1 + 1, 0, none⟩) 1 1) false) = W from HW.out.symm]
  go_upto_region 13 with fail
  obtain ⟨O, hO⟩ : ∃ O, O = W.heap.size := ⟨_, rfl⟩
  rw [← hO] at HI0 ⊢
  have HO : Hid (O = W.heap.size) := hO
  clear hO x0 x1 x2 x3 x4 x5 x6 x7 x8 l0 l1
  generalize W.alloc (lX (.slice (some ⟨w.heap.size + 1 + 1, 0, none⟩) 1 1) false) = V0 at *
  go_wp2_with fail
  go_loopw [5] (fun ivv w' => ∃ i : Nat, ivv = .int .i64 (i : Int) ∧ i ≤ d.kn ∧ Hid (CaI w d O (F i) w')) (fun ivv _ => d.kn - (RowKit.intOf ivv).toNat)
  case atStart => exact ⟨0, rfl, Nat.zero_le _, HI0⟩
  case round =>
    clear HI0
    obtain ⟨i, rfl, hi, hinv⟩ := hrel
    obtain ⟨x8, y0, y1, z0, z1⟩ := HBX.out O i wr hinv.out
    by_cases hlt : i < d.kn
    · have hii : (i : Int) < d.kn := by omega
      obtain ⟨v, m', g, o, hbo, hka, HV1⟩ := HST.out O i wr hlt hinv.out
      have HV1' : Hid _ := HV1
      have hb0 : Below wr.heap.size wr wr := Below.refl _ _
      obtain ⟨⟨⟨k0, k1, k2, k3, k4, k5, k6, k7, k8⟩, _⟩, ⟨o0, o1⟩, _⟩ := HV1 wr hb0
      rw [hka] at x8
      clear HST HFIN HBX hinv HV1 hbo y0 y1 z0 z1 hka
      rw [HDK.out i] at k0 k1 k2 k3 k4 k5 k6 k7 k8 HV1'
      go_wp2_with fail
      go_region_with (first | (go_at_call 21; go_fit (HV1'.out _ hb0).2.2; rintro e V2 ⟨v2, m2, rfl, ⟨s0, s1⟩, HC2⟩) | (go_at_call 21; go_fit (HV1'.out _ hb0.drew).2.2; rintro e V2 ⟨v2, m2, rfl, ⟨s0, s1⟩, HC2⟩) | (go_at_call 42; go_fit HC2.out; rintro e w5 ⟨⟨a', n', c', m5, rfl, HN⟩, ⟨u0, j0⟩, ⟨u1, j1⟩, f0, f1⟩))
      all_goals
        go_wp2
        exact ⟨⟨i + 1, by go_num, by omega, HN⟩, by simp [RowKit.intOf]; omega⟩
    · have hii : ¬ (i : Int) < d.kn := by omega
      obtain rfl : i = d.kn := by omega
      obtain ⟨a', n', c', m', hbo, hP⟩ := HFIN.out O wr hinv.out
      obtain ⟨r0, r1, _, _⟩ := lx_cells hbo
      have HP : Hid _ := hP
      clear HST HFIN HBX hinv hbo hP
      go_wp2
      exact bodyPost_ret (v := .agg #[.slice a' n' c', .bool m']) (by simp [results, Tryz.results21, go_sem, y0, y1]) rfl HP.out
end Go.Proofs.YtbciclnffokjjaaGreatDoor
