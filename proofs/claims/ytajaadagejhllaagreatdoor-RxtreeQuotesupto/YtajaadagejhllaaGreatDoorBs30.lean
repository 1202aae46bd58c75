/- A bundle of texts. -/
import Derived.Test.YtajaadagejhllaaGreatDoorBs26
import Derived.Test.YtajaadagejhllaaGreatDoorBs29
/- Show: a node. -/
namespace Go.Proofs.YtajaadagejhllaaGreatDoor
open Go.RowKit Go.Lib

theorem ssB_at {f : Nat → Rg} : ∀ {n : Nat}, ssB f n = true → ∀ j, j < n → esB f j = true
  | 0, _, j, hj => by omega
  | n + 1, h, j, hj => by
    cases hb : esB f j with
    | true => rfl
    | false => rw [ssB_bad hb hj] at h; cases h
theorem set_rg {f : Nat → Rg} {n : Nat} (h : setB f n = true) : ∀ j, j < n → 0 ≤ (f j).1 ∧ (f j).1 ≤ 1114111 ∧ 0 ≤ (f j).2 ∧ (f j).2 ≤ 1114111 := fun j hj => by
  have h1 : ssB f n = true := by
    unfold setB at h
    rw [Bool.and_eq_true] at h
    exact h.1
  have h2 := ssB_at h1 j hj
  unfold esB at h2
  simp at h2
  omega
theorem nd_lit {d : Nd} (h : ndB d = true) (k : d.kind = 2) : 0 ≤ d.r ∧ d.r ≤ 1114111 := by
  obtain ⟨a, b, c⟩ := nd_bare h
  have := (nd_of a b c).1
  rw [h, if_pos k] at this
  unfold ruB at this
  simpa using this.symm
theorem nd_cls {d : Nd} (h : ndB d = true) (k : d.kind = 3) : setB d.rf d.rn = true := by
  obtain ⟨a, b, c⟩ := nd_bare h
  have := (nd_of a b c).1
  rw [h, if_neg (by omega), if_pos k] at this
  exact this.symm

set_option maxHeartbeats 8000000 in
set_option maxRecDepth 100000 in
theorem wnode_2 (S B m : Nat) (v : Value) (w : World) (T : ByteArray) (t : Tr) (hIH : NW S B m) (hv : Wt S w B v T) (hS : S ≤ w.heap.size) (hT : T.size ≤ 4096) (ht : Tat S w t) (hA : TbA S w) (hwf : WF (m + 1) t) (hk : (t []).kind = 2) :
    Calls Tryz.prog 53 #[.pointer (some ⟨B, 0, none⟩), ndV (t [])] w fun e w' => Wr S B v w T (tx (m + 1) t) e w' := by
  have hb0 : Below w.heap.size w (w.alloc (ndX (t []))) := (Below.refl _ w).alloc (Nat.le_refl _) _
  have hcs := ndX_cells (w := w) (t []) (Below.refl _ _)
  have hv0 := hv.below hb0
  have ht0 := ht.below (hb0.mono hS)
  have hA0 := hA.below (hb0.mono hS)
  have hG : ¬ Mv B v w.heap.size := fun e => by have := (hv.base _ e).2; omega
  have hnode := ht.node
  obtain ⟨⟨hnd, _⟩, _, hkids⟩ := hwf
  obtain ⟨W0, hW0⟩ : ∃ W0, W0 = w.alloc (ndX (t [])) := ⟨_, rfl⟩
  have HW0 : Hid (W0 = w.alloc (ndX (t []))) := hW0
  obtain ⟨G, hGG⟩ : ∃ G, G = w.heap.size := ⟨_, rfl⟩
  have HG : Hid (G = w.heap.size) := hGG
  rw [← hW0] at hb0 hcs hv0 ht0 hA0
  rw [← hGG] at hcs hG
  have HB : Hid (Bs S B v W0) := hv0.bs (Nat.le_trans hS hb0.size)
  have HQ0 : Hid (Wq S B v W0 T W0) := hv0.q
  have HCL : Hid (∀ w', Kp (Mv B v) W0 w' → Cs w' G 0 (t [])) := fun w' k => hcs.kp k hG
  have HF : Hid (∀ X e w', Wr S B v W0 T X e w' → Wr S B v w T X e w') := fun X e w' h => h.re (Sub.refl _ _) (Kp.of hb0)
  have HK : Hid (∀ s T5 w5, Wq S B v W0 T5 w5 → T5.size ≤ 4096 → Calls Tryz.prog 72 #[.pointer (some ⟨B, 0, none⟩), ndV (t []), .string s] w5 fun e w' => Wr S B v W0 T5 (txK (tx m) t s (t []).kn) e w') := fun s T5 w5 q h5 => q.use fun v1 a => kids_any S B m v1 w5 T5 s t hIH a (Nat.le_trans HB.out.sz q.kp.size) h5 (ht0.below (HB.out.below q.kp)) (hA0.below (HB.out.below q.kp)) hkids
  have HTB : Hid (∀ w5, Kp (Mv B v) W0 w5 → TbI w5 ∧ TbZ w5) := fun w5 k => hA0 w5 (HB.out.below k)
  have HTs : Hid (T.size ≤ 4096) := hT
  have HX : Hid (tx (m + 1) t = liB (t []).r) := by
    show (if (t []).kind = 2 then _ else if (t []).kind = 3 then _ else if (t []).kind = 5 then _ else if (t []).kind = 4 then _ else if (t []).kind = 6 then _ else if (t []).kind = 7 then _ else _) = _
    rw [if_pos hk]
  obtain ⟨r0, r1⟩ := nd_lit hnd hk
  have kL := lit_any (t []).r r0 r1 W0 (HTB.out W0 (Kp.refl _ _)).2
  have hke : ((t []).kind == 2) = true := by simpa using hk
  clear hk
  generalize hKX : txK (tx m) t = KX at *
  clear hKX
  have hcs0 := HCL.out W0 (Kp.refl _ _)
  generalize t [] = d at *
  obtain ⟨e0, e1, e2, e3, e4, e5, e6, e7, e8⟩ := hcs0
  simp only [Nat.zero_add] at e0 e1 e2 e3 e4 e5 e6 e7 e8
  clear hv ht hA hkids hIH hb0 hcs hv0 ht0 hA0 hG hnode hW0 hGG hT hS hnd
  go_enter Tryz.func53, Tryz.ntmps53
  go_upto_region 1 with fail
  rw [← HW0.out, ← HG.out]
  go_wp2_with fail
  go_fit kL
  rintro e w3 ⟨rfl, b3⟩
  have k4 := (HQ0.out.below b3).put HB.out HTs.out (liB d.r)
  clear b3 kL e0 e1 e2 e3 e4 e5 e6 e7 e8
  go_wp2_with fail
  go_fit k4
  rintro e w4 h
  rcases h with ⟨h1, rfl, h2⟩ | ⟨h1, rfl, h2⟩
  · have Z4 : Hid ((T).size + (liB d.r).size ≤ 4096) := h1
    have Q4 : Hid (Wq S B v W0 ((T) ++ liB d.r) w4) := h2
    have k2' := h2.kp
    clear h1 h2 k4
    go_wp2
    go_end0
    refine HF.out _ _ _ (.inl ⟨?_, rfl, ?_⟩)
    · have h2 := Z4.out
      rw [HX.out]
      have hnl := nil_size
      try simp only [ByteArray.size_append] at h2 ⊢
      omega
    · have h2 := Q4.out
      rw [HX.out]
      simpa only [ByteArray.append_assoc, app_nil] using h2
  · have Z4 : Hid (¬ (T).size + (liB d.r).size ≤ 4096) := h1
    have Q4 : Hid (Kp (Mv B v) W0 w4) := h2
    clear h1 h2 k4
    go_wp2
    refine ⟨rfl, HF.out _ _ _ (.inr ⟨?_, rfl, Q4.out⟩)⟩
    have h2 := Z4.out
    rw [HX.out]
    have hnl := nil_size
    try simp only [ByteArray.size_append] at h2 ⊢
    omega

set_option maxHeartbeats 8000000 in
set_option maxRecDepth 100000 in
theorem wnode_3 (S B m : Nat) (v : Value) (w : World) (T : ByteArray) (t : Tr) (hIH : NW S B m) (hv : Wt S w B v T) (hS : S ≤ w.heap.size) (hT : T.size ≤ 4096) (ht : Tat S w t) (hA : TbA S w) (hwf : WF (m + 1) t) (hk : (t []).kind = 3) :
    Calls Tryz.prog 53 #[.pointer (some ⟨B, 0, none⟩), ndV (t [])] w fun e w' => Wr S B v w T (tx (m + 1) t) e w' := by
  have hb0 : Below w.heap.size w (w.alloc (ndX (t []))) := (Below.refl _ w).alloc (Nat.le_refl _) _
  have hcs := ndX_cells (w := w) (t []) (Below.refl _ _)
  have hv0 := hv.below hb0
  have ht0 := ht.below (hb0.mono hS)
  have hA0 := hA.below (hb0.mono hS)
  have hG : ¬ Mv B v w.heap.size := fun e => by have := (hv.base _ e).2; omega
  have hnode := ht.node
  obtain ⟨⟨hnd, _⟩, _, hkids⟩ := hwf
  obtain ⟨W0, hW0⟩ : ∃ W0, W0 = w.alloc (ndX (t [])) := ⟨_, rfl⟩
  have HW0 : Hid (W0 = w.alloc (ndX (t []))) := hW0
  obtain ⟨G, hGG⟩ : ∃ G, G = w.heap.size := ⟨_, rfl⟩
  have HG : Hid (G = w.heap.size) := hGG
  rw [← hW0] at hb0 hcs hv0 ht0 hA0
  rw [← hGG] at hcs hG
  have HB : Hid (Bs S B v W0) := hv0.bs (Nat.le_trans hS hb0.size)
  have HQ0 : Hid (Wq S B v W0 T W0) := hv0.q
  have HCL : Hid (∀ w', Kp (Mv B v) W0 w' → Cs w' G 0 (t [])) := fun w' k => hcs.kp k hG
  have HF : Hid (∀ X e w', Wr S B v W0 T X e w' → Wr S B v w T X e w') := fun X e w' h => h.re (Sub.refl _ _) (Kp.of hb0)
  have HK : Hid (∀ s T5 w5, Wq S B v W0 T5 w5 → T5.size ≤ 4096 → Calls Tryz.prog 72 #[.pointer (some ⟨B, 0, none⟩), ndV (t []), .string s] w5 fun e w' => Wr S B v W0 T5 (txK (tx m) t s (t []).kn) e w') := fun s T5 w5 q h5 => q.use fun v1 a => kids_any S B m v1 w5 T5 s t hIH a (Nat.le_trans HB.out.sz q.kp.size) h5 (ht0.below (HB.out.below q.kp)) (hA0.below (HB.out.below q.kp)) hkids
  have HTB : Hid (∀ w5, Kp (Mv B v) W0 w5 → TbI w5 ∧ TbZ w5) := fun w5 k => hA0 w5 (HB.out.below k)
  have HTs : Hid (T.size ≤ 4096) := hT
  have HX : Hid (tx (m + 1) t = clB (t []).rf (t []).rn) := by
    show (if (t []).kind = 2 then _ else if (t []).kind = 3 then _ else if (t []).kind = 5 then _ else if (t []).kind = 4 then _ else if (t []).kind = 6 then _ else if (t []).kind = 7 then _ else _) = _
    rw [if_neg (by omega), if_pos hk]
  have hst := set_rg (nd_cls hnd hk)
  have k4 := class_any S B v W0 T (t []).ra (t []).rf (t []).rn (t []).rc W0 HB.out hA0 HQ0.out HTs.out ht0.ranges (by omega) hst
  have hke : ((t []).kind == 2) = false := by simp; omega
  have hk3 : ((t []).kind == 3) = true := by simpa using hk
  clear hk hst
  generalize hKX : txK (tx m) t = KX at *
  clear hKX
  have hcs0 := HCL.out W0 (Kp.refl _ _)
  generalize t [] = d at *
  obtain ⟨e0, e1, e2, e3, e4, e5, e6, e7, e8⟩ := hcs0
  simp only [Nat.zero_add] at e0 e1 e2 e3 e4 e5 e6 e7 e8
  clear hv ht hA hkids hIH hb0 hcs hv0 ht0 hA0 hG hnode hW0 hGG hT hS hnd
  go_enter Tryz.func53, Tryz.ntmps53
  go_upto_region 1 with fail
  rw [← HW0.out, ← HG.out]
  go_wp2_with fail
  go_fit k4
  rintro e w4 h
  rcases h with ⟨h1, rfl, h2⟩ | ⟨h1, rfl, h2⟩
  · have Z4 : Hid ((T).size + (clB d.rf d.rn).size ≤ 4096) := h1
    have Q4 : Hid (Wq S B v W0 ((T) ++ clB d.rf d.rn) w4) := h2
    have k2' := h2.kp
    clear h1 h2 k4
    go_wp2
    go_end0
    refine HF.out _ _ _ (.inl ⟨?_, rfl, ?_⟩)
    · have h2 := Z4.out
      rw [HX.out]
      have hnl := nil_size
      try simp only [ByteArray.size_append] at h2 ⊢
      omega
    · have h2 := Q4.out
      rw [HX.out]
      simpa only [ByteArray.append_assoc, app_nil] using h2
  · have Z4 : Hid (¬ (T).size + (clB d.rf d.rn).size ≤ 4096) := h1
    have Q4 : Hid (Kp (Mv B v) W0 w4) := h2
    clear h1 h2 k4
    go_wp2
    refine ⟨rfl, HF.out _ _ _ (.inr ⟨?_, rfl, Q4.out⟩)⟩
    have h2 := Z4.out
    rw [HX.out]
    have hnl := nil_size
    try simp only [ByteArray.size_append] at h2 ⊢
    omega

set_option maxHeartbeats 8000000 in
set_option maxRecDepth 100000 in
theorem wnode_5 (S B m : Nat) (v : Value) (w : World) (T : ByteArray) (t : Tr) (hIH : NW S B m) (hv : Wt S w B v T) (hS : S ≤ w.heap.size) (hT : T.size ≤ 4096) (ht : Tat S w t) (hA : TbA S w) (hwf : WF (m + 1) t) (hk : (t []).kind = 5) :
    Calls Tryz.prog 53 #[.pointer (some ⟨B, 0, none⟩), ndV (t [])] w fun e w' => Wr S B v w T (tx (m + 1) t) e w' := by
  have hb0 : Below w.heap.size w (w.alloc (ndX (t []))) := (Below.refl _ w).alloc (Nat.le_refl _) _
  have hcs := ndX_cells (w := w) (t []) (Below.refl _ _)
  have hv0 := hv.below hb0
  have ht0 := ht.below (hb0.mono hS)
  have hA0 := hA.below (hb0.mono hS)
  have hG : ¬ Mv B v w.heap.size := fun e => by have := (hv.base _ e).2; omega
  have hnode := ht.node
  obtain ⟨⟨hnd, _⟩, _, hkids⟩ := hwf
  obtain ⟨W0, hW0⟩ : ∃ W0, W0 = w.alloc (ndX (t [])) := ⟨_, rfl⟩
  have HW0 : Hid (W0 = w.alloc (ndX (t []))) := hW0
  obtain ⟨G, hGG⟩ : ∃ G, G = w.heap.size := ⟨_, rfl⟩
  have HG : Hid (G = w.heap.size) := hGG
  rw [← hW0] at hb0 hcs hv0 ht0 hA0
  rw [← hGG] at hcs hG
  have HB : Hid (Bs S B v W0) := hv0.bs (Nat.le_trans hS hb0.size)
  have HQ0 : Hid (Wq S B v W0 T W0) := hv0.q
  have HCL : Hid (∀ w', Kp (Mv B v) W0 w' → Cs w' G 0 (t [])) := fun w' k => hcs.kp k hG
  have HF : Hid (∀ X e w', Wr S B v W0 T X e w' → Wr S B v w T X e w') := fun X e w' h => h.re (Sub.refl _ _) (Kp.of hb0)
  have HK : Hid (∀ s T5 w5, Wq S B v W0 T5 w5 → T5.size ≤ 4096 → Calls Tryz.prog 72 #[.pointer (some ⟨B, 0, none⟩), ndV (t []), .string s] w5 fun e w' => Wr S B v W0 T5 (txK (tx m) t s (t []).kn) e w') := fun s T5 w5 q h5 => q.use fun v1 a => kids_any S B m v1 w5 T5 s t hIH a (Nat.le_trans HB.out.sz q.kp.size) h5 (ht0.below (HB.out.below q.kp)) (hA0.below (HB.out.below q.kp)) hkids
  have HTB : Hid (∀ w5, Kp (Mv B v) W0 w5 → TbI w5 ∧ TbZ w5) := fun w5 k => hA0 w5 (HB.out.below k)
  have HTs : Hid (T.size ≤ 4096) := hT
  have HX : Hid (tx (m + 1) t = txK (tx m) t ⟨#[124]⟩ (t []).kn) := by
    show (if (t []).kind = 2 then _ else if (t []).kind = 3 then _ else if (t []).kind = 5 then _ else if (t []).kind = 4 then _ else if (t []).kind = 6 then _ else if (t []).kind = 7 then _ else _) = _
    rw [if_neg (by omega), if_neg (by omega), if_pos hk]
  have k4 := HK.out ⟨#[124]⟩ T W0 HQ0.out HTs.out
  have h2 : ((t []).kind == 2) = false := by simp; omega
  have h3 : ((t []).kind == 3) = false := by simp; omega
  have h5 : ((t []).kind == 5) = true := by simpa using hk
  clear hk
  generalize hKX : txK (tx m) t = KX at *
  clear hKX
  have hcs0 := HCL.out W0 (Kp.refl _ _)
  generalize t [] = d at *
  obtain ⟨e0, e1, e2, e3, e4, e5, e6, e7, e8⟩ := hcs0
  simp only [Nat.zero_add] at e0 e1 e2 e3 e4 e5 e6 e7 e8
  clear hv ht hA hkids hIH hb0 hcs hv0 ht0 hA0 hG hnode hW0 hGG hT hS hnd
  go_enter Tryz.func53, Tryz.ntmps53
  go_upto_region 1 with fail
  rw [← HW0.out, ← HG.out]
  go_wp2_with fail
  go_fit k4
  rintro e w4 h
  rcases h with ⟨h1, rfl, h2⟩ | ⟨h1, rfl, h2⟩
  · have Z4 : Hid ((T).size + (KX ⟨#[124]⟩ d.kn).size ≤ 4096) := h1
    have Q4 : Hid (Wq S B v W0 ((T) ++ KX ⟨#[124]⟩ d.kn) w4) := h2
    have k2' := h2.kp
    clear h1 h2 k4
    go_wp2
    go_end0
    refine HF.out _ _ _ (.inl ⟨?_, rfl, ?_⟩)
    · have h2 := Z4.out
      rw [HX.out]
      have hnl := nil_size
      try simp only [ByteArray.size_append] at h2 ⊢
      omega
    · have h2 := Q4.out
      rw [HX.out]
      simpa only [ByteArray.append_assoc, app_nil] using h2
  · have Z4 : Hid (¬ (T).size + (KX ⟨#[124]⟩ d.kn).size ≤ 4096) := h1
    have Q4 : Hid (Kp (Mv B v) W0 w4) := h2
    clear h1 h2 k4
    go_wp2
    refine ⟨rfl, HF.out _ _ _ (.inr ⟨?_, rfl, Q4.out⟩)⟩
    have h2 := Z4.out
    rw [HX.out]
    have hnl := nil_size
    try simp only [ByteArray.size_append] at h2 ⊢
    omega

set_option maxHeartbeats 8000000 in
set_option maxRecDepth 100000 in
theorem wnode_4 (S B m : Nat) (v : Value) (w : World) (T : ByteArray) (t : Tr) (hIH : NW S B m) (hv : Wt S w B v T) (hS : S ≤ w.heap.size) (hT : T.size ≤ 4096) (ht : Tat S w t) (hA : TbA S w) (hwf : WF (m + 1) t) (hk : (t []).kind = 4) :
    Calls Tryz.prog 53 #[.pointer (some ⟨B, 0, none⟩), ndV (t [])] w fun e w' => Wr S B v w T (tx (m + 1) t) e w' := by
  have hb0 : Below w.heap.size w (w.alloc (ndX (t []))) := (Below.refl _ w).alloc (Nat.le_refl _) _
  have hcs := ndX_cells (w := w) (t []) (Below.refl _ _)
  have hv0 := hv.below hb0
  have ht0 := ht.below (hb0.mono hS)
  have hA0 := hA.below (hb0.mono hS)
  have hG : ¬ Mv B v w.heap.size := fun e => by have := (hv.base _ e).2; omega
  have hnode := ht.node
  obtain ⟨⟨hnd, _⟩, _, hkids⟩ := hwf
  obtain ⟨W0, hW0⟩ : ∃ W0, W0 = w.alloc (ndX (t [])) := ⟨_, rfl⟩
  have HW0 : Hid (W0 = w.alloc (ndX (t []))) := hW0
  obtain ⟨G, hGG⟩ : ∃ G, G = w.heap.size := ⟨_, rfl⟩
  have HG : Hid (G = w.heap.size) := hGG
  rw [← hW0] at hb0 hcs hv0 ht0 hA0
  rw [← hGG] at hcs hG
  have HB : Hid (Bs S B v W0) := hv0.bs (Nat.le_trans hS hb0.size)
  have HQ0 : Hid (Wq S B v W0 T W0) := hv0.q
  have HCL : Hid (∀ w', Kp (Mv B v) W0 w' → Cs w' G 0 (t [])) := fun w' k => hcs.kp k hG
  have HF : Hid (∀ X e w', Wr S B v W0 T X e w' → Wr S B v w T X e w') := fun X e w' h => h.re (Sub.refl _ _) (Kp.of hb0)
  have HK : Hid (∀ s T5 w5, Wq S B v W0 T5 w5 → T5.size ≤ 4096 → Calls Tryz.prog 72 #[.pointer (some ⟨B, 0, none⟩), ndV (t []), .string s] w5 fun e w' => Wr S B v W0 T5 (txK (tx m) t s (t []).kn) e w') := fun s T5 w5 q h5 => q.use fun v1 a => kids_any S B m v1 w5 T5 s t hIH a (Nat.le_trans HB.out.sz q.kp.size) h5 (ht0.below (HB.out.below q.kp)) (hA0.below (HB.out.below q.kp)) hkids
  have HTB : Hid (∀ w5, Kp (Mv B v) W0 w5 → TbI w5 ∧ TbZ w5) := fun w5 k => hA0 w5 (HB.out.below k)
  have HTs : Hid (T.size ≤ 4096) := hT
  have HX : Hid (tx (m + 1) t = txK (tx m) t ⟨#[]⟩ (t []).kn) := by
    show (if (t []).kind = 2 then _ else if (t []).kind = 3 then _ else if (t []).kind = 5 then _ else if (t []).kind = 4 then _ else if (t []).kind = 6 then _ else if (t []).kind = 7 then _ else _) = _
    rw [if_neg (by omega), if_neg (by omega), if_neg (by omega), if_pos hk]
  have k4 := HK.out ⟨#[]⟩ T W0 HQ0.out HTs.out
  have h2 : ((t []).kind == 2) = false := by simp; omega
  have h3 : ((t []).kind == 3) = false := by simp; omega
  have h5 : ((t []).kind == 5) = false := by simp; omega
  have h4 : ((t []).kind == 4) = true := by simpa using hk
  clear hk
  generalize hKX : txK (tx m) t = KX at *
  clear hKX
  have hcs0 := HCL.out W0 (Kp.refl _ _)
  generalize t [] = d at *
  obtain ⟨e0, e1, e2, e3, e4, e5, e6, e7, e8⟩ := hcs0
  simp only [Nat.zero_add] at e0 e1 e2 e3 e4 e5 e6 e7 e8
  clear hv ht hA hkids hIH hb0 hcs hv0 ht0 hA0 hG hnode hW0 hGG hT hS hnd
  go_enter Tryz.func53, Tryz.ntmps53
  go_upto_region 1 with fail
  rw [← HW0.out, ← HG.out]
  go_wp2_with fail
  go_fit k4
  rintro e w4 h
  rcases h with ⟨h1, rfl, h2⟩ | ⟨h1, rfl, h2⟩
  · have Z4 : Hid ((T).size + (KX ⟨#[]⟩ d.kn).size ≤ 4096) := h1
    have Q4 : Hid (Wq S B v W0 ((T) ++ KX ⟨#[]⟩ d.kn) w4) := h2
    have k2' := h2.kp
    clear h1 h2 k4
    go_wp2
    go_end0
    refine HF.out _ _ _ (.inl ⟨?_, rfl, ?_⟩)
    · have h2 := Z4.out
      rw [HX.out]
      have hnl := nil_size
      try simp only [ByteArray.size_append] at h2 ⊢
      omega
    · have h2 := Q4.out
      rw [HX.out]
      simpa only [ByteArray.append_assoc, app_nil] using h2
  · have Z4 : Hid (¬ (T).size + (KX ⟨#[]⟩ d.kn).size ≤ 4096) := h1
    have Q4 : Hid (Kp (Mv B v) W0 w4) := h2
    clear h1 h2 k4
    go_wp2
    refine ⟨rfl, HF.out _ _ _ (.inr ⟨?_, rfl, Q4.out⟩)⟩
    have h2 := Z4.out
    rw [HX.out]
    have hnl := nil_size
    try simp only [ByteArray.size_append] at h2 ⊢
    omega

set_option maxHeartbeats 8000000 in
set_option maxRecDepth 100000 in
theorem wnode_6true (S B m : Nat) (v : Value) (w : World) (T : ByteArray) (t : Tr) (hIH : NW S B m) (hv : Wt S w B v T) (hS : S ≤ w.heap.size) (hT : T.size ≤ 4096) (ht : Tat S w t) (hA : TbA S w) (hwf : WF (m + 1) t) (hk : (t []).kind = 6) (hlz : (t []).lz = true) :
    Calls Tryz.prog 53 #[.pointer (some ⟨B, 0, none⟩), ndV (t [])] w fun e w' => Wr S B v w T (tx (m + 1) t) e w' := by
  have hb0 : Below w.heap.size w (w.alloc (ndX (t []))) := (Below.refl _ w).alloc (Nat.le_refl _) _
  have hcs := ndX_cells (w := w) (t []) (Below.refl _ _)
  have hv0 := hv.below hb0
  have ht0 := ht.below (hb0.mono hS)
  have hA0 := hA.below (hb0.mono hS)
  have hG : ¬ Mv B v w.heap.size := fun e => by have := (hv.base _ e).2; omega
  have hnode := ht.node
  obtain ⟨⟨hnd, _⟩, _, hkids⟩ := hwf
  obtain ⟨W0, hW0⟩ : ∃ W0, W0 = w.alloc (ndX (t [])) := ⟨_, rfl⟩
  have HW0 : Hid (W0 = w.alloc (ndX (t []))) := hW0
  obtain ⟨G, hGG⟩ : ∃ G, G = w.heap.size := ⟨_, rfl⟩
  have HG : Hid (G = w.heap.size) := hGG
  rw [← hW0] at hb0 hcs hv0 ht0 hA0
  rw [← hGG] at hcs hG
  have HB : Hid (Bs S B v W0) := hv0.bs (Nat.le_trans hS hb0.size)
  have HQ0 : Hid (Wq S B v W0 T W0) := hv0.q
  have HCL : Hid (∀ w', Kp (Mv B v) W0 w' → Cs w' G 0 (t [])) := fun w' k => hcs.kp k hG
  have HF : Hid (∀ X e w', Wr S B v W0 T X e w' → Wr S B v w T X e w') := fun X e w' h => h.re (Sub.refl _ _) (Kp.of hb0)
  have HK : Hid (∀ s T5 w5, Wq S B v W0 T5 w5 → T5.size ≤ 4096 → Calls Tryz.prog 72 #[.pointer (some ⟨B, 0, none⟩), ndV (t []), .string s] w5 fun e w' => Wr S B v W0 T5 (txK (tx m) t s (t []).kn) e w') := fun s T5 w5 q h5 => q.use fun v1 a => kids_any S B m v1 w5 T5 s t hIH a (Nat.le_trans HB.out.sz q.kp.size) h5 (ht0.below (HB.out.below q.kp)) (hA0.below (HB.out.below q.kp)) hkids
  have HTB : Hid (∀ w5, Kp (Mv B v) W0 w5 → TbI w5 ∧ TbZ w5) := fun w5 k => hA0 w5 (HB.out.below k)
  have HTs : Hid (T.size ≤ 4096) := hT
  have HX : Hid (tx (m + 1) t = (txK (tx m) t ⟨#[]⟩ (t []).kn ++ tmB (t []).mn (t []).mx) ++ ⟨#[63]⟩) := by
    show (if (t []).kind = 2 then _ else if (t []).kind = 3 then _ else if (t []).kind = 5 then _ else if (t []).kind = 4 then _ else if (t []).kind = 6 then _ else if (t []).kind = 7 then _ else _) = _
    rw [hlz, if_neg (by omega), if_neg (by omega), if_neg (by omega), if_neg (by omega), if_pos hk]
    rfl
  have k4 := HK.out ⟨#[]⟩ T W0 HQ0.out HTs.out
  obtain ⟨rk, r0, r1, r2⟩ := ndB_rep hnd hk
  have HM : Hid (0 ≤ (t []).mn ∧ (t []).mn ≤ 1000 ∧ -1 ≤ (t []).mx ∧ (t []).mx ≤ 1000) := by unfold Hid; omega
  have h6 : ((t []).kind == 6) = true := by simpa using hk
  have HLZ : Hid ((t []).lz = true) := hlz
  have h2 : ((t []).kind == 2) = false := by simp; omega
  have h3 : ((t []).kind == 3) = false := by simp; omega
  have h5 : ((t []).kind == 5) = false := by simp; omega
  have h4 : ((t []).kind == 4) = false := by simp; omega
  clear hk r0 r1 r2 rk hlz
  generalize hKX : txK (tx m) t = KX at *
  clear hKX
  have hcs0 := HCL.out W0 (Kp.refl _ _)
  generalize t [] = d at *
  obtain ⟨e0, e1, e2, e3, e4, e5, e6, e7, e8⟩ := hcs0
  simp only [Nat.zero_add] at e0 e1 e2 e3 e4 e5 e6 e7 e8
  clear hv ht hA hkids hIH hb0 hcs hv0 ht0 hA0 hG hnode hW0 hGG hT hS hnd
  go_enter Tryz.func53, Tryz.ntmps53
  go_upto_region 1 with fail
  rw [← HW0.out, ← HG.out]
  go_wp2_with fail
  go_fit k4
  rintro e w4 h
  rcases h with ⟨h1, rfl, h2⟩ | ⟨h1, rfl, h2⟩
  · have Z4 : Hid ((T).size + (KX (⟨#[]⟩ : ByteArray) d.kn).size ≤ 4096) := h1
    have Q4 : Hid (Wq S B v W0 ((T) ++ KX (⟨#[]⟩ : ByteArray) d.kn) w4) := h2
    have k2' := h2.kp
    clear h1 h2 k4
    have hcs5 := HCL.out _ k2'
    obtain ⟨e0, e1, e2, e3, e4, e5, e6, e7, e8⟩ := hcs5
    simp only [Nat.zero_add] at e0 e1 e2 e3 e4 e5 e6 e7 e8
    clear k2'
    have k5 := times_any d.mn d.mx HM.out.1 HM.out.2.1 HM.out.2.2.1 HM.out.2.2.2 w4 (HTB.out _ Q4.out.kp).1
    go_wp2_with fail
    go_fit k5
    rintro e w5 ⟨rfl, b5⟩
    have k6 := (Q4.out.below b5).put HB.out (app_le Z4.out) (tmB d.mn d.mx)
    clear b5 k5 e0 e1 e2 e3 e4 e5 e6 e7 e8
    go_wp2_with fail
    go_fit k6
    rintro e w6 h
    rcases h with ⟨h1, rfl, h2⟩ | ⟨h1, rfl, h2⟩
    · have Z6 : Hid (((T) ++ KX (⟨#[]⟩ : ByteArray) d.kn).size + (tmB d.mn d.mx).size ≤ 4096) := h1
      have Q6 : Hid (Wq S B v W0 (((T) ++ KX (⟨#[]⟩ : ByteArray) d.kn) ++ tmB d.mn d.mx) w6) := h2
      have k2' := h2.kp
      clear h1 h2 k6
      have hcs5 := HCL.out _ k2'
      obtain ⟨e0, e1, e2, e3, e4, e5, e6, e7, e8⟩ := hcs5
      simp only [Nat.zero_add] at e0 e1 e2 e3 e4 e5 e6 e7 e8
      clear k2'
      rw [HLZ.out] at e5
      have k7 := Q6.out.put HB.out (app_le Z6.out) ⟨#[63]⟩
      go_wp2_with fail
      go_fit k7
      rintro e w7 h
      rcases h with ⟨h1, rfl, h2⟩ | ⟨h1, rfl, h2⟩
      · have Z7 : Hid ((((T) ++ KX (⟨#[]⟩ : ByteArray) d.kn) ++ tmB d.mn d.mx).size + ((⟨#[63]⟩ : ByteArray)).size ≤ 4096) := h1
        have Q7 : Hid (Wq S B v W0 ((((T) ++ KX (⟨#[]⟩ : ByteArray) d.kn) ++ tmB d.mn d.mx) ++ (⟨#[63]⟩ : ByteArray)) w7) := h2
        have k2' := h2.kp
        clear h1 h2 k7
        go_wp2
        go_end0
        refine HF.out _ _ _ (.inl ⟨?_, rfl, ?_⟩)
        · have h2 := Z7.out
          rw [HX.out]
          have hnl := nil_size
          try simp only [ByteArray.size_append] at h2 ⊢
          omega
        · have h2 := Q7.out
          rw [HX.out]
          simpa only [ByteArray.append_assoc, app_nil] using h2
      · have Z7 : Hid (¬ (((T) ++ KX (⟨#[]⟩ : ByteArray) d.kn) ++ tmB d.mn d.mx).size + ((⟨#[63]⟩ : ByteArray)).size ≤ 4096) := h1
        have Q7 : Hid (Kp (Mv B v) W0 w7) := h2
        clear h1 h2 k7
        go_wp2
        refine ⟨rfl, HF.out _ _ _ (.inr ⟨?_, rfl, Q7.out⟩)⟩
        have h2 := Z7.out
        rw [HX.out]
        have hnl := nil_size
        try simp only [ByteArray.size_append] at h2 ⊢
        omega
    · have Z6 : Hid (¬ ((T) ++ KX (⟨#[]⟩ : ByteArray) d.kn).size + (tmB d.mn d.mx).size ≤ 4096) := h1
      have Q6 : Hid (Kp (Mv B v) W0 w6) := h2
      clear h1 h2 k6
      go_wp2
      refine ⟨rfl, HF.out _ _ _ (.inr ⟨?_, rfl, Q6.out⟩)⟩
      have h2 := Z6.out
      rw [HX.out]
      have hnl := nil_size
      try simp only [ByteArray.size_append] at h2 ⊢
      omega
  · have Z4 : Hid (¬ (T).size + (KX (⟨#[]⟩ : ByteArray) d.kn).size ≤ 4096) := h1
    have Q4 : Hid (Kp (Mv B v) W0 w4) := h2
    clear h1 h2 k4
    go_wp2
    refine ⟨rfl, HF.out _ _ _ (.inr ⟨?_, rfl, Q4.out⟩)⟩
    have h2 := Z4.out
    rw [HX.out]
    have hnl := nil_size
    try simp only [ByteArray.size_append] at h2 ⊢
    omega

set_option maxHeartbeats 8000000 in
set_option maxRecDepth 100000 in
theorem wnode_6false (S B m : Nat) (v : Value) (w : World) (T : ByteArray) (t : Tr) (hIH : NW S B m) (hv : Wt S w B v T) (hS : S ≤ w.heap.size) (hT : T.size ≤ 4096) (ht : Tat S w t) (hA : TbA S w) (hwf : WF (m + 1) t) (hk : (t []).kind = 6) (hlz : (t []).lz = false) :
    Calls Tryz.prog 53 #[.pointer (some ⟨B, 0, none⟩), ndV (t [])] w fun e w' => Wr S B v w T (tx (m + 1) t) e w' := by
  have hb0 : Below w.heap.size w (w.alloc (ndX (t []))) := (Below.refl _ w).alloc (Nat.le_refl _) _
  have hcs := ndX_cells (w := w) (t []) (Below.refl _ _)
  have hv0 := hv.below hb0
  have ht0 := ht.below (hb0.mono hS)
  have hA0 := hA.below (hb0.mono hS)
  have hG : ¬ Mv B v w.heap.size := fun e => by have := (hv.base _ e).2; omega
  have hnode := ht.node
  obtain ⟨⟨hnd, _⟩, _, hkids⟩ := hwf
  obtain ⟨W0, hW0⟩ : ∃ W0, W0 = w.alloc (ndX (t [])) := ⟨_, rfl⟩
  have HW0 : Hid (W0 = w.alloc (ndX (t []))) := hW0
  obtain ⟨G, hGG⟩ : ∃ G, G = w.heap.size := ⟨_, rfl⟩
  have HG : Hid (G = w.heap.size) := hGG
  rw [← hW0] at hb0 hcs hv0 ht0 hA0
  rw [← hGG] at hcs hG
  have HB : Hid (Bs S B v W0) := hv0.bs (Nat.le_trans hS hb0.size)
  have HQ0 : Hid (Wq S B v W0 T W0) := hv0.q
  have HCL : Hid (∀ w', Kp (Mv B v) W0 w' → Cs w' G 0 (t [])) := fun w' k => hcs.kp k hG
  have HF : Hid (∀ X e w', Wr S B v W0 T X e w' → Wr S B v w T X e w') := fun X e w' h => h.re (Sub.refl _ _) (Kp.of hb0)
  have HK : Hid (∀ s T5 w5, Wq S B v W0 T5 w5 → T5.size ≤ 4096 → Calls Tryz.prog 72 #[.pointer (some ⟨B, 0, none⟩), ndV (t []), .string s] w5 fun e w' => Wr S B v W0 T5 (txK (tx m) t s (t []).kn) e w') := fun s T5 w5 q h5 => q.use fun v1 a => kids_any S B m v1 w5 T5 s t hIH a (Nat.le_trans HB.out.sz q.kp.size) h5 (ht0.below (HB.out.below q.kp)) (hA0.below (HB.out.below q.kp)) hkids
  have HTB : Hid (∀ w5, Kp (Mv B v) W0 w5 → TbI w5 ∧ TbZ w5) := fun w5 k => hA0 w5 (HB.out.below k)
  have HTs : Hid (T.size ≤ 4096) := hT
  have HX : Hid (tx (m + 1) t = (txK (tx m) t ⟨#[]⟩ (t []).kn ++ tmB (t []).mn (t []).mx) ++ ⟨#[]⟩) := by
    show (if (t []).kind = 2 then _ else if (t []).kind = 3 then _ else if (t []).kind = 5 then _ else if (t []).kind = 4 then _ else if (t []).kind = 6 then _ else if (t []).kind = 7 then _ else _) = _
    rw [hlz, if_neg (by omega), if_neg (by omega), if_neg (by omega), if_neg (by omega), if_pos hk]
    rfl
  have k4 := HK.out ⟨#[]⟩ T W0 HQ0.out HTs.out
  obtain ⟨rk, r0, r1, r2⟩ := ndB_rep hnd hk
  have HM : Hid (0 ≤ (t []).mn ∧ (t []).mn ≤ 1000 ∧ -1 ≤ (t []).mx ∧ (t []).mx ≤ 1000) := by unfold Hid; omega
  have h6 : ((t []).kind == 6) = true := by simpa using hk
  have HLZ : Hid ((t []).lz = false) := hlz
  have h2 : ((t []).kind == 2) = false := by simp; omega
  have h3 : ((t []).kind == 3) = false := by simp; omega
  have h5 : ((t []).kind == 5) = false := by simp; omega
  have h4 : ((t []).kind == 4) = false := by simp; omega
  clear hk r0 r1 r2 rk hlz
  generalize hKX : txK (tx m) t = KX at *
  clear hKX
  have hcs0 := HCL.out W0 (Kp.refl _ _)
  generalize t [] = d at *
  obtain ⟨e0, e1, e2, e3, e4, e5, e6, e7, e8⟩ := hcs0
  simp only [Nat.zero_add] at e0 e1 e2 e3 e4 e5 e6 e7 e8
  clear hv ht hA hkids hIH hb0 hcs hv0 ht0 hA0 hG hnode hW0 hGG hT hS hnd
  go_enter Tryz.func53, Tryz.ntmps53
  go_upto_region 1 with fail
  rw [← HW0.out, ← HG.out]
  go_wp2_with fail
  go_fit k4
  rintro e w4 h
  rcases h with ⟨h1, rfl, h2⟩ | ⟨h1, rfl, h2⟩
  · have Z4 : Hid ((T).size + (KX (⟨#[]⟩ : ByteArray) d.kn).size ≤ 4096) := h1
    have Q4 : Hid (Wq S B v W0 ((T) ++ KX (⟨#[]⟩ : ByteArray) d.kn) w4) := h2
    have k2' := h2.kp
    clear h1 h2 k4
    have hcs5 := HCL.out _ k2'
    obtain ⟨e0, e1, e2, e3, e4, e5, e6, e7, e8⟩ := hcs5
    simp only [Nat.zero_add] at e0 e1 e2 e3 e4 e5 e6 e7 e8
    clear k2'
    have k5 := times_any d.mn d.mx HM.out.1 HM.out.2.1 HM.out.2.2.1 HM.out.2.2.2 w4 (HTB.out _ Q4.out.kp).1
    go_wp2_with fail
    go_fit k5
    rintro e w5 ⟨rfl, b5⟩
    have k6 := (Q4.out.below b5).put HB.out (app_le Z4.out) (tmB d.mn d.mx)
    clear b5 k5 e0 e1 e2 e3 e4 e5 e6 e7 e8
    go_wp2_with fail
    go_fit k6
    rintro e w6 h
    rcases h with ⟨h1, rfl, h2⟩ | ⟨h1, rfl, h2⟩
    · have Z6 : Hid (((T) ++ KX (⟨#[]⟩ : ByteArray) d.kn).size + (tmB d.mn d.mx).size ≤ 4096) := h1
      have Q6 : Hid (Wq S B v W0 (((T) ++ KX (⟨#[]⟩ : ByteArray) d.kn) ++ tmB d.mn d.mx) w6) := h2
      have k2' := h2.kp
      clear h1 h2 k6
      have hcs5 := HCL.out _ k2'
      obtain ⟨e0, e1, e2, e3, e4, e5, e6, e7, e8⟩ := hcs5
      simp only [Nat.zero_add] at e0 e1 e2 e3 e4 e5 e6 e7 e8
      clear k2'
      rw [HLZ.out] at e5
      go_wp2
      go_end0
      refine HF.out _ _ _ (.inl ⟨?_, rfl, ?_⟩)
      · have h2 := Z6.out
        rw [HX.out]
        have hnl := nil_size
        try simp only [ByteArray.size_append] at h2 ⊢
        omega
      · have h2 := Q6.out
        rw [HX.out]
        simpa only [ByteArray.append_assoc, app_nil] using h2
    · have Z6 : Hid (¬ ((T) ++ KX (⟨#[]⟩ : ByteArray) d.kn).size + (tmB d.mn d.mx).size ≤ 4096) := h1
      have Q6 : Hid (Kp (Mv B v) W0 w6) := h2
      clear h1 h2 k6
      go_wp2
      refine ⟨rfl, HF.out _ _ _ (.inr ⟨?_, rfl, Q6.out⟩)⟩
      have h2 := Z6.out
      rw [HX.out]
      have hnl := nil_size
      try simp only [ByteArray.size_append] at h2 ⊢
      omega
  · have Z4 : Hid (¬ (T).size + (KX (⟨#[]⟩ : ByteArray) d.kn).size ≤ 4096) := h1
    have Q4 : Hid (Kp (Mv B v) W0 w4) := h2
    clear h1 h2 k4
    go_wp2
    refine ⟨rfl, HF.out _ _ _ (.inr ⟨?_, rfl, Q4.out⟩)⟩
    have h2 := Z4.out
    rw [HX.out]
    have hnl := nil_size
    try simp only [ByteArray.size_append] at h2 ⊢
    omega

set_option maxHeartbeats 8000000 in
set_option maxRecDepth 100000 in
theorem wnode_7n (S B m : Nat) (v : Value) (w : World) (T : ByteArray) (t : Tr) (hIH : NW S B m) (hv : Wt S w B v T) (hS : S ≤ w.heap.size) (hT : T.size ≤ 4096) (ht : Tat S w t) (hA : TbA S w) (hwf : WF (m + 1) t) (hk : (t []).kind = 7) (hnm : (t []).nm.toList.isEmpty = false) :
    Calls Tryz.prog 53 #[.pointer (some ⟨B, 0, none⟩), ndV (t [])] w fun e w' => Wr S B v w T (tx (m + 1) t) e w' := by
  have hb0 : Below w.heap.size w (w.alloc (ndX (t []))) := (Below.refl _ w).alloc (Nat.le_refl _) _
  have hcs := ndX_cells (w := w) (t []) (Below.refl _ _)
  have hv0 := hv.below hb0
  have ht0 := ht.below (hb0.mono hS)
  have hA0 := hA.below (hb0.mono hS)
  have hG : ¬ Mv B v w.heap.size := fun e => by have := (hv.base _ e).2; omega
  have hnode := ht.node
  obtain ⟨⟨hnd, _⟩, _, hkids⟩ := hwf
  obtain ⟨W0, hW0⟩ : ∃ W0, W0 = w.alloc (ndX (t [])) := ⟨_, rfl⟩
  have HW0 : Hid (W0 = w.alloc (ndX (t []))) := hW0
  obtain ⟨G, hGG⟩ : ∃ G, G = w.heap.size := ⟨_, rfl⟩
  have HG : Hid (G = w.heap.size) := hGG
  rw [← hW0] at hb0 hcs hv0 ht0 hA0
  rw [← hGG] at hcs hG
  have HB : Hid (Bs S B v W0) := hv0.bs (Nat.le_trans hS hb0.size)
  have HQ0 : Hid (Wq S B v W0 T W0) := hv0.q
  have HCL : Hid (∀ w', Kp (Mv B v) W0 w' → Cs w' G 0 (t [])) := fun w' k => hcs.kp k hG
  have HF : Hid (∀ X e w', Wr S B v W0 T X e w' → Wr S B v w T X e w') := fun X e w' h => h.re (Sub.refl _ _) (Kp.of hb0)
  have HK : Hid (∀ s T5 w5, Wq S B v W0 T5 w5 → T5.size ≤ 4096 → Calls Tryz.prog 72 #[.pointer (some ⟨B, 0, none⟩), ndV (t []), .string s] w5 fun e w' => Wr S B v W0 T5 (txK (tx m) t s (t []).kn) e w') := fun s T5 w5 q h5 => q.use fun v1 a => kids_any S B m v1 w5 T5 s t hIH a (Nat.le_trans HB.out.sz q.kp.size) h5 (ht0.below (HB.out.below q.kp)) (hA0.below (HB.out.below q.kp)) hkids
  have HTB : Hid (∀ w5, Kp (Mv B v) W0 w5 → TbI w5 ∧ TbZ w5) := fun w5 k => hA0 w5 (HB.out.below k)
  have HTs : Hid (T.size ≤ 4096) := hT
  have HX : Hid (tx (m + 1) t = (((⟨#[40]⟩ : ByteArray) ++ (((⟨#[63, 80, 60]⟩ : ByteArray) ++ (t []).nm) ++ ⟨#[62]⟩)) ++ txK (tx m) t ⟨#[]⟩ (t []).kn) ++ ⟨#[41]⟩) := by
    show (if (t []).kind = 2 then _ else if (t []).kind = 3 then _ else if (t []).kind = 5 then _ else if (t []).kind = 4 then _ else if (t []).kind = 6 then _ else if (t []).kind = 7 then _ else _) = _
    rw [if_neg (by omega), if_neg (by omega), if_neg (by omega), if_neg (by omega), if_neg (by omega), if_pos hk]
    unfold naB
    rw [if_neg (by rw [hnm]; exact Bool.false_ne_true)]
  have k4 := HQ0.out.put HB.out HTs.out ⟨#[40]⟩
  have h6 : ((t []).kind == 6) = false := by simp; omega
  have h7 : ((t []).kind == 7) = true := by simpa using hk
  have h2 : ((t []).kind == 2) = false := by simp; omega
  have h3 : ((t []).kind == 3) = false := by simp; omega
  have h5 : ((t []).kind == 5) = false := by simp; omega
  have h4 : ((t []).kind == 4) = false := by simp; omega
  clear hk
  generalize hKX : txK (tx m) t = KX at *
  clear hKX
  have hcs0 := HCL.out W0 (Kp.refl _ _)
  generalize t [] = d at *
  obtain ⟨e0, e1, e2, e3, e4, e5, e6, e7, e8⟩ := hcs0
  simp only [Nat.zero_add] at e0 e1 e2 e3 e4 e5 e6 e7 e8
  clear hv ht hA hkids hIH hb0 hcs hv0 ht0 hA0 hG hnode hW0 hGG hT hS hnd
  go_enter Tryz.func53, Tryz.ntmps53
  go_upto_region 1 with fail
  rw [← HW0.out, ← HG.out]
  go_wp2_with fail
  go_fit k4
  rintro e w4 h
  rcases h with ⟨h1, rfl, h2⟩ | ⟨h1, rfl, h2⟩
  · have Z4 : Hid ((T).size + ((⟨#[40]⟩ : ByteArray)).size ≤ 4096) := h1
    have Q4 : Hid (Wq S B v W0 ((T) ++ (⟨#[40]⟩ : ByteArray)) w4) := h2
    have k2' := h2.kp
    clear h1 h2 k4
    clear e0 e1 e2 e3 e4 e5 e6 e7 e8
    have hcs5 := HCL.out _ k2'
    obtain ⟨e0, e1, e2, e3, e4, e5, e6, e7, e8⟩ := hcs5
    simp only [Nat.zero_add] at e0 e1 e2 e3 e4 e5 e6 e7 e8
    clear k2'
    have k5 := Q4.out.put HB.out (app_le Z4.out) ⟨#[63, 80, 60]⟩
    go_wp2_with fail
    go_fit k5
    rintro e w5 h
    rcases h with ⟨h1, rfl, h2⟩ | ⟨h1, rfl, h2⟩
    · have Z5 : Hid (((T) ++ (⟨#[40]⟩ : ByteArray)).size + ((⟨#[63, 80, 60]⟩ : ByteArray)).size ≤ 4096) := h1
      have Q5 : Hid (Wq S B v W0 (((T) ++ (⟨#[40]⟩ : ByteArray)) ++ (⟨#[63, 80, 60]⟩ : ByteArray)) w5) := h2
      have k2' := h2.kp
      clear h1 h2 k5
      clear e0 e1 e2 e3 e4 e5 e6 e7 e8
      have hcs5 := HCL.out _ k2'
      obtain ⟨e0, e1, e2, e3, e4, e5, e6, e7, e8⟩ := hcs5
      simp only [Nat.zero_add] at e0 e1 e2 e3 e4 e5 e6 e7 e8
      clear k2'
      have k6 := Q5.out.put HB.out (app_le Z5.out) d.nm
      go_wp2_with fail
      go_fit k6
      rintro e w6 h
      rcases h with ⟨h1, rfl, h2⟩ | ⟨h1, rfl, h2⟩
      · have Z6 : Hid ((((T) ++ (⟨#[40]⟩ : ByteArray)) ++ (⟨#[63, 80, 60]⟩ : ByteArray)).size + (d.nm).size ≤ 4096) := h1
        have Q6 : Hid (Wq S B v W0 ((((T) ++ (⟨#[40]⟩ : ByteArray)) ++ (⟨#[63, 80, 60]⟩ : ByteArray)) ++ d.nm) w6) := h2
        have k2' := h2.kp
        clear h1 h2 k6
        have k7 := Q6.out.put HB.out (app_le Z6.out) ⟨#[62]⟩
        clear k2' e0 e1 e2 e3 e4 e5 e6 e7 e8
        go_wp2_with fail
        go_fit k7
        rintro e w7 h
        rcases h with ⟨h1, rfl, h2⟩ | ⟨h1, rfl, h2⟩
        · have Z7 : Hid (((((T) ++ (⟨#[40]⟩ : ByteArray)) ++ (⟨#[63, 80, 60]⟩ : ByteArray)) ++ d.nm).size + ((⟨#[62]⟩ : ByteArray)).size ≤ 4096) := h1
          have Q7 : Hid (Wq S B v W0 (((((T) ++ (⟨#[40]⟩ : ByteArray)) ++ (⟨#[63, 80, 60]⟩ : ByteArray)) ++ d.nm) ++ (⟨#[62]⟩ : ByteArray)) w7) := h2
          have k2' := h2.kp
          clear h1 h2 k7
          have hcs5 := HCL.out _ k2'
          obtain ⟨e0, e1, e2, e3, e4, e5, e6, e7, e8⟩ := hcs5
          simp only [Nat.zero_add] at e0 e1 e2 e3 e4 e5 e6 e7 e8
          clear k2'
          have k8 := HK.out ⟨#[]⟩ _ _ Q7.out (app_le Z7.out)
          go_wp2_with fail
          go_fit k8
          rintro e w8 h
          rcases h with ⟨h1, rfl, h2⟩ | ⟨h1, rfl, h2⟩
          · have Z8 : Hid ((((((T) ++ (⟨#[40]⟩ : ByteArray)) ++ (⟨#[63, 80, 60]⟩ : ByteArray)) ++ d.nm) ++ (⟨#[62]⟩ : ByteArray)).size + (KX (⟨#[]⟩ : ByteArray) d.kn).size ≤ 4096) := h1
            have Q8 : Hid (Wq S B v W0 ((((((T) ++ (⟨#[40]⟩ : ByteArray)) ++ (⟨#[63, 80, 60]⟩ : ByteArray)) ++ d.nm) ++ (⟨#[62]⟩ : ByteArray)) ++ KX (⟨#[]⟩ : ByteArray) d.kn) w8) := h2
            have k2' := h2.kp
            clear h1 h2 k8
            clear e0 e1 e2 e3 e4 e5 e6 e7 e8
            have k9 := Q8.out.put HB.out (app_le Z8.out) ⟨#[41]⟩
            clear k2'
            go_wp2_with fail
            go_fit k9
            rintro e w9 h
            rcases h with ⟨h1, rfl, h2⟩ | ⟨h1, rfl, h2⟩
            · have Z9 : Hid (((((((T) ++ (⟨#[40]⟩ : ByteArray)) ++ (⟨#[63, 80, 60]⟩ : ByteArray)) ++ d.nm) ++ (⟨#[62]⟩ : ByteArray)) ++ KX (⟨#[]⟩ : ByteArray) d.kn).size + ((⟨#[41]⟩ : ByteArray)).size ≤ 4096) := h1
              have Q9 : Hid (Wq S B v W0 (((((((T) ++ (⟨#[40]⟩ : ByteArray)) ++ (⟨#[63, 80, 60]⟩ : ByteArray)) ++ d.nm) ++ (⟨#[62]⟩ : ByteArray)) ++ KX (⟨#[]⟩ : ByteArray) d.kn) ++ (⟨#[41]⟩ : ByteArray)) w9) := h2
              have k2' := h2.kp
              clear h1 h2 k9
              go_wp2
              go_end0
              refine HF.out _ _ _ (.inl ⟨?_, rfl, ?_⟩)
              · have h2 := Z9.out
                rw [HX.out]
                have hnl := nil_size
                try simp only [ByteArray.size_append] at h2 ⊢
                omega
              · have h2 := Q9.out
                rw [HX.out]
                simpa only [ByteArray.append_assoc, app_nil] using h2
            · have Z9 : Hid (¬ ((((((T) ++ (⟨#[40]⟩ : ByteArray)) ++ (⟨#[63, 80, 60]⟩ : ByteArray)) ++ d.nm) ++ (⟨#[62]⟩ : ByteArray)) ++ KX (⟨#[]⟩ : ByteArray) d.kn).size + ((⟨#[41]⟩ : ByteArray)).size ≤ 4096) := h1
              have Q9 : Hid (Kp (Mv B v) W0 w9) := h2
              clear h1 h2 k9
              go_wp2
              refine ⟨rfl, HF.out _ _ _ (.inr ⟨?_, rfl, Q9.out⟩)⟩
              have h2 := Z9.out
              rw [HX.out]
              have hnl := nil_size
              try simp only [ByteArray.size_append] at h2 ⊢
              omega
          · have Z8 : Hid (¬ (((((T) ++ (⟨#[40]⟩ : ByteArray)) ++ (⟨#[63, 80, 60]⟩ : ByteArray)) ++ d.nm) ++ (⟨#[62]⟩ : ByteArray)).size + (KX (⟨#[]⟩ : ByteArray) d.kn).size ≤ 4096) := h1
            have Q8 : Hid (Kp (Mv B v) W0 w8) := h2
            clear h1 h2 k8
            go_wp2
            refine ⟨rfl, HF.out _ _ _ (.inr ⟨?_, rfl, Q8.out⟩)⟩
            have h2 := Z8.out
            rw [HX.out]
            have hnl := nil_size
            try simp only [ByteArray.size_append] at h2 ⊢
            omega
        · have Z7 : Hid (¬ ((((T) ++ (⟨#[40]⟩ : ByteArray)) ++ (⟨#[63, 80, 60]⟩ : ByteArray)) ++ d.nm).size + ((⟨#[62]⟩ : ByteArray)).size ≤ 4096) := h1
          have Q7 : Hid (Kp (Mv B v) W0 w7) := h2
          clear h1 h2 k7
          go_wp2
          refine ⟨rfl, HF.out _ _ _ (.inr ⟨?_, rfl, Q7.out⟩)⟩
          have h2 := Z7.out
          rw [HX.out]
          have hnl := nil_size
          try simp only [ByteArray.size_append] at h2 ⊢
          omega
      · have Z6 : Hid (¬ (((T) ++ (⟨#[40]⟩ : ByteArray)) ++ (⟨#[63, 80, 60]⟩ : ByteArray)).size + (d.nm).size ≤ 4096) := h1
        have Q6 : Hid (Kp (Mv B v) W0 w6) := h2
        clear h1 h2 k6
        go_wp2
        refine ⟨rfl, HF.out _ _ _ (.inr ⟨?_, rfl, Q6.out⟩)⟩
        have h2 := Z6.out
        rw [HX.out]
        have hnl := nil_size
        try simp only [ByteArray.size_append] at h2 ⊢
        omega
    · have Z5 : Hid (¬ ((T) ++ (⟨#[40]⟩ : ByteArray)).size + ((⟨#[63, 80, 60]⟩ : ByteArray)).size ≤ 4096) := h1
      have Q5 : Hid (Kp (Mv B v) W0 w5) := h2
      clear h1 h2 k5
      go_wp2
      refine ⟨rfl, HF.out _ _ _ (.inr ⟨?_, rfl, Q5.out⟩)⟩
      have h2 := Z5.out
      rw [HX.out]
      have hnl := nil_size
      try simp only [ByteArray.size_append] at h2 ⊢
      omega
  · have Z4 : Hid (¬ (T).size + ((⟨#[40]⟩ : ByteArray)).size ≤ 4096) := h1
    have Q4 : Hid (Kp (Mv B v) W0 w4) := h2
    clear h1 h2 k4
    go_wp2
    refine ⟨rfl, HF.out _ _ _ (.inr ⟨?_, rfl, Q4.out⟩)⟩
    have h2 := Z4.out
    rw [HX.out]
    have hnl := nil_size
    try simp only [ByteArray.size_append] at h2 ⊢
    omega

set_option maxHeartbeats 8000000 in
set_option maxRecDepth 100000 in
theorem wnode_7e (S B m : Nat) (v : Value) (w : World) (T : ByteArray) (t : Tr) (hIH : NW S B m) (hv : Wt S w B v T) (hS : S ≤ w.heap.size) (hT : T.size ≤ 4096) (ht : Tat S w t) (hA : TbA S w) (hwf : WF (m + 1) t) (hk : (t []).kind = 7) (hnm : (t []).nm.toList.isEmpty = true) :
    Calls Tryz.prog 53 #[.pointer (some ⟨B, 0, none⟩), ndV (t [])] w fun e w' => Wr S B v w T (tx (m + 1) t) e w' := by
  have hb0 : Below w.heap.size w (w.alloc (ndX (t []))) := (Below.refl _ w).alloc (Nat.le_refl _) _
  have hcs := ndX_cells (w := w) (t []) (Below.refl _ _)
  have hv0 := hv.below hb0
  have ht0 := ht.below (hb0.mono hS)
  have hA0 := hA.below (hb0.mono hS)
  have hG : ¬ Mv B v w.heap.size := fun e => by have := (hv.base _ e).2; omega
  have hnode := ht.node
  obtain ⟨⟨hnd, _⟩, _, hkids⟩ := hwf
  obtain ⟨W0, hW0⟩ : ∃ W0, W0 = w.alloc (ndX (t [])) := ⟨_, rfl⟩
  have HW0 : Hid (W0 = w.alloc (ndX (t []))) := hW0
  obtain ⟨G, hGG⟩ : ∃ G, G = w.heap.size := ⟨_, rfl⟩
  have HG : Hid (G = w.heap.size) := hGG
  rw [← hW0] at hb0 hcs hv0 ht0 hA0
  rw [← hGG] at hcs hG
  have HB : Hid (Bs S B v W0) := hv0.bs (Nat.le_trans hS hb0.size)
  have HQ0 : Hid (Wq S B v W0 T W0) := hv0.q
  have HCL : Hid (∀ w', Kp (Mv B v) W0 w' → Cs w' G 0 (t [])) := fun w' k => hcs.kp k hG
  have HF : Hid (∀ X e w', Wr S B v W0 T X e w' → Wr S B v w T X e w') := fun X e w' h => h.re (Sub.refl _ _) (Kp.of hb0)
  have HK : Hid (∀ s T5 w5, Wq S B v W0 T5 w5 → T5.size ≤ 4096 → Calls Tryz.prog 72 #[.pointer (some ⟨B, 0, none⟩), ndV (t []), .string s] w5 fun e w' => Wr S B v W0 T5 (txK (tx m) t s (t []).kn) e w') := fun s T5 w5 q h5 => q.use fun v1 a => kids_any S B m v1 w5 T5 s t hIH a (Nat.le_trans HB.out.sz q.kp.size) h5 (ht0.below (HB.out.below q.kp)) (hA0.below (HB.out.below q.kp)) hkids
  have HTB : Hid (∀ w5, Kp (Mv B v) W0 w5 → TbI w5 ∧ TbZ w5) := fun w5 k => hA0 w5 (HB.out.below k)
  have HTs : Hid (T.size ≤ 4096) := hT
  have HX : Hid (tx (m + 1) t = (((⟨#[40]⟩ : ByteArray) ++ ⟨#[]⟩) ++ txK (tx m) t ⟨#[]⟩ (t []).kn) ++ ⟨#[41]⟩) := by
    show (if (t []).kind = 2 then _ else if (t []).kind = 3 then _ else if (t []).kind = 5 then _ else if (t []).kind = 4 then _ else if (t []).kind = 6 then _ else if (t []).kind = 7 then _ else _) = _
    rw [if_neg (by omega), if_neg (by omega), if_neg (by omega), if_neg (by omega), if_neg (by omega), if_pos hk]
    unfold naB
    rw [if_pos hnm]
  have k4 := HQ0.out.put HB.out HTs.out ⟨#[40]⟩
  have h6 : ((t []).kind == 6) = false := by simp; omega
  have h7 : ((t []).kind == 7) = true := by simpa using hk
  have h2 : ((t []).kind == 2) = false := by simp; omega
  have h3 : ((t []).kind == 3) = false := by simp; omega
  have h5 : ((t []).kind == 5) = false := by simp; omega
  have h4 : ((t []).kind == 4) = false := by simp; omega
  clear hk
  generalize hKX : txK (tx m) t = KX at *
  clear hKX
  have hcs0 := HCL.out W0 (Kp.refl _ _)
  generalize t [] = d at *
  obtain ⟨e0, e1, e2, e3, e4, e5, e6, e7, e8⟩ := hcs0
  simp only [Nat.zero_add] at e0 e1 e2 e3 e4 e5 e6 e7 e8
  clear hv ht hA hkids hIH hb0 hcs hv0 ht0 hA0 hG hnode hW0 hGG hT hS hnd
  go_enter Tryz.func53, Tryz.ntmps53
  go_upto_region 1 with fail
  rw [← HW0.out, ← HG.out]
  go_wp2_with fail
  go_fit k4
  rintro e w4 h
  rcases h with ⟨h1, rfl, h2⟩ | ⟨h1, rfl, h2⟩
  · have Z4 : Hid ((T).size + ((⟨#[40]⟩ : ByteArray)).size ≤ 4096) := h1
    have Q4 : Hid (Wq S B v W0 ((T) ++ (⟨#[40]⟩ : ByteArray)) w4) := h2
    have k2' := h2.kp
    clear h1 h2 k4
    clear e0 e1 e2 e3 e4 e5 e6 e7 e8
    have hcs5 := HCL.out _ k2'
    obtain ⟨e0, e1, e2, e3, e4, e5, e6, e7, e8⟩ := hcs5
    simp only [Nat.zero_add] at e0 e1 e2 e3 e4 e5 e6 e7 e8
    clear k2'
    have k8 := HK.out ⟨#[]⟩ _ _ Q4.out (app_le Z4.out)
    go_wp2_with fail
    go_fit k8
    rintro e w8 h
    rcases h with ⟨h1, rfl, h2⟩ | ⟨h1, rfl, h2⟩
    · have Z8 : Hid (((T) ++ (⟨#[40]⟩ : ByteArray)).size + (KX (⟨#[]⟩ : ByteArray) d.kn).size ≤ 4096) := h1
      have Q8 : Hid (Wq S B v W0 (((T) ++ (⟨#[40]⟩ : ByteArray)) ++ KX (⟨#[]⟩ : ByteArray) d.kn) w8) := h2
      have k2' := h2.kp
      clear h1 h2 k8
      clear e0 e1 e2 e3 e4 e5 e6 e7 e8
      have k9 := Q8.out.put HB.out (app_le Z8.out) ⟨#[41]⟩
      clear k2'
      go_wp2_with fail
      go_fit k9
      rintro e w9 h
      rcases h with ⟨h1, rfl, h2⟩ | ⟨h1, rfl, h2⟩
      · have Z9 : Hid ((((T) ++ (⟨#[40]⟩ : ByteArray)) ++ KX (⟨#[]⟩ : ByteArray) d.kn).size + ((⟨#[41]⟩ : ByteArray)).size ≤ 4096) := h1
        have Q9 : Hid (Wq S B v W0 ((((T) ++ (⟨#[40]⟩ : ByteArray)) ++ KX (⟨#[]⟩ : ByteArray) d.kn) ++ (⟨#[41]⟩ : ByteArray)) w9) := h2
        have k2' := h2.kp
        clear h1 h2 k9
        go_wp2
        go_end0
        refine HF.out _ _ _ (.inl ⟨?_, rfl, ?_⟩)
        · have h2 := Z9.out
          rw [HX.out]
          have hnl := nil_size
          try simp only [ByteArray.size_append] at h2 ⊢
          omega
        · have h2 := Q9.out
          rw [HX.out]
          simpa only [ByteArray.append_assoc, app_nil] using h2
      · have Z9 : Hid (¬ (((T) ++ (⟨#[40]⟩ : ByteArray)) ++ KX (⟨#[]⟩ : ByteArray) d.kn).size + ((⟨#[41]⟩ : ByteArray)).size ≤ 4096) := h1
        have Q9 : Hid (Kp (Mv B v) W0 w9) := h2
        clear h1 h2 k9
        go_wp2
        refine ⟨rfl, HF.out _ _ _ (.inr ⟨?_, rfl, Q9.out⟩)⟩
        have h2 := Z9.out
        rw [HX.out]
        have hnl := nil_size
        try simp only [ByteArray.size_append] at h2 ⊢
        omega
    · have Z8 : Hid (¬ ((T) ++ (⟨#[40]⟩ : ByteArray)).size + (KX (⟨#[]⟩ : ByteArray) d.kn).size ≤ 4096) := h1
      have Q8 : Hid (Kp (Mv B v) W0 w8) := h2
      clear h1 h2 k8
      go_wp2
      refine ⟨rfl, HF.out _ _ _ (.inr ⟨?_, rfl, Q8.out⟩)⟩
      have h2 := Z8.out
      rw [HX.out]
      have hnl := nil_size
      try simp only [ByteArray.size_append] at h2 ⊢
      omega
  · have Z4 : Hid (¬ (T).size + ((⟨#[40]⟩ : ByteArray)).size ≤ 4096) := h1
    have Q4 : Hid (Kp (Mv B v) W0 w4) := h2
    clear h1 h2 k4
    go_wp2
    refine ⟨rfl, HF.out _ _ _ (.inr ⟨?_, rfl, Q4.out⟩)⟩
    have h2 := Z4.out
    rw [HX.out]
    have hnl := nil_size
    try simp only [ByteArray.size_append] at h2 ⊢
    omega

set_option maxHeartbeats 8000000 in
set_option maxRecDepth 100000 in
theorem wnode_m (S B m : Nat) (v : Value) (w : World) (T : ByteArray) (t : Tr) (hIH : NW S B m) (hv : Wt S w B v T) (hS : S ≤ w.heap.size) (hT : T.size ≤ 4096) (ht : Tat S w t) (hA : TbA S w) (hwf : WF (m + 1) t) (hk : (t []).kind = 1 ∨ 8 ≤ (t []).kind) :
    Calls Tryz.prog 53 #[.pointer (some ⟨B, 0, none⟩), ndV (t [])] w fun e w' => Wr S B v w T (tx (m + 1) t) e w' := by
  have hb0 : Below w.heap.size w (w.alloc (ndX (t []))) := (Below.refl _ w).alloc (Nat.le_refl _) _
  have hcs := ndX_cells (w := w) (t []) (Below.refl _ _)
  have hv0 := hv.below hb0
  have ht0 := ht.below (hb0.mono hS)
  have hA0 := hA.below (hb0.mono hS)
  have hG : ¬ Mv B v w.heap.size := fun e => by have := (hv.base _ e).2; omega
  have hnode := ht.node
  obtain ⟨⟨hnd, _⟩, _, hkids⟩ := hwf
  obtain ⟨W0, hW0⟩ : ∃ W0, W0 = w.alloc (ndX (t [])) := ⟨_, rfl⟩
  have HW0 : Hid (W0 = w.alloc (ndX (t []))) := hW0
  obtain ⟨G, hGG⟩ : ∃ G, G = w.heap.size := ⟨_, rfl⟩
  have HG : Hid (G = w.heap.size) := hGG
  rw [← hW0] at hb0 hcs hv0 ht0 hA0
  rw [← hGG] at hcs hG
  have HB : Hid (Bs S B v W0) := hv0.bs (Nat.le_trans hS hb0.size)
  have HQ0 : Hid (Wq S B v W0 T W0) := hv0.q
  have HCL : Hid (∀ w', Kp (Mv B v) W0 w' → Cs w' G 0 (t [])) := fun w' k => hcs.kp k hG
  have HF : Hid (∀ X e w', Wr S B v W0 T X e w' → Wr S B v w T X e w') := fun X e w' h => h.re (Sub.refl _ _) (Kp.of hb0)
  have HK : Hid (∀ s T5 w5, Wq S B v W0 T5 w5 → T5.size ≤ 4096 → Calls Tryz.prog 72 #[.pointer (some ⟨B, 0, none⟩), ndV (t []), .string s] w5 fun e w' => Wr S B v W0 T5 (txK (tx m) t s (t []).kn) e w') := fun s T5 w5 q h5 => q.use fun v1 a => kids_any S B m v1 w5 T5 s t hIH a (Nat.le_trans HB.out.sz q.kp.size) h5 (ht0.below (HB.out.below q.kp)) (hA0.below (HB.out.below q.kp)) hkids
  have HTB : Hid (∀ w5, Kp (Mv B v) W0 w5 → TbI w5 ∧ TbZ w5) := fun w5 k => hA0 w5 (HB.out.below k)
  have HTs : Hid (T.size ≤ 4096) := hT
  have HX : Hid (tx (m + 1) t = mkB (t []).kind) := by
    show (if (t []).kind = 2 then _ else if (t []).kind = 3 then _ else if (t []).kind = 5 then _ else if (t []).kind = 4 then _ else if (t []).kind = 6 then _ else if (t []).kind = 7 then _ else _) = _
    rw [if_neg (by omega), if_neg (by omega), if_neg (by omega), if_neg (by omega), if_neg (by omega), if_neg (by omega)]
  have kM := mark_any (t []).kind W0
  have h6 : ((t []).kind == 6) = false := by simp; omega
  have h7 : ((t []).kind == 7) = false := by simp; omega
  have h2 : ((t []).kind == 2) = false := by simp; omega
  have h3 : ((t []).kind == 3) = false := by simp; omega
  have h5 : ((t []).kind == 5) = false := by simp; omega
  have h4 : ((t []).kind == 4) = false := by simp; omega
  clear hk
  generalize hKX : txK (tx m) t = KX at *
  clear hKX
  have hcs0 := HCL.out W0 (Kp.refl _ _)
  generalize t [] = d at *
  obtain ⟨e0, e1, e2, e3, e4, e5, e6, e7, e8⟩ := hcs0
  simp only [Nat.zero_add] at e0 e1 e2 e3 e4 e5 e6 e7 e8
  clear hv ht hA hkids hIH hb0 hcs hv0 ht0 hA0 hG hnode hW0 hGG hT hS hnd
  go_enter Tryz.func53, Tryz.ntmps53
  go_upto_region 1 with fail
  rw [← HW0.out, ← HG.out]
  go_wp2_with fail
  go_fit kM
  rintro e w3 ⟨rfl, hw3⟩
  obtain rfl := hw3.symm
  have k4 := HQ0.out.put HB.out HTs.out (mkB d.kind)
  clear kM e0 e1 e2 e3 e4 e5 e6 e7 e8
  go_wp2_with fail
  go_fit k4
  rintro e w4 h
  rcases h with ⟨h1, rfl, h2⟩ | ⟨h1, rfl, h2⟩
  · have Z4 : Hid ((T).size + (mkB d.kind).size ≤ 4096) := h1
    have Q4 : Hid (Wq S B v W0 ((T) ++ mkB d.kind) w4) := h2
    have k2' := h2.kp
    clear h1 h2 k4
    go_wp2
    go_end0
    refine HF.out _ _ _ (.inl ⟨?_, rfl, ?_⟩)
    · have h2 := Z4.out
      rw [HX.out]
      have hnl := nil_size
      try simp only [ByteArray.size_append] at h2 ⊢
      omega
    · have h2 := Q4.out
      rw [HX.out]
      simpa only [ByteArray.append_assoc, app_nil] using h2
  · have Z4 : Hid (¬ (T).size + (mkB d.kind).size ≤ 4096) := h1
    have Q4 : Hid (Kp (Mv B v) W0 w4) := h2
    clear h1 h2 k4
    go_wp2
    refine ⟨rfl, HF.out _ _ _ (.inr ⟨?_, rfl, Q4.out⟩)⟩
    have h2 := Z4.out
    rw [HX.out]
    have hnl := nil_size
    try simp only [ByteArray.size_append] at h2 ⊢
    omega

theorem wnode_any (S B : Nat) : ∀ m, NW S B m
  | 0 => fun _ _ _ _ _ _ _ _ _ h => False.elim h
  | m + 1 => fun t T v w hv hS hT ht hA hwf => by
    have ih := wnode_any S B m
    have hk := ndB_kind hwf.1.1
    by_cases k2 : (t []).kind = 2
    · exact wnode_2 S B m v w T t ih hv hS hT ht hA hwf k2
    by_cases k3 : (t []).kind = 3
    · exact wnode_3 S B m v w T t ih hv hS hT ht hA hwf k3
    by_cases k5 : (t []).kind = 5
    · exact wnode_5 S B m v w T t ih hv hS hT ht hA hwf k5
    by_cases k4 : (t []).kind = 4
    · exact wnode_4 S B m v w T t ih hv hS hT ht hA hwf k4
    by_cases k6 : (t []).kind = 6
    · cases hl : (t []).lz with
      | true => exact wnode_6true S B m v w T t ih hv hS hT ht hA hwf k6 hl
      | false => exact wnode_6false S B m v w T t ih hv hS hT ht hA hwf k6 hl
    by_cases k7 : (t []).kind = 7
    · cases hl : (t []).nm.toList.isEmpty with
      | true => exact wnode_7e S B m v w T t ih hv hS hT ht hA hwf k7 hl
      | false => exact wnode_7n S B m v w T t ih hv hS hT ht hA hwf k7 hl
    · exact wnode_m S B m v w T t ih hv hS hT ht hA hwf (by omega)
end Go.Proofs.YtajaadagejhllaaGreatDoor
