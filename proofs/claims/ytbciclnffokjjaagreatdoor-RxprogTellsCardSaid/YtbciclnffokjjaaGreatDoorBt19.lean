/- A bundle of texts. -/
import Derived.Test.YtbciclnffokjjaaGreatDoorBt18
/- Words: textsOf, the single kinds. -/
namespace Go.Proofs.YtbciclnffokjjaaGreatDoor
open Go.RowKit

/-- The three blocks of textsOf. -/
abbrev w37 (w : World) (d : Nd) : World := ((w.alloc (ndX d)).alloc (kX (.slice none 0 0) false)).alloc (kX (.slice none 0 0) false)
structure Txw (w W : World) (d : Nd) : Prop where
  z : W.heap.size = w.heap.size + 3
  cs : Cs W w.heap.size 0 d
  res : W.heap[w.heap.size + 1]? = some (kX (.slice none 0 0) false)
  out : W.heap[w.heap.size + 2]? = some (kX (.slice none 0 0) false)
  b : Below w.heap.size w W
theorem txw (w : World) (d : Nd) : Txw w (w37 w d) d where
  z := by simp
  cs := ndX_cells (w := w) d (((Below.refl _ _).alloc (Nat.le_refl _) _).alloc (by simp) _)
  res := by
    refine (Below.heap_alloc _ _ _ (by simp)).trans ?_
    have := heap_alloc_new (w.alloc (ndX d)) (kX (.slice none 0 0) false)
    rwa [World.size_alloc] at this
  out := by
    have := heap_alloc_new ((w.alloc (ndX d)).alloc (kX (.slice none 0 0) false)) (kX (.slice none 0 0) false)
    rwa [World.size_alloc, World.size_alloc] at this
  b := (((Below.refl _ w).alloc (Nat.le_refl _) _).alloc (by simp) _).alloc (by simp; omega) _
/-- An answer that another call gave. -/
theorem Txw.fin {w W : World} {d : Nd} (h : Txw w W d) (w2 : World) (v : Value) (mm : Bool) (r : Sto) (hs : StV W.heap.size w2 v mm r) (hb : Below W.heap.size W w2) :
    (w2.cell? ⟨w.heap.size + 1, 0, none⟩ = some (.slice none 0 0) ∧ w2.cell? ⟨w.heap.size + 1, 1, none⟩ = some (.bool false) ∧ w2.frozen? ⟨w.heap.size + 1, 0, none⟩ = false ∧ w2.frozen? ⟨w.heap.size + 1, 1, none⟩ = false) ∧ NewP w r (.returned (kV v mm)) ((w2.setCell ⟨w.heap.size + 1, 0, none⟩ v).setCell ⟨w.heap.size + 1, 1, none⟩ (.bool mm)) := by
  have z := h.z
  exact ⟨kx_cells ((hb.block _ (by omega)).trans h.res), NewP.put (by omega) hs (h.b.trans (hb.mono h.b.size)) (by omega)⟩
/-- What stays while the stock grows. -/
theorem mv_nil {B j : Nat} (h : Mv B (.slice none 0 0) j) : j = B := by
  rcases h with h | h
  · exact h
  · cases h
theorem Txw.kept {w W : World} {d : Nd} (h : Txw w W d) (w2 : World) (hk : Kp (Mv (w.heap.size + 2) (.slice none 0 0)) W w2) :
    Cs w2 w.heap.size 0 d ∧ w2.heap[w.heap.size + 1]? = some (kX (.slice none 0 0) false) ∧ Below w.heap.size w w2 := by
  have z := h.z
  have b : Below (w.heap.size + 2) W w2 := hk.below (by omega) (fun j hj e => by have := mv_nil e; omega)
  exact ⟨h.cs.below b (by omega), (b.block _ (by omega)).trans h.res, h.b.trans (b.mono (by omega))⟩
/-- An answer out of the stock. -/
theorem Txw.done {w W : World} {d : Nd} (h : Txw w W d) (w2 : World) (vo : Value) (r : Sto) (hs : SkV W.heap.size w2 (w.heap.size + 2) vo r) (hk : Kp (Mv (w.heap.size + 2) (.slice none 0 0)) W w2) :
    ∃ a n c mo, vo = .slice a n c ∧ w2.heap[w.heap.size + 2]? = some (kX vo mo) ∧ (w2.cell? ⟨w.heap.size + 1, 0, none⟩ = some (.slice none 0 0) ∧ w2.cell? ⟨w.heap.size + 1, 1, none⟩ = some (.bool false) ∧ w2.frozen? ⟨w.heap.size + 1, 0, none⟩ = false ∧ w2.frozen? ⟨w.heap.size + 1, 1, none⟩ = false) ∧ NewP w r (.returned (kV vo mo)) ((w2.setCell ⟨w.heap.size + 1, 0, none⟩ vo).setCell ⟨w.heap.size + 1, 1, none⟩ (.bool mo)) := by
  obtain ⟨mo, hm, hst⟩ := StV.of hs
  obtain ⟨a, n, c, e, _, _⟩ := hst.form
  obtain ⟨_, h1, h2⟩ := h.kept w2 hk
  have z := h.z
  exact ⟨a, n, c, mo, e, hm, kx_cells h1, NewP.put (by omega) hst h2 (by omega)⟩
theorem Txw.start {w W : World} {d : Nd} (h : Txw w W d) : SkV W.heap.size W (w.heap.size + 2) (.slice none 0 0) (some []) := .inr ⟨[], rfl, h.out, rfl, .inl ⟨rfl, rfl⟩⟩

set_option maxHeartbeats 4000000 in
set_option maxRecDepth 100000 in
theorem texts_1 (d : Nd) (w : World) (hk : d.kind = 1) : Calls Tryz.prog 14 #[ndV d] w (NewP w (some [⟨#[]⟩])) := by
  obtain ⟨W, hW⟩ : ∃ W, W = w37 w d := ⟨_, rfl⟩
  have HW : Hid (W = ((w.alloc (ndX d)).alloc (kX (.slice none 0 0) false)).alloc (kX (.slice none 0 0) false)) := hW
  have X : Hid (Txw w W d) := by rw [hW]; exact txw w d
  have kE := emptyText_any W
  have t1 : (d.kind == 1) = true := by simpa using hk
  obtain ⟨q0, q1, q2, q3, q4, q5, q6, q7, q8⟩ := X.out.cs
  simp only [Nat.zero_add] at q0 q1 q2 q3 q4 q5 q6 q7 q8
  clear hW hk
  go_enter Tryz.func14, Tryz.ntmps14
  go_upto_region 2 with fail
  rw [← HW.out]
  go_wp2_with fail
  go_fit kE
  rintro e w2 ⟨⟨v, mm, rfl, hs⟩, b2⟩
  obtain ⟨⟨r0, r1, z0, z1⟩, HP0⟩ := X.out.fin w2 v mm _ hs b2
  obtain ⟨fa, fn, fc, rfl, hf1, hf2⟩ := hs.form
  have HP : Hid _ := HP0
  clear hf1 hf2 hs b2 kE HP0
  go_wp2
  exact bodyPost_ret (v := kV (.slice fa fn fc) mm) (by simp [results, Tryz.results14, go_sem, r0, r1]) rfl HP.out

set_option maxHeartbeats 4000000 in
set_option maxRecDepth 100000 in
theorem texts_2 (d : Nd) (w : World) (hk : d.kind = 2) (h0 : 0 ≤ d.r) (h1 : d.r ≤ 1114111) : Calls Tryz.prog 14 #[ndV d] w (NewP w (rngS (some []) d.r 1)) := by
  obtain ⟨W, hW⟩ : ∃ W, W = w37 w d := ⟨_, rfl⟩
  have HW : Hid (W = ((w.alloc (ndX d)).alloc (kX (.slice none 0 0) false)).alloc (kX (.slice none 0 0) false)) := hW
  have X : Hid (Txw w W d) := by rw [hW]; exact txw w d
  have kA := addRunes_any W.heap.size (w.heap.size + 2) (.slice none 0 0) (some []) d.r d.r W X.out.start nil_ok (Nat.le_refl _) h0 (Int.le_refl _) h1
  rw [show (d.r - d.r + 1).toNat = 1 by omega] at kA
  have t1 : (d.kind == 1) = false := by rw [hk]; rfl
  have t2 : (d.kind == 2) = true := by rw [hk]; rfl
  obtain ⟨q0, q1, q2, q3, q4, q5, q6, q7, q8⟩ := X.out.cs
  simp only [Nat.zero_add] at q0 q1 q2 q3 q4 q5 q6 q7 q8
  clear hW hk h0 h1
  generalize rngS (some []) d.r 1 = RR at *
  go_enter Tryz.func14, Tryz.ntmps14
  go_upto_region 2 with fail
  rw [← HW.out]
  go_wp2_with fail
  go_fit kA
  rintro e w2 ⟨rfl, ⟨vo, s1, s2⟩, s3⟩
  obtain ⟨fa, fn, fc, mo, rfl, hbx, ⟨r0, r1, z0, z1⟩, HP0⟩ := X.out.done w2 vo _ s1 s3
  obtain ⟨o0, o1, _, _⟩ := kx_cells hbx
  have HP : Hid _ := HP0
  clear s1 s2 s3 kA HP0 hbx
  go_wp2
  exact bodyPost_ret (v := kV (.slice fa fn fc) mo) (by simp [results, Tryz.results14, go_sem, r0, r1]) rfl HP.out

set_option maxHeartbeats 4000000 in
set_option maxRecDepth 100000 in
theorem texts_8 (d : Nd) (w : World) (hk : 8 ≤ d.kind) : Calls Tryz.prog 14 #[ndV d] w (NewP w (some [])) := by
  obtain ⟨W, hW⟩ : ∃ W, W = w37 w d := ⟨_, rfl⟩
  have HW : Hid (W = ((w.alloc (ndX d)).alloc (kX (.slice none 0 0) false)).alloc (kX (.slice none 0 0) false)) := hW
  have X : Hid (Txw w W d) := by rw [hW]; exact txw w d
  obtain ⟨fa, fn, fc, mo, hv, hbx, ⟨r0, r1, z0, z1⟩, HP0⟩ := X.out.done W _ _ X.out.start (Kp.refl _ _)
  obtain ⟨o0, o1, _, _⟩ := kx_cells hbx
  have t1 : (d.kind == 1) = false := by rw [beq_eq_false_iff_ne]; omega
  have t2 : (d.kind == 2) = false := by rw [beq_eq_false_iff_ne]; omega
  have t3 : (d.kind == 3) = false := by rw [beq_eq_false_iff_ne]; omega
  have t4 : (d.kind == 4) = false := by rw [beq_eq_false_iff_ne]; omega
  have t5 : (d.kind == 5) = false := by rw [beq_eq_false_iff_ne]; omega
  have t6 : (d.kind == 6) = false := by rw [beq_eq_false_iff_ne]; omega
  have t7 : (d.kind == 7) = false := by rw [beq_eq_false_iff_ne]; omega
  obtain ⟨q0, q1, q2, q3, q4, q5, q6, q7, q8⟩ := X.out.cs
  simp only [Nat.zero_add] at q0 q1 q2 q3 q4 q5 q6 q7 q8
  have HP : Hid _ := HP0
  clear hW hk HP0 hbx hv
  go_enter Tryz.func14, Tryz.ntmps14
  go_upto_region 2 with fail
  rw [← HW.out]
  go_wp2
  exact bodyPost_ret (v := kV (.slice none 0 0) mo) (by simp [results, Tryz.results14, go_sem, r0, r1]) rfl HP.out

set_option maxHeartbeats 4000000 in
set_option maxRecDepth 100000 in
theorem texts_6 (d : Nd) (w : World) (r : Sto) (hk : d.kind = 6) (hC : ∀ V, Below w.heap.size w V → Calls Tryz.prog 30 #[ndV d] V (NewP V r)) : Calls Tryz.prog 14 #[ndV d] w (NewP w r) := by
  obtain ⟨W, hW⟩ : ∃ W, W = w37 w d := ⟨_, rfl⟩
  have HW : Hid (W = ((w.alloc (ndX d)).alloc (kX (.slice none 0 0) false)).alloc (kX (.slice none 0 0) false)) := hW
  have X : Hid (Txw w W d) := by rw [hW]; exact txw w d
  have kE := hC W X.out.b
  have t1 : (d.kind == 1) = false := by rw [hk]; rfl
  have t2 : (d.kind == 2) = false := by rw [hk]; rfl
  have t3 : (d.kind == 3) = false := by rw [hk]; rfl
  have t4 : (d.kind == 4) = false := by rw [hk]; rfl
  have t5 : (d.kind == 5) = false := by rw [hk]; rfl
  have t6 : (d.kind == 6) = true := by rw [hk]; rfl
  obtain ⟨q0, q1, q2, q3, q4, q5, q6, q7, q8⟩ := X.out.cs
  simp only [Nat.zero_add] at q0 q1 q2 q3 q4 q5 q6 q7 q8
  clear hW hk hC
  go_enter Tryz.func14, Tryz.ntmps14
  go_upto_region 2 with fail
  rw [← HW.out]
  go_wp2_with fail
  go_fit kE
  rintro e w2 ⟨⟨v, mm, rfl, hs⟩, b2⟩
  obtain ⟨⟨r0, r1, z0, z1⟩, HP0⟩ := X.out.fin w2 v mm _ hs b2
  obtain ⟨fa, fn, fc, rfl, hf1, hf2⟩ := hs.form
  have HP : Hid _ := HP0
  clear hf1 hf2 hs b2 kE HP0
  go_wp2
  exact bodyPost_ret (v := kV (.slice fa fn fc) mm) (by simp [results, Tryz.results14, go_sem, r0, r1]) rfl HP.out

set_option maxHeartbeats 4000000 in
set_option maxRecDepth 100000 in
theorem texts_4 (d : Nd) (w : World) (r : Sto) (hk : d.kind = 4) (hC : ∀ V, Below w.heap.size w V → Calls Tryz.prog 28 #[.slice d.ka d.kn d.kc] V (NewP V r)) : Calls Tryz.prog 14 #[ndV d] w (NewP w r) := by
  obtain ⟨W, hW⟩ : ∃ W, W = w37 w d := ⟨_, rfl⟩
  have HW : Hid (W = ((w.alloc (ndX d)).alloc (kX (.slice none 0 0) false)).alloc (kX (.slice none 0 0) false)) := hW
  have X : Hid (Txw w W d) := by rw [hW]; exact txw w d
  have kE := hC W X.out.b
  have t1 : (d.kind == 1) = false := by rw [hk]; rfl
  have t2 : (d.kind == 2) = false := by rw [hk]; rfl
  have t3 : (d.kind == 3) = false := by rw [hk]; rfl
  have t4 : (d.kind == 4) = true := by rw [hk]; rfl
  obtain ⟨q0, q1, q2, q3, q4, q5, q6, q7, q8⟩ := X.out.cs
  simp only [Nat.zero_add] at q0 q1 q2 q3 q4 q5 q6 q7 q8
  clear hW hk hC
  go_enter Tryz.func14, Tryz.ntmps14
  go_upto_region 2 with fail
  rw [← HW.out]
  go_wp2_with fail
  go_fit kE
  rintro e w2 ⟨⟨v, mm, rfl, hs⟩, b2⟩
  obtain ⟨⟨r0, r1, z0, z1⟩, HP0⟩ := X.out.fin w2 v mm _ hs b2
  obtain ⟨fa, fn, fc, rfl, hf1, hf2⟩ := hs.form
  have HP : Hid _ := HP0
  clear hf1 hf2 hs b2 kE HP0
  go_wp2
  exact bodyPost_ret (v := kV (.slice fa fn fc) mm) (by simp [results, Tryz.results14, go_sem, r0, r1]) rfl HP.out

set_option maxHeartbeats 4000000 in
set_option maxRecDepth 100000 in
theorem texts_7 (d d0 : Nd) (w : World) (r : Sto) (g o : Nat) (hk : d.kind = 7) (hka : d.ka = some ⟨g, o, none⟩) (hkn : 0 < d.kn) (hg : g < w.heap.size) (hcs : Cs w g o d0) (hC : ∀ V, Below w.heap.size w V → Calls Tryz.prog 14 #[ndV d0] V (NewP V r)) : Calls Tryz.prog 14 #[ndV d] w (NewP w r) := by
  obtain ⟨W, hW⟩ : ∃ W, W = w37 w d := ⟨_, rfl⟩
  have HW : Hid (W = ((w.alloc (ndX d)).alloc (kX (.slice none 0 0) false)).alloc (kX (.slice none 0 0) false)) := hW
  have X : Hid (Txw w W d) := by rw [hW]; exact txw w d
  have kE := hC W X.out.b
  have t1 : (d.kind == 1) = false := by rw [hk]; rfl
  have t2 : (d.kind == 2) = false := by rw [hk]; rfl
  have t3 : (d.kind == 3) = false := by rw [hk]; rfl
  have t4 : (d.kind == 4) = false := by rw [hk]; rfl
  have t5 : (d.kind == 5) = false := by rw [hk]; rfl
  have t6 : (d.kind == 6) = false := by rw [hk]; rfl
  have t7 : (d.kind == 7) = true := by rw [hk]; rfl
  obtain ⟨q0, q1, q2, q3, q4, q5, q6, q7, q8⟩ := X.out.cs
  simp only [Nat.zero_add] at q0 q1 q2 q3 q4 q5 q6 q7 q8
  rw [hka] at q8
  obtain ⟨p0, p1, p2, p3, p4, p5, p6, p7, p8⟩ := hcs.below X.out.b hg
  have hknI : 0 < (d.kn : Int) := by omega
  clear hW hk hC hcs hka hkn
  go_enter Tryz.func14, Tryz.ntmps14
  go_upto_region 2 with fail
  rw [← HW.out]
  go_wp2_with fail
  go_fit kE
  rintro e w2 ⟨⟨v, mm, rfl, hs⟩, b2⟩
  obtain ⟨⟨r0, r1, z0, z1⟩, HP0⟩ := X.out.fin w2 v mm _ hs b2
  obtain ⟨fa, fn, fc, rfl, hf1, hf2⟩ := hs.form
  have HP : Hid _ := HP0
  clear hf1 hf2 hs b2 kE HP0
  go_wp2
  exact bodyPost_ret (v := kV (.slice fa fn fc) mm) (by simp [results, Tryz.results14, go_sem, r0, r1]) rfl HP.out
end Go.Proofs.YtbciclnffokjjaaGreatDoor
/- Words: textsOf, the kinds with loops, and the whole. -/
namespace Go.Proofs.YtbciclnffokjjaaGreatDoor
open Go.RowKit

theorem ssB_at {f : Nat → Rg} : ∀ {n : Nat}, ssB f n = true → ∀ i, i < n → 0 ≤ (f i).1 ∧ (f i).1 ≤ (f i).2 ∧ (f i).2 ≤ 1114111
  | 0, _, i, hi => by omega
  | n + 1, h, i, hi => by
    unfold ssB at h
    rw [Bool.and_eq_true] at h
    by_cases e : i = n
    · subst e
      have := h.2
      unfold esB at this
      rw [decide_eq_true_iff] at this
      exact ⟨this.1, this.2.2.2.2.1, this.2.2.2.1⟩
    · exact ssB_at h.1 i (by omega)
theorem ndB_lit {d : Nd} (h : ndB d = true) (k : d.kind = 2) : 0 ≤ d.r ∧ d.r ≤ 1114111 := by
  unfold ndB kdB at h
  simp only [Bool.and_eq_true] at h
  have h2 := h.2
  rw [if_pos k] at h2
  simp only [Bool.and_eq_true, ruB, decide_eq_true_iff] at h2
  exact h2.2
theorem ndB_cls {d : Nd} (h : ndB d = true) (k : d.kind = 3) : ssB d.rf d.rn = true := by
  unfold ndB kdB at h
  simp only [Bool.and_eq_true] at h
  have h2 := h.2
  rw [if_neg (by omega), if_pos k] at h2
  simp only [Bool.and_eq_true, setB] at h2
  exact h2.2.1
/-- The stock under way. -/
structure Tst (w W : World) (w' : World) (r : Sto) : Prop where
  ex : ∃ vo, SkV W.heap.size w' (w.heap.size + 2) vo r ∧ Sub W (.slice none 0 0) vo
  kp : Kp (Mv (w.heap.size + 2) (.slice none 0 0)) W w'
set_option maxHeartbeats 4000000 in
set_option maxRecDepth 100000 in
theorem texts_3 (d : Nd) (w : World) (hk : d.kind = 3) (hR : Rmb w.heap.size w d.ra d.rf d.rn) (hrn : d.rn * 8 ≤ 140737488351232) (hs : ∀ i, i < d.rn → 0 ≤ (d.rf i).1 ∧ (d.rf i).1 ≤ (d.rf i).2 ∧ (d.rf i).2 ≤ 1114111) : Calls Tryz.prog 14 #[ndV d] w (NewP w (clsS (some []) d.rf d.rn)) := by
  obtain ⟨W, hW⟩ : ∃ W, W = w37 w d := ⟨_, rfl⟩
  have HW : Hid (W = ((w.alloc (ndX d)).alloc (kX (.slice none 0 0) false)).alloc (kX (.slice none 0 0) false)) := hW
  have X : Hid (Txw w W d) := by rw [hW]; exact txw w d
  have HR : Hid (Rmb w.heap.size w d.ra d.rf d.rn) := hR
  have HS : Hid (∀ i, i < d.rn → 0 ≤ (d.rf i).1 ∧ (d.rf i).1 ≤ (d.rf i).2 ∧ (d.rf i).2 ≤ 1114111) := hs
  have t1 : (d.kind == 1) = false := by rw [hk]; rfl
  have t2 : (d.kind == 2) = false := by rw [hk]; rfl
  have t3 : (d.kind == 3) = true := by rw [hk]; rfl
  obtain ⟨q0, q1, q2, q3, q4, q5, q6, q7, q8⟩ := X.out.cs
  simp only [Nat.zero_add] at q0 q1 q2 q3 q4 q5 q6 q7 q8
  have hrI : (d.rn : Int) ≤ 140737488351232 := by omega
  clear hW hk hR hs
  go_enter Tryz.func14, Tryz.ntmps14
  go_upto_region 2 with fail
  rw [← HW.out]
  go_wp2_with fail
  go_loopw [26] (fun ivv w' => ∃ i : Nat, ivv = .int .i64 (i : Int) ∧ i ≤ d.rn ∧ Hid (Tst w W w' (clsS (some []) d.rf i))) (fun ivv _ => d.rn - (RowKit.intOf ivv).toNat)
  case atStart => exact ⟨0, rfl, Nat.zero_le _, ⟨_, X.out.start, Sub.refl _ _⟩, Kp.refl _ _⟩
  case round =>
    obtain ⟨i, rfl, hi, hinv⟩ := hrel
    by_cases hlt : i < d.rn
    · have hii : (i : Int) < d.rn := by omega
      obtain ⟨⟨vo, hsk, hsub⟩, hkp⟩ := hinv.out
      obtain ⟨_, _, hbw⟩ := X.out.kept wr hkp
      obtain ⟨g1, o1, hra, hg1, e0, e1⟩ := (HR.out.below hbw).at i hlt
      obtain ⟨s0, s1, s2⟩ := HS.out i hlt
      have HC : Hid (clsS (some []) d.rf (i + 1) = rngS (clsS (some []) d.rf i) (d.rf i).1 ((d.rf i).2 - (d.rf i).1 + 1).toNat) := rfl
      obtain ⟨⟨lo, hi'⟩, hx⟩ : ∃ x, d.rf i = x := ⟨_, rfl⟩
      rw [hx] at e0 e1 s0 s1 s2 HC
      dsimp only at e0 e1 s0 s1 s2 HC
      obtain ⟨W6, hW6⟩ : ∃ W6, W6 = wr.alloc (.cells #[.int .i32 lo, .int .i32 hi'] 49) := ⟨_, rfl⟩
      have HW6 : Hid (W6 = wr.alloc (.cells #[.int .i32 lo, .int .i32 hi'] 49)) := hW6
      have k6 : Kp (fun _ => False) wr W6 := by rw [hW6]; exact (Kp.refl _ wr).alloc _
      have n6 : W6.heap[wr.heap.size]? = some (.cells #[.int .i32 lo, .int .i32 hi'] 49) := by rw [hW6]; exact heap_alloc_new wr _
      have y0 : W6.cell? ⟨wr.heap.size, 0, none⟩ = some (.int .i32 lo) := by unfold World.cell?; rw [n6]; rfl
      have y1 : W6.cell? ⟨wr.heap.size, 1, none⟩ = some (.int .i32 hi') := by unfold World.cell?; rw [n6]; rfl
      have kA := addRunes_any W.heap.size (w.heap.size + 2) vo (clsS (some []) d.rf i) lo hi' W6 (hsk.kp k6 id (fun _ _ => id)) (clsS_ok _ _) (Nat.le_trans hkp.size k6.size) s0 s1 s2
      have HN : Hid (∀ w7, AddP W.heap.size (w.heap.size + 2) vo (rngS (clsS (some []) d.rf i) lo (hi' - lo + 1).toNat) W6 (.returned (.tuple #[])) w7 → Tst w W w7 (clsS (some []) d.rf (i + 1))) := fun w7 ⟨_, ⟨v2, a1, a2⟩, a3⟩ => by
        rw [HC.out]
        exact ⟨⟨v2, a1, hsub.trans a2 (Nat.le_trans hkp.size k6.size)⟩, (hkp.trans (k6.mono (fun _ _ e => e.elim))).next hsub a3⟩
      rw [hra] at *
      generalize rngS (clsS (some []) d.rf i) lo (hi' - lo + 1).toNat = RR at *
      clear hinv hsk hsub hkp hbw hx hW6 k6 n6
      go_wp2_with fail
      rw [← HW6.out]
      go_wp2_with fail
      go_fit kA
      rintro e w7 hp
      have he := hp.1
      subst he
      have HQ : Hid _ := HN.out w7 hp
      clear hp HN kA
      go_wp2
      exact ⟨⟨i + 1, by go_num, by omega, HQ⟩, by simp [RowKit.intOf]; omega⟩
    · have hii : ¬ (i : Int) < d.rn := by omega
      obtain rfl : i = d.rn := by omega
      obtain ⟨⟨vo, hsk, hsub⟩, hkp⟩ := hinv.out
      obtain ⟨fa, fn, fc, mo, rfl, hbx, ⟨r0, r1, z0, z1⟩, HP0⟩ := X.out.done wr vo _ hsk hkp
      obtain ⟨o0, o1, _, _⟩ := kx_cells hbx
      have HP : Hid _ := HP0
      clear hsk hsub hkp HP0 hbx hinv hlt hi
      go_wp2
      exact bodyPost_ret (v := kV (.slice fa fn fc) mo) (by simp [results, Tryz.results14, go_sem, r0, r1]) rfl HP.out

set_option maxHeartbeats 4000000 in
set_option maxRecDepth 100000 in
theorem texts_5 (m : Nat) (hIH : WrC m) (t : Tr) (w : World) (hk : (t []).kind = 5) (hkd : ∀ j, j < (t []).kn → WF m (kid t j) ∧ lenF m (kid t j) ≤ 10000) (hkn : (t []).kn ≤ 8194) (ht : Tat w.heap.size w t) : Calls Tryz.prog 14 #[ndV (t [])] w (NewP w (altS (fun q => wrdF m (kid t q)) (t []).kn)) := by
  obtain ⟨d, hd⟩ : ∃ d, t [] = d := ⟨_, rfl⟩
  have HD : Hid (t [] = d) := hd
  rw [hd] at hk hkd hkn ⊢
  obtain ⟨W, hW⟩ : ∃ W, W = w37 w d := ⟨_, rfl⟩
  have HW : Hid (W = ((w.alloc (ndX d)).alloc (kX (.slice none 0 0) false)).alloc (kX (.slice none 0 0) false)) := hW
  have X : Hid (Txw w W d) := by rw [hW]; exact txw w d
  have HT : Hid (Tat w.heap.size w t) := ht
  have IH : Hid (WrC m) := hIH
  have HKD : Hid (∀ j, j < d.kn → WF m (kid t j) ∧ lenF m (kid t j) ≤ 10000) := hkd
  have t1 : (d.kind == 1) = false := by rw [hk]; rfl
  have t2 : (d.kind == 2) = false := by rw [hk]; rfl
  have t3 : (d.kind == 3) = false := by rw [hk]; rfl
  have t4 : (d.kind == 4) = false := by rw [hk]; rfl
  have t5 : (d.kind == 5) = true := by rw [hk]; rfl
  obtain ⟨q0, q1, q2, q3, q4, q5, q6, q7, q8⟩ := X.out.cs
  simp only [Nat.zero_add] at q0 q1 q2 q3 q4 q5 q6 q7 q8
  have hknI : (d.kn : Int) ≤ 8194 := by omega
  obtain ⟨F, hF⟩ : ∃ F, F = fun q => wrdF m (kid t q) := ⟨_, rfl⟩
  have HF : Hid (F = fun q => wrdF m (kid t q)) := hF
  rw [← hF]
  clear hW hk ht hIH hkd hkn hd hF
  go_enter Tryz.func14, Tryz.ntmps14
  go_upto_region 2 with fail
  rw [← HW.out]
  go_wp2_with fail
  go_loopw [43] (fun ivv w' => ∃ i : Nat, ivv = .int .i64 (i : Int) ∧ i ≤ d.kn ∧ Hid (Tst w W w' (altS F i))) (fun ivv _ => d.kn - (RowKit.intOf ivv).toNat)
  case atStart => exact ⟨0, rfl, Nat.zero_le _, ⟨_, X.out.start, Sub.refl _ _⟩, Kp.refl _ _⟩
  case round =>
    obtain ⟨i, rfl, hi, hinv⟩ := hrel
    by_cases hlt : i < d.kn
    · have hii : (i : Int) < d.kn := by omega
      obtain ⟨⟨vo, hsk, hsub⟩, hkp⟩ := hinv.out
      obtain ⟨_, _, hbw⟩ := X.out.kept wr hkp
      have htr := HT.out.below hbw
      have hlt' : i < (t []).kn := by rw [HD.out]; exact hlt
      obtain ⟨g1, o1, hka, hg1, hcs⟩ := htr.kids.at i hlt'
      rw [HD.out] at hka
      have hal : Below wr.heap.size wr (wr.alloc (ndX (t [i]))) := (Below.refl _ wr).alloc (Nat.le_refl _) _
      have kN := IH.out (kid t i) (wr.alloc (ndX (t [i]))) (HKD.out i hlt).1 (HKD.out i hlt).2 (((htr.kid i hlt').below (hal.mono hbw.size)).mono (Nat.le_trans hbw.size hal.size))
      change Calls Tryz.prog 14 #[ndV (t [i])] (wr.alloc (ndX (t [i]))) _ at kN
      have HFI : Hid (wrdF m (kid t i) = F i ∧ (F i).ok) := by rw [HF.out]; exact ⟨rfl, wrdF_ok _ _⟩
      rw [HFI.out.1] at kN
      have HN : Hid (∀ w5 u n, StV (wr.alloc (ndX (t [i]))).heap.size w5 u n (F i) → Below (wr.alloc (ndX (t [i]))).heap.size (wr.alloc (ndX (t [i]))) w5 → Calls Tryz.prog 29 #[.pointer (some ⟨w.heap.size + 2, 0, none⟩), kV u n] w5 (fun e w7 => e = .returned (.tuple #[]) ∧ Tst w W w7 (altS F (i + 1)))) := fun w5 u n h1 h2 => by
        have k5 : Kp (fun _ => False) wr w5 := Kp.of (hal.trans (h2.mono hal.size))
        refine (addAll_any W.heap.size (w.heap.size + 2) vo (altS F i) _ u n (F i) w5 (hsk.kp k5 id (fun _ _ => id)) (altS_ok _ _) HFI.out.2 (Nat.le_trans hkp.size k5.size) h1 (fun j e hm => ?_)).mono fun e w7 ⟨a0, ⟨v2, a1, a2⟩, a3⟩ => ⟨a0, ⟨v2, a1, hsub.trans a2 (Nat.le_trans hkp.size k5.size)⟩, (hkp.trans (k5.mono (fun _ _ e => e.elim))).next hsub a3⟩
        have h3 := (h1.own j e).1
        have h4 := hal.size
        rcases hm with hm | hm
        · have := hsk.lt; omega
        · obtain ⟨mo, _, hso⟩ := StV.of hsk
          have := (hso.own j hm).2
          omega
      obtain ⟨p0, p1, p2, p3, p4, p5, p6, p7, p8⟩ := hcs
      rw [hka] at *
      clear hinv hsk hsub hkp hbw htr hal hlt' hka HFI
      generalize t [i] = dk at *
      generalize F i = RR at *
      go_wp2_with fail
      go_fit kN
      rintro e w5 ⟨⟨u, n5, rfl, s5⟩, b5⟩
      have kQ := HN.out w5 u n5 s5 b5
      obtain ⟨ua, un, uc, rfl, hf1, hf2⟩ := s5.form
      clear hf1 hf2 s5 b5 HN kN
      go_wp2_with fail
      go_fit kQ
      rintro e w7 ⟨rfl, hq⟩
      have HQ : Hid _ := hq
      clear hq
      go_wp2
      exact ⟨⟨i + 1, by go_num, by omega, HQ⟩, by simp [RowKit.intOf]; omega⟩
    · have hii : ¬ (i : Int) < d.kn := by omega
      obtain rfl : i = d.kn := by omega
      obtain ⟨⟨vo, hsk, hsub⟩, hkp⟩ := hinv.out
      obtain ⟨fa, fn, fc, mo, rfl, hbx, ⟨r0, r1, z0, z1⟩, HP0⟩ := X.out.done wr vo _ hsk hkp
      obtain ⟨o0, o1, _, _⟩ := kx_cells hbx
      have HP : Hid _ := HP0
      clear hsk hsub hkp HP0 hbx hinv hlt hi
      go_wp2
      exact bodyPost_ret (v := kV (.slice fa fn fc) mo) (by simp [results, Tryz.results14, go_sem, r0, r1]) rfl HP.out

theorem textsOf_step (m : Nat) (hIH : WrC m) : WrC (m + 1) := by
  intro t w hw hl ht
  have hkid := lenF_kid hw hl
  have hw0 := hw
  obtain ⟨⟨hnd, _⟩, hkn, hk⟩ := hw
  have hkd := ndB_kind hnd
  unfold wrdF
  by_cases k1 : (t []).kind = 1
  · rw [if_pos k1]
    exact texts_1 _ w k1
  rw [if_neg k1]
  by_cases k2 : (t []).kind = 2
  · rw [if_pos k2]
    exact texts_2 _ w k2 (ndB_lit hnd k2).1 (ndB_lit hnd k2).2
  rw [if_neg k2]
  by_cases k3 : (t []).kind = 3
  · rw [if_pos k3]
    exact texts_3 _ w k3 ht.ranges ht.node.1 (ssB_at (ndB_cls hnd k3))
  rw [if_neg k3]
  have hK : ¬ ((t []).kind = 6 ∧ (t []).mx = 0) → ∀ j, j < (t []).kn → WF m (kid t j) ∧ lenF m (kid t j) ≤ 10000 := fun h j hj => ⟨hk j hj, hkid h j hj⟩
  by_cases k4 : (t []).kind = 4
  · rw [if_pos k4]
    have h2 := ndB_row hnd (.inl k4)
    obtain ⟨g, o, hka, _, _⟩ := ht.kids.at 0 (by omega)
    refine texts_4 _ w _ k4 (fun V b => ?_)
    have := rowOf_any m hIH t g o hka (hK (by omega)) hkn (t []).kn 0 (t []).kn (t []).kc V (Nat.le_refl _) (by omega) (by omega) ht.node.2.2.2 ((ht.below b).mono b.size)
    rw [show o + 0 * 9 = o by omega, ← hka] at this
    exact this
  rw [if_neg k4]
  by_cases k5 : (t []).kind = 5
  · rw [if_pos k5]
    exact texts_5 m hIH t w k5 (hK (by omega)) hkn ht
  rw [if_neg k5]
  by_cases k6 : (t []).kind = 6
  · rw [if_pos k6]
    exact texts_6 _ w _ k6 (fun V b => repeatsOf_any m hIH t V hw0 hl k6 ((ht.below b).mono b.size))
  rw [if_neg k6]
  by_cases k7 : (t []).kind = 7
  · rw [if_pos k7]
    have h1 := ndB_grp hnd k7
    obtain ⟨g, o, hka, hg, hcs⟩ := ht.kids.at 0 (by omega)
    rw [show o + 0 * 9 = o by omega] at hcs
    exact texts_7 _ _ w _ g o k7 hka (by omega) hg hcs (fun V b => hIH (kid t 0) V (hk 0 (by omega)) (hkid (by omega) 0 (by omega)) (((ht.kid 0 (by omega)).below b).mono b.size))
  rw [if_neg k7]
  exact texts_8 _ w (by omega)
theorem textsOf_any : ∀ m, WrC m
  | 0 => fun _ _ h => by cases h
  | m + 1 => textsOf_step m (textsOf_any m)
end Go.Proofs.YtbciclnffokjjaaGreatDoor
