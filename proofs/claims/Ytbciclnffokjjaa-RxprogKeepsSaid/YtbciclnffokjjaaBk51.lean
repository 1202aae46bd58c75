/- A bundle of texts. -/
import Derived.Test.YtbciclnffokjjaaBk50
import Derived.Test.YtbciclnffokjjaaBk34
/- RxprogKeeps: copied, its end and its walk. -/
namespace Go.Proofs.Ytbciclnffokjjaa
open Go.RowKit Go.Lib

theorem nd_room {w : World} {B : Nat} {d : Nd} (h : w.heap[B]? = some (ndX d)) : Cs w B 0 d ∧ ∀ k, w.frozen? ⟨B, k, none⟩ = false := by
  refine ⟨?_, fun k => ?_⟩
  · constructor <;> (unfold World.cell?; rw [h]; rfl)
  · unfold World.frozen?
    dsimp only
    rw [h]
    simp
theorem ct_room {w : World} {B n : Nat} (h : w.heap[B]? = some (ctX n)) : w.cell? ⟨B, 0, none⟩ = some (.int .i64 (n : Int)) ∧ w.frozen? ⟨B, 0, none⟩ = false := by
  refine ⟨?_, ?_⟩
  · unfold World.cell?; rw [h]; rfl
  · unfold World.frozen?
    dsimp only
    rw [h]
    simp
theorem cutKs_cnt {F : Tr → Nat → Tr × Nat} {t : Tr} {n : Nat} (hn : n ≤ 9000) (hF : ∀ t k, k ≤ 9000 → k ≤ (F t k).2 ∧ (F t k).2 ≤ 9000) : ∀ i, (cutKs F t n i).1.length + n ≤ (cutKs F t n i).2
  | 0 => by simp [cutKs]
  | i + 1 => by
    have ih := cutKs_cnt (t := t) hn hF i
    obtain ⟨_, h2, _⟩ := cutKs_bd (t := t) hn hF i
    unfold cutKs
    split
    · have := hF (kid t i) ((cutKs F t n i).2 + 1) (by omega)
      dsimp only
      rw [List.length_append]
      simp
      omega
    · exact ih
theorem CpI.fin {w : World} {NB : Nat} {d : Nd} {m : Nat} {t : Tr} {n i : Nat} {kv : Value} {w' w2 : World} (h : CpI w NB d m t n i kv w') (hNB : NB < w.heap.size) (hm : 9000 ≤ n + m) (hd : SameD { d with kn := i } { t [] with kn := i }) (hdn : d.rn * 8 ≤ 140737488351232 ∧ d.nm.size ≤ 140737488351232) (hkn : (t []).kn * 8 ≤ 140737488351232) (hik : i ≤ (t []).kn) (hi : i = (t []).kn ∨ ¬ (cks m t n i).2 < 9000) (k : Kp (fun b => b = w.heap.size ∨ b = w.heap.size + 1) w' w2) :
    ∃ a c, kv = .slice a i c ∧ CpP m t n NB w (.returned (ndV { d with ka := a, kn := i, kc := c })) w2 := by
  obtain ⟨us, hrow, hkids⟩ := h.row
  obtain ⟨a, c, hkv, hc, hkz⟩ := row_kz hrow
  have hw2 : w.heap.size + 2 ≤ w'.heap.size := by
    have := (Array.getElem?_eq_some_iff.1 h.res).1
    omega
  have hown : ∀ b, kv.ownBlock = some b → w.heap.size + 2 ≤ b ∧ b < w'.heap.size := fun b e => hrow.lt b e
  have hck : cks m t n (t []).kn = cks m t n i := by
    rcases hi with hi | hi
    · rw [← hi]
    · exact cks_stop hi _ hik
  obtain ⟨e1, e2⟩ := cutT_eq m t n hm
  have hZ : ∀ b, ZI w w' kv b → ¬ (b = w.heap.size ∨ b = w.heap.size + 1) := fun b hb e => by have := hb.1; omega
  have hZm : ∀ b, ZI w w' kv b → w.heap.size ≤ b ∧ b < w2.heap.size := fun b hb => ⟨by have := hb.1; omega, by have := hb.2.1; have := k.size; omega⟩
  refine ⟨a, c, hkv, topT { d with ka := a, kn := i, kc := c } us, rfl, ?_, ?_, ?_, ?_⟩
  · refine topT_z ⟨hdn.1, by dsimp only; omega, hdn.2, hc⟩ ?_ ?_ (fun j hj => ((hkids j hj).1.kp k hZ).mono hZm)
    · exact (h.rgs.kp k hZ).imp id (fun ⟨g, o, e, hg, hcc⟩ => ⟨g, o, e, hZm g hg, hcc⟩)
    · have := hkz.kp k (fun b hb e => by have := hown b hb; omega)
      exact this.imp id (fun ⟨g, o, e, hg, hcc⟩ => ⟨g, o, e, ⟨by have := hown g hg; omega, by have := hown g hg; have := k.size; omega⟩, hcc⟩)
  · rw [e1]
    refine ⟨?_, fun j hj => ?_⟩
    · have : (cks m t n (t []).kn).1.length = i := by rw [hck, h.len]
      obtain ⟨f0, f1, f2, f3, f4, f5, f6, f7, f8, _⟩ := hd
      exact ⟨f0, f1, f2, f3, f4, f5, f6, f7, f8, this.symm⟩
    · have := (hkids j hj).2
      rw [← hck] at this
      exact this
  · rw [e2, hck]
    exact (k.block NB (by omega) (fun e => by omega)).trans h.cnt
  · exact h.kp.trans' k (fun b hb e => by omega)
abbrev zX : Obj := .cells #[.int .i64 0, .int .i32 0, .slice none 0 0, .int .i64 0, .int .i64 0, .bool false, .int .i64 0, .string ⟨#[]⟩, .slice none 0 0] 33

set_option maxHeartbeats 4000000 in
set_option maxRecDepth 100000 in
theorem copied_of (m : Nat) (hIH : ∀ m', m = m' + 1 → CpC m') : CpC m := by
  intro t n NB w hm hn hnl ht hc
  have hNB : NB < w.heap.size := (Array.getElem?_eq_some_iff.1 hc).1
  obtain ⟨W, hW⟩ : ∃ W, W = (w.alloc (ndX (t []))).alloc zX := ⟨_, rfl⟩
  have HW : Hid (W = (w.alloc (ndX (t []))).alloc zX) := hW
  have hWz : W.heap.size = w.heap.size + 2 := by rw [hW]; simp
  have hb0 : Below w.heap.size w W := by rw [hW]; exact ((Below.refl _ w).alloc (Nat.le_refl _) _).alloc (by simp) _
  have hbx : W.heap[w.heap.size]? = some (ndX (t [])) := by rw [hW]; exact (Below.heap_alloc _ _ _ (by simp)).trans (heap_alloc_new w _)
  have hrs : W.heap[w.heap.size + 1]? = some (ndX z0N) := by
    rw [hW]
    have := heap_alloc_new (w.alloc (ndX (t []))) zX
    rw [World.size_alloc] at this
    exact this
  have hnd := ht.node
  have htW : Tat NB W t := ht.below (hb0.mono (by omega))
  obtain ⟨g, cap, w1, r1, o1, b1, hg1, hlt1⟩ := fresh_copy (P := Try.prog) W 27 50 _ 2 8 Try.underlying27 infG rfl (by decide) (t []).ra (t []).rn (t []).rc (rc2 (t []).rf (t []).rn) ((hnl 1).1) (rc2_len _ _) (fun p hp => by
    have h2 : Rml W (some p) (t []).rf (t []).rn := hp ▸ htW.ranges.ml
    exact h2.cells) (rc2_one _ _) (by unfold maxLen; omega) (by omega)
  obtain ⟨d1, hd1⟩ : ∃ d1 : Nd, d1 = { t [] with ra := some ⟨g, 0, none⟩, rc := cap } := ⟨_, rfl⟩
  obtain ⟨V0, hV0⟩ : ∃ V0, V0 = w1.setCell ⟨w.heap.size, 2, none⟩ (.slice (some ⟨g, 0, none⟩) (t []).rn cap) := ⟨_, rfl⟩
  have HV0 : Hid (V0 = w1.setCell ⟨w.heap.size, 2, none⟩ (.slice (some ⟨g, 0, none⟩) (t []).rn cap)) := hV0
  have k0 : Kp (fun b => b = w.heap.size) w1 V0 := by rw [hV0]; exact (Kp.refl (fun b => b = w.heap.size) w1).setCell (p := ⟨w.heap.size, 2, none⟩) (show w.heap.size = w.heap.size from rfl) _
  have hbx1 : w1.heap[w.heap.size]? = some (ndX (t [])) := (b1.block _ (by omega)).trans hbx
  have hbx2 : V0.heap[w.heap.size]? = some (ndX d1) := by
    rw [hV0, hd1]
    simp [World.setCell, Array.getElem?_modify, hbx1]
  obtain ⟨V, hV⟩ : ∃ V, V = V0.alloc (.cells #[] 33) := ⟨_, rfl⟩
  have HV : Hid (V = V0.alloc (.cells #[] 33)) := hV
  have kV : Kp (fun _ => False) V0 V := by rw [hV]; exact (Kp.refl _ V0).alloc _
  have hs1 := b1.size
  have hs0 := k0.size
  have hsV := kV.size
  have hVz : V.heap.size = V0.heap.size + 1 := by rw [hV]; simp
  have HI0 : Hid (CpI w NB d1 m t n 0 (.slice (some ⟨V0.heap.size, 0, none⟩) 0 0) V) := by
    have kk : Kp (fun b => b = w.heap.size) w1 V := k0.trans (kV.mono (fun _ _ e => e.elim))
    have kW : Kp (fun b => b = w.heap.size) W V := (Kp.of b1).trans kk
    have hkw : Kp (fun b => b = NB) w V := (Kp.of hb0).trans' kW (fun b hb e => by have e' : b = w.heap.size := e; omega)
    refine ⟨?_, rfl, ?_, ?_, ?_, ⟨fun _ _ => nd0, ?_, fun j hj => by omega⟩, hkw⟩
    · exact (kW.block NB (by omega) (fun e => by have e' : NB = w.heap.size := e; omega)).trans ((hb0.block NB hNB).trans hc)
    · exact (kV.block _ (by omega) id).trans hbx2
    · exact (kW.block _ (by omega) (fun e => by have e' : w.heap.size + 1 = w.heap.size := e; omega)).trans hrs
    · have hr := (Rml.of_row o1 hlt1)
      have h2 : Rz (fun b => b = g) w1 (some ⟨g, 0, none⟩) (t []).rf (t []).rn := by
        rcases hr with hr | ⟨g', o', e, _, hc'⟩
        · exact .inl hr
        · cases e
          exact .inr ⟨g, 0, rfl, rfl, hc'⟩
      have h3 := h2.kp kk (fun b hb e => by have e' : b = w.heap.size := e; omega)
      rw [hd1]
      refine h3.imp id (fun ⟨g', o', e, hg', hc'⟩ => ⟨g', o', e, ⟨by omega, by omega, fun e2 => ?_⟩, hc'⟩)
      have e3 : V0.heap.size = g' := Option.some.inj e2
      omega
    · rw [hV]
      exact World.ownsRow_lit V0 #[] 0 (by omega) (Nat.zero_le _) (by simp)
  have HFIN : Hid (∀ (i : Nat) (kv : Value) (w' w2 : World), CpI w NB d1 m t n i kv w' → i ≤ (t []).kn → (i = (t []).kn ∨ ¬ (cks m t n i).2 < 9000) → Kp (fun b => b = w.heap.size ∨ b = w.heap.size + 1) w' w2 → ∃ a c, kv = .slice a i c ∧ CpP m t n NB w (.returned (ndV { d1 with ka := a, kn := i, kc := c })) w2) := fun i kv w' w2 h h1 h2 h3 => h.fin hNB hm (by rw [hd1]; exact ⟨rfl, rfl, rfl, fun _ _ => rfl, rfl, rfl, rfl, rfl, rfl, rfl⟩) (by rw [hd1]; exact ⟨hnd.1, hnd.2.2.1⟩) hnd.2.1 h1 h2 h3
  have HST : Hid (∀ (i : Nat) (kv : Value) (w' : World), CpI w NB d1 m t n i kv w' → (cks m t n i).2 ≤ 9000) := fun i kv w' _ => (cks_bd m t n i hn).2.1
  have HCL : Hid (∀ i : Nat, (cks m t n i).2 ≤ 9000) := fun i => (cks_bd m t n i hn).2.1
  have HKID : Hid (∀ (i : Nat) (kv : Value) (w' : World), CpI w NB d1 m t n i kv w' → i < (t []).kn → (cks m t n i).2 < 9000 → ∃ g o, (t []).ka = some ⟨g, o, none⟩ ∧ Cs (w'.setCell ⟨NB, 0, none⟩ (.int .i64 (((cks m t n i).2 + 1 : Nat) : Int))) g (o + i * 9) (t [i]) ∧ Cs (w'.setCell ⟨NB, 0, none⟩ (.int .i64 (((cks m t n i).2 + 1 : Nat) : Int))) w.heap.size 0 d1 ∧ Calls Try.prog 18 #[ndV (t [i]), .pointer (some ⟨NB, 0, none⟩)] (w'.setCell ⟨NB, 0, none⟩ (.int .i64 (((cks m t n i).2 + 1 : Nat) : Int))) (fun e w5 => ∃ du : Nd, e = .returned (ndV du) ∧ ∃ g c w7, (Builtin.append_ #[31, 31] 31 #[kv, .slice (some ⟨w5.heap.size, 0, none⟩) 1 1]).run Try.prog (w5.alloc (ndX du)) = .ok (.slice (some ⟨g, 0, none⟩) (i + 1) c) w7 ∧ Hid (CpI w NB d1 m t n (i + 1) (.slice (some ⟨g, 0, none⟩) (i + 1) c) w7))) := fun i kv w' h h1 h2 => by
    have hm1 : n ≤ (cks m t n i).2 := (cks_bd m t n i hn).1
    obtain ⟨m', rfl⟩ : ∃ m', m = m' + 1 := ⟨m - 1, by omega⟩
    have k2 : Kp (fun b => b = NB) w' (w'.setCell ⟨NB, 0, none⟩ (.int .i64 (((cks (m' + 1) t n i).2 + 1 : Nat) : Int))) := (Kp.refl (fun b => b = NB) w').setCell (p := ⟨NB, 0, none⟩) (show NB = NB from rfl) _
    have htw : Tat NB (w'.setCell ⟨NB, 0, none⟩ (.int .i64 (((cks (m' + 1) t n i).2 + 1 : Nat) : Int))) t := ht.below ((h.kp.trans k2).below (by omega) (fun b hb e => by have e' : b = NB := e; omega))
    obtain ⟨g, o, hka, hg, hcs⟩ := htw.kids.at i h1
    obtain ⟨us, hrow, hkids⟩ := h.row
    have hown : ∀ b, kv.ownBlock = some b → w.heap.size + 2 ≤ b ∧ b < w'.heap.size := fun b e => hrow.lt b e
    have hz : (w'.setCell ⟨NB, 0, none⟩ (.int .i64 (((cks (m' + 1) t n i).2 + 1 : Nat) : Int))).heap.size = w'.heap.size := by simp [World.setCell]
    refine ⟨g, o, hka, hcs, (nd_room ((k2.block _ (by have := (Array.getElem?_eq_some_iff.1 h.res).1; omega) (fun e => by have e' : w.heap.size = NB := e; omega)).trans h.box)).1, ?_⟩
    refine (hIH m' rfl (kid t i) ((cks (m' + 1) t n i).2 + 1) NB _ (by omega) (by omega) (hnl.kid i h1) (htw.kid i h1) (heap_set h.cnt)).mono fun e w5 ⟨u, he, hu, hsm, hcn, k5⟩ => ⟨u [], he, ?_⟩
    have k25 := k2.trans k5
    have o5 : w5.ownsRow (w.heap.size + 2) 33 9 kv i (n9 (fun j => us j []) i) := k25.row hrow (fun b e e2 => by have := hown b e; have e' : b = NB := e2; omega)
    obtain ⟨g7, c7, w7, r7, o7, k7, hg7⟩ := append_9 w5 (w.heap.size + 2) kv i (fun j => us j []) (u []) (by have := (Array.getElem?_eq_some_iff.1 h.res).1; have := k25.size; omega) (by have h8 := cutKs_cnt (t := t) hn (cutT_bd (m' + 1 - 1)) i; have h9 := h.len; unfold cks at h9 h2; omega) o5
    exact ⟨g7, c7, w7, r7, h.next hNB h2 k2 hz hu hsm hcn k5 hrow hkids o7 k7 hg7⟩
  have hV0z : V0.heap.size = w1.heap.size := by rw [hV0]; simp [World.setCell]
  rw [hV0z] at HI0
  have hknI : ((t []).kn : Int) ≤ 140737488351232 := by omega
  obtain ⟨⟨q0, q1, q2, q3, q4, q5, q6, q7, q8⟩, _⟩ := nd_room hbx
  obtain ⟨⟨p0, p1, p2, p3, p4, p5, p6, p7, p8⟩, hfz⟩ := nd_room hbx1
  have z2 := hfz 2
  simp only [Nat.zero_add] at q0 q1 q2 q3 q4 q5 q6 q7 q8 p0 p1 p2 p3 p4 p5 p6 p7 p8
  have eka : (t []).ka = d1.ka := by rw [hd1]
  have ekn : (t []).kn = d1.kn := by rw [hd1]
  rw [ekn] at hknI
  rw [ekn] at HFIN HKID
  rw [eka] at HKID
  have qa2 : (W.alloc (.cells #[] 50)).cell? ⟨w.heap.size, 2, none⟩ = some (.slice (t []).ra (t []).rn (t []).rc) := bcell2 ((Below.refl _ W).alloc (Nat.le_refl _) (.cells #[] 50)) q2
  clear hIH hm hn hnl ht hc hW hb0 hbx hrs hnd htW o1 b1 hg1 hlt1 hd1 hV0 k0 hbx1 hbx2 hV kV hs1 hs0 hsV hVz hWz hfz eka ekn HST hV0z
  go_enter Try.func18, Try.ntmps18
  go_upto_region 1 with fail
  rw [← HW.out]
  go_wp2_with (at_builtin; refine wpList_append_run rfl (.tmp 7) (.tmp 9) 27 27 rfl _ _ rfl rfl r1 ?_)
  rw [← HV0.out]
  rw [← HV.out]
  go_loopw [5, 6] (fun kv ivv w' => ∃ i : Nat, ivv = .int .i64 (i : Int) ∧ i ≤ d1.kn ∧ Hid (CpI w NB d1 m t n i kv w')) (fun _ ivv _ => d1.kn - (RowKit.intOf ivv).toNat)
  case atStart => exact ⟨0, rfl, Nat.zero_le _, HI0⟩
  case round =>
    clear q0 q1 q2 q3 q4 q5 q6 q7 q8 p0 p1 p2 p3 p4 p5 p6 p7 p8 qa2 z2 r1
    obtain ⟨i, rfl, hi, hinv⟩ := hrel
    have h := hinv.out
    obtain ⟨us, hrow, _⟩ := h.row
    obtain ⟨xa, xc, hkv, _, _⟩ := row_kz hrow
    subst hkv
    obtain ⟨cc, cf⟩ := ct_room h.cnt
    obtain ⟨⟨q0, q1, q2, q3, q4, q5, q6, q7, q8⟩, qf⟩ := nd_room h.box
    obtain ⟨⟨p0, p1, p2, p3, p4, p5, p6, p7, p8⟩, pf⟩ := nd_room h.res
    simp only [Nat.zero_add] at q0 q1 q2 q3 q4 q5 q6 q7 q8 p0 p1 p2 p3 p4 p5 p6 p7 p8
    clear hrow
    by_cases hA : i < d1.kn ∧ (cks m t n i).2 < 9000
    · obtain ⟨hlt, hcn⟩ := hA
      obtain ⟨gk, ok, hka, hcs, hbx, kC⟩ := HKID.out i _ wr h hlt hcn
      obtain ⟨cn, hcne⟩ : ∃ cn, (cks m t n i).2 = cn := ⟨_, rfl⟩
      rw [hcne] at cc hcn hcs hbx kC
      rw [show ((cn + 1 : Nat) : Int) = (cn : Int) + 1 by omega] at hcs hbx kC
      have hcI : (cn : Int) < 9000 := by omega
      have hii : (i : Int) < d1.kn := by omega
      obtain ⟨w2, hw2⟩ : ∃ w2, w2 = wr.setCell ⟨NB, 0, none⟩ (.int .i64 ((cn : Int) + 1)) := ⟨_, rfl⟩
      have HW2 : Hid (w2 = wr.setCell ⟨NB, 0, none⟩ (.int .i64 ((cn : Int) + 1))) := hw2
      rw [← hw2] at hcs hbx kC
      obtain ⟨a0, a1, a2, a3, a4, a5, a6, a7, a8⟩ := hcs
      obtain ⟨b0, b1, b2, b3, b4, b5, b6, b7, b8⟩ := hbx
      simp only [Nat.zero_add] at b0 b1 b2 b3 b4 b5 b6 b7 b8
      rw [hka] at b8
      clear h hinv hcne hw2 HFIN HKID HI0 HV HV0 p0 p1 p2 p3 p4 p5 p6 p7 p8 pf qf hka
      generalize t [i] = dk at *
      go_upto_region 7 with fail
      rw [← HW2.out]
      go_wp2_with fail
      go_fit kC
      rintro e w5 ⟨du, rfl, g7, c7, w7, r7, HN⟩
      clear kC
      go_wp2_with (at_builtin; refine wpList_append_run rfl (.tmp 31) (.tmp 39) 31 31 rfl _ _ rfl rfl r7 ?_)
      exact ⟨⟨i + 1, by go_num, by omega, HN⟩, by simp [RowKit.intOf]; omega⟩
    · have hcnl : (cks m t n i).2 ≤ 9000 := HCL.out i
      have HEND : Hid (∀ w2, Kp (fun b => b = w.heap.size ∨ b = w.heap.size + 1) wr w2 → CpP m t n NB w (.returned (ndV { d1 with ka := xa, kn := i, kc := xc })) w2) := fun w2 k => by
        obtain ⟨a, c, e, hp⟩ := HFIN.out i _ wr w2 h hi (by omega) k
        cases e
        exact hp
      have f8 := qf 8
      have f0 := pf 0
      have f1 := pf 1
      have f2 := pf 2
      have f3 := pf 3
      have f4 := pf 4
      have f5 := pf 5
      have f6 := pf 6
      have f7 := pf 7
      have f8' := pf 8
      obtain ⟨cn, hcne⟩ : ∃ cn, (cks m t n i).2 = cn := ⟨_, rfl⟩
      rw [hcne] at cc hcnl hA
      clear h hinv hcne HFIN HKID HI0 HV HV0 pf qf
      by_cases hlt : i < d1.kn
      · have hii : (i : Int) < d1.kn := by omega
        have hcI : ¬ (cn : Int) < 9000 := by omega
        go_wp2
        exact bodyPost_ret (v := ndV { d1 with ka := xa, kn := i, kc := xc }) (by simp [results, Try.results18, go_sem, p0, p1, p2, p3, p4, p5, p6, p7, p8]) rfl (HEND.out _ (((((((((((Kp.refl (fun b => b = w.heap.size ∨ b = w.heap.size + 1) wr).setCell (p := ⟨w.heap.size, 8, none⟩) (.inl rfl) _).setCell (p := ⟨w.heap.size + 1, 0, none⟩) (.inr rfl) _).setCell (p := ⟨w.heap.size + 1, 1, none⟩) (.inr rfl) _).setCell (p := ⟨w.heap.size + 1, 2, none⟩) (.inr rfl) _).setCell (p := ⟨w.heap.size + 1, 3, none⟩) (.inr rfl) _).setCell (p := ⟨w.heap.size + 1, 4, none⟩) (.inr rfl) _).setCell (p := ⟨w.heap.size + 1, 5, none⟩) (.inr rfl) _).setCell (p := ⟨w.heap.size + 1, 6, none⟩) (.inr rfl) _).setCell (p := ⟨w.heap.size + 1, 7, none⟩) (.inr rfl) _).setCell (p := ⟨w.heap.size + 1, 8, none⟩) (.inr rfl) _))
      · have hii : ¬ (i : Int) < d1.kn := by omega
        go_wp2
        exact bodyPost_ret (v := ndV { d1 with ka := xa, kn := i, kc := xc }) (by simp [results, Try.results18, go_sem, p0, p1, p2, p3, p4, p5, p6, p7, p8]) rfl (HEND.out _ (((((((((((Kp.refl (fun b => b = w.heap.size ∨ b = w.heap.size + 1) wr).setCell (p := ⟨w.heap.size, 8, none⟩) (.inl rfl) _).setCell (p := ⟨w.heap.size + 1, 0, none⟩) (.inr rfl) _).setCell (p := ⟨w.heap.size + 1, 1, none⟩) (.inr rfl) _).setCell (p := ⟨w.heap.size + 1, 2, none⟩) (.inr rfl) _).setCell (p := ⟨w.heap.size + 1, 3, none⟩) (.inr rfl) _).setCell (p := ⟨w.heap.size + 1, 4, none⟩) (.inr rfl) _).setCell (p := ⟨w.heap.size + 1, 5, none⟩) (.inr rfl) _).setCell (p := ⟨w.heap.size + 1, 6, none⟩) (.inr rfl) _).setCell (p := ⟨w.heap.size + 1, 7, none⟩) (.inr rfl) _).setCell (p := ⟨w.heap.size + 1, 8, none⟩) (.inr rfl) _))
theorem copied_any : ∀ m, CpC m
  | 0 => copied_of 0 (fun _ h => by cases h)
  | m + 1 => copied_of (m + 1) (fun m' h => by cases h; exact copied_any m)
end Go.Proofs.Ytbciclnffokjjaa
/- RxprogKeeps: a tree that came in, with its nil lists. -/
namespace Go.Proofs.Ytbciclnffokjjaa
open Go.ChangeShapes Go.WideShapes Go.ChangeAt Go.RowKit

theorem topT_nl {d : Nd} {T : Nat → Tr} (h : d.ra = none → d.rn = 0 ∧ d.rc = 0) (hT : ∀ j, j < d.kn → Tnl (T j)) : Tnl (topT d T) := by
  intro n
  cases n with
  | zero => exact trivial
  | succ n => exact ⟨h, fun j hj => hT j hj n⟩
set_option maxRecDepth 100000 in
set_option maxHeartbeats 2000000 in
theorem tree_openN {H : Type} {enc : TypeId × Value → H} {W : World} : ∀ (fuel : Nat) (cs : List Value) (d : DataW H) (p : List MemPlace), DataW.trod enc Try.prog W 0 (fun _ => true) true fuel 33 cs = some (d, p) → (∀ n ∈ d.weights Try.prog 33, n ≤ reachBytes) → ∃ t : Tr, cs = ndC (t []) ∧ Tat W.heap.size W t ∧ Tnl t := by
  intro fuel
  induction fuel using Nat.strongRecOn with
  | ind fuel ih =>
    intro cs d p hf hz
    have hlen := (DataW.trod_struct Try.underlying33 hf)
    obtain ⟨xs, k, hk, hxy, hcl, hxl, hff⟩ := hlen
    have hC : Try.prog.cellsOf 33 = 9 := by kernel_rfl
    rw [hC] at hcl
    match xs, hxl, cs, hcl with
    | [y0, y1, y2, y3, y4, y5, y6, y7, y8], _, [v0, v1, v2, v3, v4, v5, v6, v7, v8], _ =>
      have g0 := hff 0 _ rfl
      have g1 := hff 1 _ rfl
      have g2 := hff 2 _ rfl
      have g3 := hff 3 _ rfl
      have g4 := hff 4 _ rfl
      have g5 := hff 5 _ rfl
      have g6 := hff 6 _ rfl
      have g7 := hff 7 _ rfl
      have g8 := hff 8 _ rfl
      have c3 : Try.prog.cellsOf 3 = 1 := by kernel_rfl
      have c21 : Try.prog.cellsOf 21 = 1 := by kernel_rfl
      have c27 : Try.prog.cellsOf 27 = 1 := by kernel_rfl
      have c4 : Try.prog.cellsOf 4 = 1 := by kernel_rfl
      have c9 : Try.prog.cellsOf 9 = 1 := by kernel_rfl
      have c31 : Try.prog.cellsOf 31 = 1 := by kernel_rfl
      simp [c3] at g0 g3 g4 g6
      simp [c21] at g1
      simp [c27] at g2
      simp [c4] at g5
      simp [c9] at g7
      simp [c31] at g8
      obtain ⟨t0, e0, _, _⟩ := DataW.trod_int Try.underlying3 g0
      obtain ⟨t1, e1, _, _⟩ := DataW.trod_int Try.underlying21 g1
      obtain ⟨t3, e3, _, _⟩ := DataW.trod_int Try.underlying3 g3
      obtain ⟨t4, e4, _, _⟩ := DataW.trod_int Try.underlying3 g4
      obtain ⟨t5, e5, _⟩ := DataW.trod_bool Try.underlying4 g5
      obtain ⟨t6, e6, _, _⟩ := DataW.trod_int Try.underlying3 g6
      obtain ⟨t7, e7, x7, _⟩ := DataW.trod_string Try.underlying9 g7
      obtain ⟨d2, p2⟩ := y2
      obtain ⟨d7, p7⟩ := y7
      obtain ⟨d8, p8⟩ := y8
      have hD : d = .agg ([y0, y1, (d2, p2), y3, y4, y5, y6, (d7, p7), (d8, p8)].map (·.1)) := (Prod.mk.inj hxy).1
      have hr : reachBytes = 140737488351232 := by decide
      have hw : ∀ (j : Nat) (ty : TypeId) (dd : DataW H), [3, 21, 27, 3, 3, 4, 3, 9, 31][j]? = some ty → ([y0, y1, (d2, p2), y3, y4, y5, y6, (d7, p7), (d8, p8)].map (·.1))[j]? = some dd → ∀ n ∈ dd.weights Try.prog ty, n ≤ reachBytes := fun j ty dd h1 h2 n hn => by
        refine hz n ?_
        rw [hD]
        simp only [DataW.weights, Try.underlying33]
        exact DataW.weights_mem_each (j := j) (t := ty) (d := dd) h1 h2 n hn
      obtain ⟨ra, rn, rc, rf, ev, hR, hRb, hRz⟩ := ranges_open g2 (hw 2 27 d2 rfl rfl)
      have h7 : t7.size ≤ 140737488351232 := by
        have := hw 7 9 d7 rfl rfl t7.data.toList.length (by
          rw [(Prod.mk.inj x7).1]
          simp [DataW.weights])
        rw [size_len, hr] at this
        exact this
      have w0 : v0 = .int .i64 t0 := by simpa using e0
      have w1 : v1 = .int .i32 t1 := by simpa using e1
      have w3 : v3 = .int .i64 t3 := by simpa using e3
      have w4 : v4 = .int .i64 t4 := by simpa using e4
      have w5 : v5 = .bool t5 := by simpa using e5
      have w6 : v6 = .int .i64 t6 := by simpa using e6
      have w7 : v7 = .string t7 := by simpa using e7
      rcases DataW.trod_slice Try.underlying31 g8 with ⟨hcs, _⟩ | ⟨x, l, c, elems, rest, n, hn, hcs, hx8, _, hl, _, hel, hal, _⟩
      · have w8 : v8 = .slice none 0 0 := by simpa using hcs
        refine ⟨topT ⟨t0, t1, ra, rn, rc, rf, t3, t4, t5, t6, t7, none, 0, 0⟩ (fun _ _ => nd0), ?_, topT_at ⟨hRb, by dsimp only; omega, h7, Nat.le_refl _⟩ hR.b (.inl rfl) (fun j hj => absurd hj (Nat.not_lt_zero _)), topT_nl hRz (fun j hj => absurd hj (Nat.not_lt_zero _))⟩
        rw [w0, w1, w3, w4, w5, w6, w7, w8, ev]
        rfl
      · have w8 : v8 = .slice (some x) l c := by simpa using hcs
        have hkn : l * 8 ≤ 140737488351232 := by
          have hb : Try.prog.bytesOf 33 = 112 := by kernel_rfl
          have := hw 8 31 d8 rfl rfl ((elems.length + rest.length) * 112) (by
            rw [(Prod.mk.inj hx8).1]
            simp only [DataW.weights, Try.underlying31, hb, List.length_map]
            exact List.mem_cons.2 (.inl rfl))
          rw [hr] at this
          omega
        have each : ∀ i, i < l → ∃ u : Tr, (∃ cs', W.cells? 0 (x.add (i * 9)) 9 = some cs' ∧ cs' = ndC (u [])) ∧ Tat W.heap.size W u ∧ Tnl u := by
          intro i hi
          have h1 := hal i hi
          rw [hC, List.getElem?_eq_getElem (by omega : i < elems.length)] at h1
          obtain ⟨cs', h2, h3⟩ := Option.bind_eq_some_iff.1 h1
          obtain ⟨u, hu, hT⟩ := ih n (by omega) cs' elems[i].1 elems[i].2 h3 (fun q hq => by
            refine hw 8 31 d8 rfl rfl q ?_
            rw [(Prod.mk.inj hx8).1]
            exact weights_elem Try.underlying31 (List.mem_map.2 ⟨elems[i], List.getElem_mem _, rfl⟩) q hq)
          exact ⟨u, ⟨cs', h2, hu⟩, hT⟩
        have hI : Inhabited Tr := ⟨fun _ => nd0⟩
        obtain ⟨T, hT⟩ := Go.Deep.choose_lt each
        have hcell : ∀ j, j < l → ∀ q v, q < 9 → (ndC (T j []))[q]? = some v → W.cell? (x.add (j * 9 + q)) = some v := fun j hj q v hq hv => by
          obtain ⟨⟨cs', h1, h2⟩, _⟩ := hT j hj
          obtain ⟨_, hln, hce⟩ := World.cells?_some h1
          have := hce q (by omega)
          rw [Go.Deep.add_add] at this
          rw [this]
          subst h2
          simpa using hv
        refine ⟨topT ⟨t0, t1, ra, rn, rc, rf, t3, t4, t5, t6, t7, some x, l, c⟩ T, ?_, topT_at ⟨hRb, hkn, h7, hl⟩ hR.b ?_ (fun j hj => (hT j hj).2.1), topT_nl hRz (fun j hj => (hT j hj).2.2)⟩
        · rw [w0, w1, w3, w4, w5, w6, w7, w8, ev]
          rfl
        · by_cases h0 : l = 0
          · exact .inl h0
          · right
            obtain ⟨g, o, sp⟩ := x
            have hc0 := hcell 0 (by omega) 0 _ (by omega) rfl
            have hsp : sp = none := by simpa [Addr.add] using World.cell?_spot hc0
            subst hsp
            rw [Go.WideShapes.add_plain] at hc0
            refine ⟨g, o, rfl, block_lt_of_cell hc0, fun j hj => ?_⟩
            have hc : ∀ q v, q < 9 → (ndC (T j []))[q]? = some v → W.cell? ⟨g, o + j * 9 + q, none⟩ = some v := fun q v hq hv => by
              have := hcell j hj q v hq hv
              rw [Go.WideShapes.add_plain] at this
              rw [Nat.add_assoc]
              exact this
            exact ⟨hc 0 _ (by omega) rfl, hc 1 _ (by omega) rfl, hc 2 _ (by omega) rfl, hc 3 _ (by omega) rfl, hc 4 _ (by omega) rfl, hc 5 _ (by omega) rfl, hc 6 _ (by omega) rfl, hc 7 _ (by omega) rfl, hc 8 _ (by omega) rfl⟩
end Go.Proofs.Ytbciclnffokjjaa
