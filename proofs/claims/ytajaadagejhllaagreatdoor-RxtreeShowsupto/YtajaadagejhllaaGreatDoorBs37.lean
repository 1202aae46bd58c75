/- A bundle of texts. -/
import Derived.Test.YtajaadagejhllaaGreatDoorBs36
import Derived.Test.YtajaadagejhllaaGreatDoorBs27
/- The reference's text of a tree. -/

namespace Go.Proofs.YtajaadagejhllaaGreatDoor
open Go.RowKit Go.Lib

/-- A tree's text below a node of that kind. -/
def txA (ab : Int) (m : Nat) (t : Tr) : ByteArray := if brB ab (t []).kind = true then ((⟨#[40, 63, 58]⟩ : ByteArray) ++ tx m t) ++ ⟨#[41]⟩ else tx m t
def WRC (S m : Nat) : Prop := ∀ (t : Tr) (T : ByteArray) (v : Value) (w : World) (ab : Int), Ro S w v T → S ≤ w.heap.size → Tat S w t → TbA S w → WF m t → T.size + (tx m t).size + 16 * (m + 1) ≤ 140737488355328 →
  Calls Tryz.prog 43 #[v, ndV (t []), .int .i64 ab] w fun e w' => ∃ v', e = .returned v' ∧ Rq S v w (T ++ txA ab m t) v' w'
theorem set_up {f : Nat → Rg} {n : Nat} (h : setB f n = true) : ∀ j, j < n → 0 ≤ (f j).1 ∧ (f j).1 ≤ 1114111 ∧ 0 ≤ (f j).2 ∧ (f j).2 ≤ 1114111 ∧ (f j).1 ≤ (f j).2 := fun j hj => by
  have h1 : ssB f n = true := by
    unfold setB at h
    rw [Bool.and_eq_true] at h
    exact h.1
  have h2 := ssB_at h1 j hj
  unfold esB at h2
  simp at h2
  omega
theorem txA_size (ab : Int) (m : Nat) (t : Tr) : (txA ab m t).size ≤ (tx m t).size + 4 := by
  unfold txA
  split
  · simp only [ByteArray.size_append]
    have e1 : (⟨#[40, 63, 58]⟩ : ByteArray).size = 3 := rfl
    have e2 : (⟨#[41]⟩ : ByteArray).size = 1 := rfl
    omega
  · omega

set_option maxHeartbeats 8000000 in
set_option maxRecDepth 100000 in
theorem rw_2 (S m : Nat) (v : Value) (w : World) (T : ByteArray) (t : Tr) (ab : Int) (hv : Ro S w v T) (hS : S ≤ w.heap.size) (ht : Tat S w t) (hA : TbA S w) (hwf : WF (m + 1) t) (hsz : T.size + (tx (m + 1) t).size + 16 * (m + 1 + 1) ≤ 140737488355328) (hbr : brB ab (t []).kind = false) (hk : (t []).kind = 2) :
    Calls Tryz.prog 43 #[v, ndV (t []), .int .i64 ab] w fun e w' => ∃ v', e = .returned v' ∧ Rq S v w (T ++ (tx (m + 1) t)) v' w' := by
  have hb0 : Below w.heap.size w (w.alloc (ndX (t []))) := (Below.refl _ w).alloc (Nat.le_refl _) _
  have hcs := ndX_cells (w := w) (t []) (Below.refl _ _)
  have hq0 := (Rq.refl hv).below hb0
  have ht0 := ht.below (hb0.mono hS)
  have hA0 := hA.below (hb0.mono hS)
  have hG : ¬ Mo v w.heap.size := fun e => by have := ((Bo.of hv hS).lo _ e).2; omega
  have hnode := ht.node
  obtain ⟨⟨hnd, _⟩, _, hkids⟩ := hwf
  have kBr := fun W => rBrackets_any ab (t []).kind W
  simp only [hbr] at kBr
  obtain ⟨W0, hW0⟩ : ∃ W0, W0 = w.alloc (ndX (t [])) := ⟨_, rfl⟩
  have HW0 : Hid (W0 = w.alloc (ndX (t []))) := hW0
  obtain ⟨G, hGG⟩ : ∃ G, G = w.heap.size := ⟨_, rfl⟩
  have HG : Hid (G = w.heap.size) := hGG
  rw [← hW0] at hb0 hcs hq0 ht0 hA0
  rw [← hGG] at hcs hG
  have HB : Hid (Bo S v W0) := Bo.of hq0.1 (Nat.le_trans hS hb0.size)
  have HQ0 : Hid (Rq S v W0 T v W0) := Rq.refl hq0.1
  have HCL : Hid (∀ w', Kp (Mo v) W0 w' → Cs w' G 0 (t [])) := fun w' k => hcs.kp k hG
  have HF : Hid (∀ X v' w', Rq S v W0 X v' w' → Rq S v w X v' w') := fun X v' w' h => h.re (Sub.refl _ _) (Kp.of hb0)
  have HTB : Hid (∀ w5, Kp (Mo v) W0 w5 → TbA w5.heap.size w5 ∧ TbI w5 ∧ TbZ w5) := fun w5 k => ⟨fun w6 b6 => hA0 w6 ((HB.out.below k).trans (b6.mono (Nat.le_trans HB.out.sz k.size))), (hA0 w5 (HB.out.below k)).1, (hA0 w5 (HB.out.below k)).2⟩
  have HSZ : Hid (T.size + (tx (m + 1) t).size + 16 * (m + 1 + 1) ≤ 140737488355328) := hsz
  have z0 := nil_size
  have z3 : (⟨#[40, 63, 58]⟩ : ByteArray).size = 3 := rfl
  have z1 : (⟨#[41]⟩ : ByteArray).size = 1 := rfl
  have z2 : (⟨#[40]⟩ : ByteArray).size = 1 := rfl
  have z4 : (⟨#[124]⟩ : ByteArray).size = 1 := rfl
  have z5 : (⟨#[63, 80, 60]⟩ : ByteArray).size = 3 := rfl
  have z6 : (⟨#[62]⟩ : ByteArray).size = 1 := rfl
  have z7 : (⟨#[63]⟩ : ByteArray).size = 1 := rfl
  have HX : Hid (tx (m + 1) t = liB (t []).r) := by
    show (if (t []).kind = 2 then _ else if (t []).kind = 3 then _ else if (t []).kind = 5 then _ else if (t []).kind = 4 then _ else if (t []).kind = 6 then _ else if (t []).kind = 7 then _ else _) = _
    rw [if_pos hk]
  have HR : Hid (0 ≤ (t []).r ∧ (t []).r ≤ 1114111) := nd_lit hnd hk
  have HKN : Hid ((t []).kn = 0) := ndB_leaf hnd (by omega)
  have y2 : ((t []).kind == 2) = true := by simpa using hk
  have y3 : ((t []).kind == 3) = false := by simp; omega
  have y7 : ((t []).kind == 7) = false := by simp; omega
  have y8 : ((t []).kind == 8) = false := by simp; omega
  have y9 : ((t []).kind == 9) = false := by simp; omega
  have y10 : ((t []).kind == 10) = false := by simp; omega
  have y11 : ((t []).kind == 11) = false := by simp; omega
  have y12 : ((t []).kind == 12) = false := by simp; omega
  have y13 : ((t []).kind == 13) = false := by simp; omega
  have y5 : ((t []).kind == 5) = false := by simp; omega
  have y6 : ((t []).kind == 6) = false := by simp; omega
  clear hk ht0 ht hkids hA hS
  have hcs0 := HCL.out W0 (Kp.refl _ _)
  generalize t [] = d at *
  obtain ⟨e0, e1, e2, e3, e4, e5, e6, e7, e8⟩ := hcs0
  simp only [Nat.zero_add] at e0 e1 e2 e3 e4 e5 e6 e7 e8
  rw [HKN.out] at e8
  clear hv hb0 hcs hq0 hA0 hG hnode hW0 hGG hnd hbr hsz
  go_enter Tryz.func43, Tryz.ntmps43
  go_upto_region 1 with fail
  rw [← HW0.out, ← HG.out]
  go_wp2_with (go_at_call 54; go_fit (kBr _); rintro e w' ⟨rfl, hw⟩; obtain rfl := hw.symm)
  have kL := rlit_any d.r HR.out.1 HR.out.2 W0 (HTB.out W0 (Kp.refl _ _)).2.2
  go_wp2_with fail
  go_fit kL
  rintro e w3 ⟨rfl, b3⟩
  have kp := (HQ0.out.below b3).put HB.out (liB d.r) (by
    have h := HSZ.out
    rw [HX.out] at h
    try simp only [ByteArray.size_append] at h ⊢
    omega)
  clear b3 kL
  go_wp2_with fail
  go_fit kp
  rintro e wp ⟨vp, rfl, hp⟩
  have Qp : Hid (Rq S v W0 ((T) ++ (liB d.r)) vp wp) := hp
  clear kp
  clear e0 e1 e2 e3 e4 e5 e6 e7 e8
  obtain ⟨e0, e1, e2, e3, e4, e5, e6, e7, e8⟩ := HCL.out _ hp.2.2
  simp only [Nat.zero_add] at e0 e1 e2 e3 e4 e5 e6 e7 e8
  rw [HKN.out] at e8
  clear hp
  go_wp2_with fail
  go_loopw [0, 8] (fun wv ivv w' => ivv = .int .i64 0 ∧ wv = vp ∧ w' = wp) (fun _ _ _ => 0)
  case atStart => exact ⟨rfl, rfl, rfl⟩
  case round =>
    obtain ⟨rfl, rfl, rfl⟩ := hrel
    go_wp2
    go_ret
    refine ⟨_, rfl, HF.out _ _ _ ?_⟩
    have h9 := Qp.out
    rw [HX.out]
    first | exact h9 | (rw [app_nil]; exact h9) | (simp only [ByteArray.append_assoc] at h9 ⊢; exact h9) | (simp only [app_nil] at h9 ⊢; exact h9) | (simp only [ByteArray.append_assoc, app_nil] at h9 ⊢; exact h9)

set_option maxHeartbeats 8000000 in
set_option maxRecDepth 100000 in
theorem rw_3 (S m : Nat) (v : Value) (w : World) (T : ByteArray) (t : Tr) (ab : Int) (hv : Ro S w v T) (hS : S ≤ w.heap.size) (ht : Tat S w t) (hA : TbA S w) (hwf : WF (m + 1) t) (hsz : T.size + (tx (m + 1) t).size + 16 * (m + 1 + 1) ≤ 140737488355328) (hbr : brB ab (t []).kind = false) (hk : (t []).kind = 3) :
    Calls Tryz.prog 43 #[v, ndV (t []), .int .i64 ab] w fun e w' => ∃ v', e = .returned v' ∧ Rq S v w (T ++ (tx (m + 1) t)) v' w' := by
  have hb0 : Below w.heap.size w (w.alloc (ndX (t []))) := (Below.refl _ w).alloc (Nat.le_refl _) _
  have hcs := ndX_cells (w := w) (t []) (Below.refl _ _)
  have hq0 := (Rq.refl hv).below hb0
  have ht0 := ht.below (hb0.mono hS)
  have hA0 := hA.below (hb0.mono hS)
  have hG : ¬ Mo v w.heap.size := fun e => by have := ((Bo.of hv hS).lo _ e).2; omega
  have hnode := ht.node
  obtain ⟨⟨hnd, _⟩, _, hkids⟩ := hwf
  have kBr := fun W => rBrackets_any ab (t []).kind W
  simp only [hbr] at kBr
  obtain ⟨W0, hW0⟩ : ∃ W0, W0 = w.alloc (ndX (t [])) := ⟨_, rfl⟩
  have HW0 : Hid (W0 = w.alloc (ndX (t []))) := hW0
  obtain ⟨G, hGG⟩ : ∃ G, G = w.heap.size := ⟨_, rfl⟩
  have HG : Hid (G = w.heap.size) := hGG
  rw [← hW0] at hb0 hcs hq0 ht0 hA0
  rw [← hGG] at hcs hG
  have HB : Hid (Bo S v W0) := Bo.of hq0.1 (Nat.le_trans hS hb0.size)
  have HQ0 : Hid (Rq S v W0 T v W0) := Rq.refl hq0.1
  have HCL : Hid (∀ w', Kp (Mo v) W0 w' → Cs w' G 0 (t [])) := fun w' k => hcs.kp k hG
  have HF : Hid (∀ X v' w', Rq S v W0 X v' w' → Rq S v w X v' w') := fun X v' w' h => h.re (Sub.refl _ _) (Kp.of hb0)
  have HTB : Hid (∀ w5, Kp (Mo v) W0 w5 → TbA w5.heap.size w5 ∧ TbI w5 ∧ TbZ w5) := fun w5 k => ⟨fun w6 b6 => hA0 w6 ((HB.out.below k).trans (b6.mono (Nat.le_trans HB.out.sz k.size))), (hA0 w5 (HB.out.below k)).1, (hA0 w5 (HB.out.below k)).2⟩
  have HSZ : Hid (T.size + (tx (m + 1) t).size + 16 * (m + 1 + 1) ≤ 140737488355328) := hsz
  have z0 := nil_size
  have z3 : (⟨#[40, 63, 58]⟩ : ByteArray).size = 3 := rfl
  have z1 : (⟨#[41]⟩ : ByteArray).size = 1 := rfl
  have z2 : (⟨#[40]⟩ : ByteArray).size = 1 := rfl
  have z4 : (⟨#[124]⟩ : ByteArray).size = 1 := rfl
  have z5 : (⟨#[63, 80, 60]⟩ : ByteArray).size = 3 := rfl
  have z6 : (⟨#[62]⟩ : ByteArray).size = 1 := rfl
  have z7 : (⟨#[63]⟩ : ByteArray).size = 1 := rfl
  have HX : Hid (tx (m + 1) t = clB (t []).rf (t []).rn) := by
    show (if (t []).kind = 2 then _ else if (t []).kind = 3 then _ else if (t []).kind = 5 then _ else if (t []).kind = 4 then _ else if (t []).kind = 6 then _ else if (t []).kind = 7 then _ else _) = _
    rw [if_neg (by omega), if_pos hk]
  have kC := rclass_any S v v W0 T (t []).ra (t []).rf (t []).rn (t []).rc W0 HB.out hA0 HQ0.out ht0.ranges (by omega) (set_up (nd_cls hnd hk)) (by rw [HX.out] at hsz; omega)
  have HKN : Hid ((t []).kn = 0) := ndB_leaf hnd (by omega)
  have y2 : ((t []).kind == 2) = false := by simp; omega
  have y3 : ((t []).kind == 3) = true := by simpa using hk
  have y7 : ((t []).kind == 7) = false := by simp; omega
  have y8 : ((t []).kind == 8) = false := by simp; omega
  have y9 : ((t []).kind == 9) = false := by simp; omega
  have y10 : ((t []).kind == 10) = false := by simp; omega
  have y11 : ((t []).kind == 11) = false := by simp; omega
  have y12 : ((t []).kind == 12) = false := by simp; omega
  have y13 : ((t []).kind == 13) = false := by simp; omega
  have y5 : ((t []).kind == 5) = false := by simp; omega
  have y6 : ((t []).kind == 6) = false := by simp; omega
  clear hk ht0 ht hkids hA hS
  have hcs0 := HCL.out W0 (Kp.refl _ _)
  generalize t [] = d at *
  obtain ⟨e0, e1, e2, e3, e4, e5, e6, e7, e8⟩ := hcs0
  simp only [Nat.zero_add] at e0 e1 e2 e3 e4 e5 e6 e7 e8
  rw [HKN.out] at e8
  clear hv hb0 hcs hq0 hA0 hG hnode hW0 hGG hnd hbr hsz
  go_enter Tryz.func43, Tryz.ntmps43
  go_upto_region 1 with fail
  rw [← HW0.out, ← HG.out]
  go_wp2_with (go_at_call 54; go_fit (kBr _); rintro e w' ⟨rfl, hw⟩; obtain rfl := hw.symm)
  go_wp2_with fail
  go_fit kC
  rintro e wp ⟨vp, rfl, hp⟩
  have Qp : Hid (Rq S v W0 (T ++ clB d.rf d.rn) vp wp) := hp
  clear kC
  clear e0 e1 e2 e3 e4 e5 e6 e7 e8
  obtain ⟨e0, e1, e2, e3, e4, e5, e6, e7, e8⟩ := HCL.out _ hp.2.2
  simp only [Nat.zero_add] at e0 e1 e2 e3 e4 e5 e6 e7 e8
  rw [HKN.out] at e8
  clear hp
  go_wp2_with fail
  go_loopw [0, 8] (fun wv ivv w' => ivv = .int .i64 0 ∧ wv = vp ∧ w' = wp) (fun _ _ _ => 0)
  case atStart => exact ⟨rfl, rfl, rfl⟩
  case round =>
    obtain ⟨rfl, rfl, rfl⟩ := hrel
    go_wp2
    go_ret
    refine ⟨_, rfl, HF.out _ _ _ ?_⟩
    have h9 := Qp.out
    rw [HX.out]
    first | exact h9 | (rw [app_nil]; exact h9) | (simp only [ByteArray.append_assoc] at h9 ⊢; exact h9) | (simp only [app_nil] at h9 ⊢; exact h9) | (simp only [ByteArray.append_assoc, app_nil] at h9 ⊢; exact h9)

set_option maxHeartbeats 8000000 in
set_option maxRecDepth 100000 in
theorem rw_m8 (S m : Nat) (v : Value) (w : World) (T : ByteArray) (t : Tr) (ab : Int) (hv : Ro S w v T) (hS : S ≤ w.heap.size) (ht : Tat S w t) (hA : TbA S w) (hwf : WF (m + 1) t) (hsz : T.size + (tx (m + 1) t).size + 16 * (m + 1 + 1) ≤ 140737488355328) (hbr : brB ab (t []).kind = false) (hk : (t []).kind = 8) :
    Calls Tryz.prog 43 #[v, ndV (t []), .int .i64 ab] w fun e w' => ∃ v', e = .returned v' ∧ Rq S v w (T ++ (tx (m + 1) t)) v' w' := by
  have hb0 : Below w.heap.size w (w.alloc (ndX (t []))) := (Below.refl _ w).alloc (Nat.le_refl _) _
  have hcs := ndX_cells (w := w) (t []) (Below.refl _ _)
  have hq0 := (Rq.refl hv).below hb0
  have ht0 := ht.below (hb0.mono hS)
  have hA0 := hA.below (hb0.mono hS)
  have hG : ¬ Mo v w.heap.size := fun e => by have := ((Bo.of hv hS).lo _ e).2; omega
  have hnode := ht.node
  obtain ⟨⟨hnd, _⟩, _, hkids⟩ := hwf
  have kBr := fun W => rBrackets_any ab (t []).kind W
  simp only [hbr] at kBr
  obtain ⟨W0, hW0⟩ : ∃ W0, W0 = w.alloc (ndX (t [])) := ⟨_, rfl⟩
  have HW0 : Hid (W0 = w.alloc (ndX (t []))) := hW0
  obtain ⟨G, hGG⟩ : ∃ G, G = w.heap.size := ⟨_, rfl⟩
  have HG : Hid (G = w.heap.size) := hGG
  rw [← hW0] at hb0 hcs hq0 ht0 hA0
  rw [← hGG] at hcs hG
  have HB : Hid (Bo S v W0) := Bo.of hq0.1 (Nat.le_trans hS hb0.size)
  have HQ0 : Hid (Rq S v W0 T v W0) := Rq.refl hq0.1
  have HCL : Hid (∀ w', Kp (Mo v) W0 w' → Cs w' G 0 (t [])) := fun w' k => hcs.kp k hG
  have HF : Hid (∀ X v' w', Rq S v W0 X v' w' → Rq S v w X v' w') := fun X v' w' h => h.re (Sub.refl _ _) (Kp.of hb0)
  have HTB : Hid (∀ w5, Kp (Mo v) W0 w5 → TbA w5.heap.size w5 ∧ TbI w5 ∧ TbZ w5) := fun w5 k => ⟨fun w6 b6 => hA0 w6 ((HB.out.below k).trans (b6.mono (Nat.le_trans HB.out.sz k.size))), (hA0 w5 (HB.out.below k)).1, (hA0 w5 (HB.out.below k)).2⟩
  have HSZ : Hid (T.size + (tx (m + 1) t).size + 16 * (m + 1 + 1) ≤ 140737488355328) := hsz
  have z0 := nil_size
  have z3 : (⟨#[40, 63, 58]⟩ : ByteArray).size = 3 := rfl
  have z1 : (⟨#[41]⟩ : ByteArray).size = 1 := rfl
  have z2 : (⟨#[40]⟩ : ByteArray).size = 1 := rfl
  have z4 : (⟨#[124]⟩ : ByteArray).size = 1 := rfl
  have z5 : (⟨#[63, 80, 60]⟩ : ByteArray).size = 3 := rfl
  have z6 : (⟨#[62]⟩ : ByteArray).size = 1 := rfl
  have z7 : (⟨#[63]⟩ : ByteArray).size = 1 := rfl
  have HX : Hid (tx (m + 1) t = ⟨#[92, 65]⟩) := by
    show (if (t []).kind = 2 then _ else if (t []).kind = 3 then _ else if (t []).kind = 5 then _ else if (t []).kind = 4 then _ else if (t []).kind = 6 then _ else if (t []).kind = 7 then _ else _) = _
    rw [if_neg (by omega), if_neg (by omega), if_neg (by omega), if_neg (by omega), if_neg (by omega), if_neg (by omega), hk]
    rfl
  have HKN : Hid ((t []).kn = 0) := ndB_leaf hnd (by omega)
  have y2 : ((t []).kind == 2) = false := by simp; omega
  have y3 : ((t []).kind == 3) = false := by simp; omega
  have y7 : ((t []).kind == 7) = false := by simp; omega
  have y8 : ((t []).kind == 8) = true := by simpa using hk
  have y9 : ((t []).kind == 9) = false := by simp; omega
  have y10 : ((t []).kind == 10) = false := by simp; omega
  have y11 : ((t []).kind == 11) = false := by simp; omega
  have y12 : ((t []).kind == 12) = false := by simp; omega
  have y13 : ((t []).kind == 13) = false := by simp; omega
  have y5 : ((t []).kind == 5) = false := by simp; omega
  have y6 : ((t []).kind == 6) = false := by simp; omega
  clear hk ht0 ht hkids hA hS
  have hcs0 := HCL.out W0 (Kp.refl _ _)
  generalize t [] = d at *
  obtain ⟨e0, e1, e2, e3, e4, e5, e6, e7, e8⟩ := hcs0
  simp only [Nat.zero_add] at e0 e1 e2 e3 e4 e5 e6 e7 e8
  rw [HKN.out] at e8
  clear hv hb0 hcs hq0 hA0 hG hnode hW0 hGG hnd hbr hsz
  go_enter Tryz.func43, Tryz.ntmps43
  go_upto_region 1 with fail
  rw [← HW0.out, ← HG.out]
  go_wp2_with (go_at_call 54; go_fit (kBr _); rintro e w' ⟨rfl, hw⟩; obtain rfl := hw.symm)
  have kp := HQ0.out.put HB.out ((⟨#[92, 65]⟩ : ByteArray)) (by
    have h := HSZ.out
    rw [HX.out] at h
    try simp only [ByteArray.size_append] at h ⊢
    omega)
  go_wp2_with fail
  go_fit kp
  rintro e wp ⟨vp, rfl, hp⟩
  have Qp : Hid (Rq S v W0 ((T) ++ ((⟨#[92, 65]⟩ : ByteArray))) vp wp) := hp
  clear kp
  clear e0 e1 e2 e3 e4 e5 e6 e7 e8
  obtain ⟨e0, e1, e2, e3, e4, e5, e6, e7, e8⟩ := HCL.out _ hp.2.2
  simp only [Nat.zero_add] at e0 e1 e2 e3 e4 e5 e6 e7 e8
  rw [HKN.out] at e8
  clear hp
  go_wp2_with fail
  go_loopw [0, 8] (fun wv ivv w' => ivv = .int .i64 0 ∧ wv = vp ∧ w' = wp) (fun _ _ _ => 0)
  case atStart => exact ⟨rfl, rfl, rfl⟩
  case round =>
    obtain ⟨rfl, rfl, rfl⟩ := hrel
    go_wp2
    go_ret
    refine ⟨_, rfl, HF.out _ _ _ ?_⟩
    have h9 := Qp.out
    rw [HX.out]
    first | exact h9 | (rw [app_nil]; exact h9) | (simp only [ByteArray.append_assoc] at h9 ⊢; exact h9) | (simp only [app_nil] at h9 ⊢; exact h9) | (simp only [ByteArray.append_assoc, app_nil] at h9 ⊢; exact h9)

set_option maxHeartbeats 8000000 in
set_option maxRecDepth 100000 in
theorem rw_m9 (S m : Nat) (v : Value) (w : World) (T : ByteArray) (t : Tr) (ab : Int) (hv : Ro S w v T) (hS : S ≤ w.heap.size) (ht : Tat S w t) (hA : TbA S w) (hwf : WF (m + 1) t) (hsz : T.size + (tx (m + 1) t).size + 16 * (m + 1 + 1) ≤ 140737488355328) (hbr : brB ab (t []).kind = false) (hk : (t []).kind = 9) :
    Calls Tryz.prog 43 #[v, ndV (t []), .int .i64 ab] w fun e w' => ∃ v', e = .returned v' ∧ Rq S v w (T ++ (tx (m + 1) t)) v' w' := by
  have hb0 : Below w.heap.size w (w.alloc (ndX (t []))) := (Below.refl _ w).alloc (Nat.le_refl _) _
  have hcs := ndX_cells (w := w) (t []) (Below.refl _ _)
  have hq0 := (Rq.refl hv).below hb0
  have ht0 := ht.below (hb0.mono hS)
  have hA0 := hA.below (hb0.mono hS)
  have hG : ¬ Mo v w.heap.size := fun e => by have := ((Bo.of hv hS).lo _ e).2; omega
  have hnode := ht.node
  obtain ⟨⟨hnd, _⟩, _, hkids⟩ := hwf
  have kBr := fun W => rBrackets_any ab (t []).kind W
  simp only [hbr] at kBr
  obtain ⟨W0, hW0⟩ : ∃ W0, W0 = w.alloc (ndX (t [])) := ⟨_, rfl⟩
  have HW0 : Hid (W0 = w.alloc (ndX (t []))) := hW0
  obtain ⟨G, hGG⟩ : ∃ G, G = w.heap.size := ⟨_, rfl⟩
  have HG : Hid (G = w.heap.size) := hGG
  rw [← hW0] at hb0 hcs hq0 ht0 hA0
  rw [← hGG] at hcs hG
  have HB : Hid (Bo S v W0) := Bo.of hq0.1 (Nat.le_trans hS hb0.size)
  have HQ0 : Hid (Rq S v W0 T v W0) := Rq.refl hq0.1
  have HCL : Hid (∀ w', Kp (Mo v) W0 w' → Cs w' G 0 (t [])) := fun w' k => hcs.kp k hG
  have HF : Hid (∀ X v' w', Rq S v W0 X v' w' → Rq S v w X v' w') := fun X v' w' h => h.re (Sub.refl _ _) (Kp.of hb0)
  have HTB : Hid (∀ w5, Kp (Mo v) W0 w5 → TbA w5.heap.size w5 ∧ TbI w5 ∧ TbZ w5) := fun w5 k => ⟨fun w6 b6 => hA0 w6 ((HB.out.below k).trans (b6.mono (Nat.le_trans HB.out.sz k.size))), (hA0 w5 (HB.out.below k)).1, (hA0 w5 (HB.out.below k)).2⟩
  have HSZ : Hid (T.size + (tx (m + 1) t).size + 16 * (m + 1 + 1) ≤ 140737488355328) := hsz
  have z0 := nil_size
  have z3 : (⟨#[40, 63, 58]⟩ : ByteArray).size = 3 := rfl
  have z1 : (⟨#[41]⟩ : ByteArray).size = 1 := rfl
  have z2 : (⟨#[40]⟩ : ByteArray).size = 1 := rfl
  have z4 : (⟨#[124]⟩ : ByteArray).size = 1 := rfl
  have z5 : (⟨#[63, 80, 60]⟩ : ByteArray).size = 3 := rfl
  have z6 : (⟨#[62]⟩ : ByteArray).size = 1 := rfl
  have z7 : (⟨#[63]⟩ : ByteArray).size = 1 := rfl
  have HX : Hid (tx (m + 1) t = ⟨#[92, 122]⟩) := by
    show (if (t []).kind = 2 then _ else if (t []).kind = 3 then _ else if (t []).kind = 5 then _ else if (t []).kind = 4 then _ else if (t []).kind = 6 then _ else if (t []).kind = 7 then _ else _) = _
    rw [if_neg (by omega), if_neg (by omega), if_neg (by omega), if_neg (by omega), if_neg (by omega), if_neg (by omega), hk]
    rfl
  have HKN : Hid ((t []).kn = 0) := ndB_leaf hnd (by omega)
  have y2 : ((t []).kind == 2) = false := by simp; omega
  have y3 : ((t []).kind == 3) = false := by simp; omega
  have y7 : ((t []).kind == 7) = false := by simp; omega
  have y8 : ((t []).kind == 8) = false := by simp; omega
  have y9 : ((t []).kind == 9) = true := by simpa using hk
  have y10 : ((t []).kind == 10) = false := by simp; omega
  have y11 : ((t []).kind == 11) = false := by simp; omega
  have y12 : ((t []).kind == 12) = false := by simp; omega
  have y13 : ((t []).kind == 13) = false := by simp; omega
  have y5 : ((t []).kind == 5) = false := by simp; omega
  have y6 : ((t []).kind == 6) = false := by simp; omega
  clear hk ht0 ht hkids hA hS
  have hcs0 := HCL.out W0 (Kp.refl _ _)
  generalize t [] = d at *
  obtain ⟨e0, e1, e2, e3, e4, e5, e6, e7, e8⟩ := hcs0
  simp only [Nat.zero_add] at e0 e1 e2 e3 e4 e5 e6 e7 e8
  rw [HKN.out] at e8
  clear hv hb0 hcs hq0 hA0 hG hnode hW0 hGG hnd hbr hsz
  go_enter Tryz.func43, Tryz.ntmps43
  go_upto_region 1 with fail
  rw [← HW0.out, ← HG.out]
  go_wp2_with (go_at_call 54; go_fit (kBr _); rintro e w' ⟨rfl, hw⟩; obtain rfl := hw.symm)
  have kp := HQ0.out.put HB.out ((⟨#[92, 122]⟩ : ByteArray)) (by
    have h := HSZ.out
    rw [HX.out] at h
    try simp only [ByteArray.size_append] at h ⊢
    omega)
  go_wp2_with fail
  go_fit kp
  rintro e wp ⟨vp, rfl, hp⟩
  have Qp : Hid (Rq S v W0 ((T) ++ ((⟨#[92, 122]⟩ : ByteArray))) vp wp) := hp
  clear kp
  clear e0 e1 e2 e3 e4 e5 e6 e7 e8
  obtain ⟨e0, e1, e2, e3, e4, e5, e6, e7, e8⟩ := HCL.out _ hp.2.2
  simp only [Nat.zero_add] at e0 e1 e2 e3 e4 e5 e6 e7 e8
  rw [HKN.out] at e8
  clear hp
  go_wp2_with fail
  go_loopw [0, 8] (fun wv ivv w' => ivv = .int .i64 0 ∧ wv = vp ∧ w' = wp) (fun _ _ _ => 0)
  case atStart => exact ⟨rfl, rfl, rfl⟩
  case round =>
    obtain ⟨rfl, rfl, rfl⟩ := hrel
    go_wp2
    go_ret
    refine ⟨_, rfl, HF.out _ _ _ ?_⟩
    have h9 := Qp.out
    rw [HX.out]
    first | exact h9 | (rw [app_nil]; exact h9) | (simp only [ByteArray.append_assoc] at h9 ⊢; exact h9) | (simp only [app_nil] at h9 ⊢; exact h9) | (simp only [ByteArray.append_assoc, app_nil] at h9 ⊢; exact h9)

set_option maxHeartbeats 8000000 in
set_option maxRecDepth 100000 in
theorem rw_m10 (S m : Nat) (v : Value) (w : World) (T : ByteArray) (t : Tr) (ab : Int) (hv : Ro S w v T) (hS : S ≤ w.heap.size) (ht : Tat S w t) (hA : TbA S w) (hwf : WF (m + 1) t) (hsz : T.size + (tx (m + 1) t).size + 16 * (m + 1 + 1) ≤ 140737488355328) (hbr : brB ab (t []).kind = false) (hk : (t []).kind = 10) :
    Calls Tryz.prog 43 #[v, ndV (t []), .int .i64 ab] w fun e w' => ∃ v', e = .returned v' ∧ Rq S v w (T ++ (tx (m + 1) t)) v' w' := by
  have hb0 : Below w.heap.size w (w.alloc (ndX (t []))) := (Below.refl _ w).alloc (Nat.le_refl _) _
  have hcs := ndX_cells (w := w) (t []) (Below.refl _ _)
  have hq0 := (Rq.refl hv).below hb0
  have ht0 := ht.below (hb0.mono hS)
  have hA0 := hA.below (hb0.mono hS)
  have hG : ¬ Mo v w.heap.size := fun e => by have := ((Bo.of hv hS).lo _ e).2; omega
  have hnode := ht.node
  obtain ⟨⟨hnd, _⟩, _, hkids⟩ := hwf
  have kBr := fun W => rBrackets_any ab (t []).kind W
  simp only [hbr] at kBr
  obtain ⟨W0, hW0⟩ : ∃ W0, W0 = w.alloc (ndX (t [])) := ⟨_, rfl⟩
  have HW0 : Hid (W0 = w.alloc (ndX (t []))) := hW0
  obtain ⟨G, hGG⟩ : ∃ G, G = w.heap.size := ⟨_, rfl⟩
  have HG : Hid (G = w.heap.size) := hGG
  rw [← hW0] at hb0 hcs hq0 ht0 hA0
  rw [← hGG] at hcs hG
  have HB : Hid (Bo S v W0) := Bo.of hq0.1 (Nat.le_trans hS hb0.size)
  have HQ0 : Hid (Rq S v W0 T v W0) := Rq.refl hq0.1
  have HCL : Hid (∀ w', Kp (Mo v) W0 w' → Cs w' G 0 (t [])) := fun w' k => hcs.kp k hG
  have HF : Hid (∀ X v' w', Rq S v W0 X v' w' → Rq S v w X v' w') := fun X v' w' h => h.re (Sub.refl _ _) (Kp.of hb0)
  have HTB : Hid (∀ w5, Kp (Mo v) W0 w5 → TbA w5.heap.size w5 ∧ TbI w5 ∧ TbZ w5) := fun w5 k => ⟨fun w6 b6 => hA0 w6 ((HB.out.below k).trans (b6.mono (Nat.le_trans HB.out.sz k.size))), (hA0 w5 (HB.out.below k)).1, (hA0 w5 (HB.out.below k)).2⟩
  have HSZ : Hid (T.size + (tx (m + 1) t).size + 16 * (m + 1 + 1) ≤ 140737488355328) := hsz
  have z0 := nil_size
  have z3 : (⟨#[40, 63, 58]⟩ : ByteArray).size = 3 := rfl
  have z1 : (⟨#[41]⟩ : ByteArray).size = 1 := rfl
  have z2 : (⟨#[40]⟩ : ByteArray).size = 1 := rfl
  have z4 : (⟨#[124]⟩ : ByteArray).size = 1 := rfl
  have z5 : (⟨#[63, 80, 60]⟩ : ByteArray).size = 3 := rfl
  have z6 : (⟨#[62]⟩ : ByteArray).size = 1 := rfl
  have z7 : (⟨#[63]⟩ : ByteArray).size = 1 := rfl
  have HX : Hid (tx (m + 1) t = ⟨#[94]⟩) := by
    show (if (t []).kind = 2 then _ else if (t []).kind = 3 then _ else if (t []).kind = 5 then _ else if (t []).kind = 4 then _ else if (t []).kind = 6 then _ else if (t []).kind = 7 then _ else _) = _
    rw [if_neg (by omega), if_neg (by omega), if_neg (by omega), if_neg (by omega), if_neg (by omega), if_neg (by omega), hk]
    rfl
  have HKN : Hid ((t []).kn = 0) := ndB_leaf hnd (by omega)
  have y2 : ((t []).kind == 2) = false := by simp; omega
  have y3 : ((t []).kind == 3) = false := by simp; omega
  have y7 : ((t []).kind == 7) = false := by simp; omega
  have y8 : ((t []).kind == 8) = false := by simp; omega
  have y9 : ((t []).kind == 9) = false := by simp; omega
  have y10 : ((t []).kind == 10) = true := by simpa using hk
  have y11 : ((t []).kind == 11) = false := by simp; omega
  have y12 : ((t []).kind == 12) = false := by simp; omega
  have y13 : ((t []).kind == 13) = false := by simp; omega
  have y5 : ((t []).kind == 5) = false := by simp; omega
  have y6 : ((t []).kind == 6) = false := by simp; omega
  clear hk ht0 ht hkids hA hS
  have hcs0 := HCL.out W0 (Kp.refl _ _)
  generalize t [] = d at *
  obtain ⟨e0, e1, e2, e3, e4, e5, e6, e7, e8⟩ := hcs0
  simp only [Nat.zero_add] at e0 e1 e2 e3 e4 e5 e6 e7 e8
  rw [HKN.out] at e8
  clear hv hb0 hcs hq0 hA0 hG hnode hW0 hGG hnd hbr hsz
  go_enter Tryz.func43, Tryz.ntmps43
  go_upto_region 1 with fail
  rw [← HW0.out, ← HG.out]
  go_wp2_with (go_at_call 54; go_fit (kBr _); rintro e w' ⟨rfl, hw⟩; obtain rfl := hw.symm)
  have kp := HQ0.out.put HB.out ((⟨#[94]⟩ : ByteArray)) (by
    have h := HSZ.out
    rw [HX.out] at h
    try simp only [ByteArray.size_append] at h ⊢
    omega)
  go_wp2_with fail
  go_fit kp
  rintro e wp ⟨vp, rfl, hp⟩
  have Qp : Hid (Rq S v W0 ((T) ++ ((⟨#[94]⟩ : ByteArray))) vp wp) := hp
  clear kp
  clear e0 e1 e2 e3 e4 e5 e6 e7 e8
  obtain ⟨e0, e1, e2, e3, e4, e5, e6, e7, e8⟩ := HCL.out _ hp.2.2
  simp only [Nat.zero_add] at e0 e1 e2 e3 e4 e5 e6 e7 e8
  rw [HKN.out] at e8
  clear hp
  go_wp2_with fail
  go_loopw [0, 8] (fun wv ivv w' => ivv = .int .i64 0 ∧ wv = vp ∧ w' = wp) (fun _ _ _ => 0)
  case atStart => exact ⟨rfl, rfl, rfl⟩
  case round =>
    obtain ⟨rfl, rfl, rfl⟩ := hrel
    go_wp2
    go_ret
    refine ⟨_, rfl, HF.out _ _ _ ?_⟩
    have h9 := Qp.out
    rw [HX.out]
    first | exact h9 | (rw [app_nil]; exact h9) | (simp only [ByteArray.append_assoc] at h9 ⊢; exact h9) | (simp only [app_nil] at h9 ⊢; exact h9) | (simp only [ByteArray.append_assoc, app_nil] at h9 ⊢; exact h9)

set_option maxHeartbeats 8000000 in
set_option maxRecDepth 100000 in
theorem rw_m11 (S m : Nat) (v : Value) (w : World) (T : ByteArray) (t : Tr) (ab : Int) (hv : Ro S w v T) (hS : S ≤ w.heap.size) (ht : Tat S w t) (hA : TbA S w) (hwf : WF (m + 1) t) (hsz : T.size + (tx (m + 1) t).size + 16 * (m + 1 + 1) ≤ 140737488355328) (hbr : brB ab (t []).kind = false) (hk : (t []).kind = 11) :
    Calls Tryz.prog 43 #[v, ndV (t []), .int .i64 ab] w fun e w' => ∃ v', e = .returned v' ∧ Rq S v w (T ++ (tx (m + 1) t)) v' w' := by
  have hb0 : Below w.heap.size w (w.alloc (ndX (t []))) := (Below.refl _ w).alloc (Nat.le_refl _) _
  have hcs := ndX_cells (w := w) (t []) (Below.refl _ _)
  have hq0 := (Rq.refl hv).below hb0
  have ht0 := ht.below (hb0.mono hS)
  have hA0 := hA.below (hb0.mono hS)
  have hG : ¬ Mo v w.heap.size := fun e => by have := ((Bo.of hv hS).lo _ e).2; omega
  have hnode := ht.node
  obtain ⟨⟨hnd, _⟩, _, hkids⟩ := hwf
  have kBr := fun W => rBrackets_any ab (t []).kind W
  simp only [hbr] at kBr
  obtain ⟨W0, hW0⟩ : ∃ W0, W0 = w.alloc (ndX (t [])) := ⟨_, rfl⟩
  have HW0 : Hid (W0 = w.alloc (ndX (t []))) := hW0
  obtain ⟨G, hGG⟩ : ∃ G, G = w.heap.size := ⟨_, rfl⟩
  have HG : Hid (G = w.heap.size) := hGG
  rw [← hW0] at hb0 hcs hq0 ht0 hA0
  rw [← hGG] at hcs hG
  have HB : Hid (Bo S v W0) := Bo.of hq0.1 (Nat.le_trans hS hb0.size)
  have HQ0 : Hid (Rq S v W0 T v W0) := Rq.refl hq0.1
  have HCL : Hid (∀ w', Kp (Mo v) W0 w' → Cs w' G 0 (t [])) := fun w' k => hcs.kp k hG
  have HF : Hid (∀ X v' w', Rq S v W0 X v' w' → Rq S v w X v' w') := fun X v' w' h => h.re (Sub.refl _ _) (Kp.of hb0)
  have HTB : Hid (∀ w5, Kp (Mo v) W0 w5 → TbA w5.heap.size w5 ∧ TbI w5 ∧ TbZ w5) := fun w5 k => ⟨fun w6 b6 => hA0 w6 ((HB.out.below k).trans (b6.mono (Nat.le_trans HB.out.sz k.size))), (hA0 w5 (HB.out.below k)).1, (hA0 w5 (HB.out.below k)).2⟩
  have HSZ : Hid (T.size + (tx (m + 1) t).size + 16 * (m + 1 + 1) ≤ 140737488355328) := hsz
  have z0 := nil_size
  have z3 : (⟨#[40, 63, 58]⟩ : ByteArray).size = 3 := rfl
  have z1 : (⟨#[41]⟩ : ByteArray).size = 1 := rfl
  have z2 : (⟨#[40]⟩ : ByteArray).size = 1 := rfl
  have z4 : (⟨#[124]⟩ : ByteArray).size = 1 := rfl
  have z5 : (⟨#[63, 80, 60]⟩ : ByteArray).size = 3 := rfl
  have z6 : (⟨#[62]⟩ : ByteArray).size = 1 := rfl
  have z7 : (⟨#[63]⟩ : ByteArray).size = 1 := rfl
  have HX : Hid (tx (m + 1) t = ⟨#[36]⟩) := by
    show (if (t []).kind = 2 then _ else if (t []).kind = 3 then _ else if (t []).kind = 5 then _ else if (t []).kind = 4 then _ else if (t []).kind = 6 then _ else if (t []).kind = 7 then _ else _) = _
    rw [if_neg (by omega), if_neg (by omega), if_neg (by omega), if_neg (by omega), if_neg (by omega), if_neg (by omega), hk]
    rfl
  have HKN : Hid ((t []).kn = 0) := ndB_leaf hnd (by omega)
  have y2 : ((t []).kind == 2) = false := by simp; omega
  have y3 : ((t []).kind == 3) = false := by simp; omega
  have y7 : ((t []).kind == 7) = false := by simp; omega
  have y8 : ((t []).kind == 8) = false := by simp; omega
  have y9 : ((t []).kind == 9) = false := by simp; omega
  have y10 : ((t []).kind == 10) = false := by simp; omega
  have y11 : ((t []).kind == 11) = true := by simpa using hk
  have y12 : ((t []).kind == 12) = false := by simp; omega
  have y13 : ((t []).kind == 13) = false := by simp; omega
  have y5 : ((t []).kind == 5) = false := by simp; omega
  have y6 : ((t []).kind == 6) = false := by simp; omega
  clear hk ht0 ht hkids hA hS
  have hcs0 := HCL.out W0 (Kp.refl _ _)
  generalize t [] = d at *
  obtain ⟨e0, e1, e2, e3, e4, e5, e6, e7, e8⟩ := hcs0
  simp only [Nat.zero_add] at e0 e1 e2 e3 e4 e5 e6 e7 e8
  rw [HKN.out] at e8
  clear hv hb0 hcs hq0 hA0 hG hnode hW0 hGG hnd hbr hsz
  go_enter Tryz.func43, Tryz.ntmps43
  go_upto_region 1 with fail
  rw [← HW0.out, ← HG.out]
  go_wp2_with (go_at_call 54; go_fit (kBr _); rintro e w' ⟨rfl, hw⟩; obtain rfl := hw.symm)
  have kp := HQ0.out.put HB.out ((⟨#[36]⟩ : ByteArray)) (by
    have h := HSZ.out
    rw [HX.out] at h
    try simp only [ByteArray.size_append] at h ⊢
    omega)
  go_wp2_with fail
  go_fit kp
  rintro e wp ⟨vp, rfl, hp⟩
  have Qp : Hid (Rq S v W0 ((T) ++ ((⟨#[36]⟩ : ByteArray))) vp wp) := hp
  clear kp
  clear e0 e1 e2 e3 e4 e5 e6 e7 e8
  obtain ⟨e0, e1, e2, e3, e4, e5, e6, e7, e8⟩ := HCL.out _ hp.2.2
  simp only [Nat.zero_add] at e0 e1 e2 e3 e4 e5 e6 e7 e8
  rw [HKN.out] at e8
  clear hp
  go_wp2_with fail
  go_loopw [0, 8] (fun wv ivv w' => ivv = .int .i64 0 ∧ wv = vp ∧ w' = wp) (fun _ _ _ => 0)
  case atStart => exact ⟨rfl, rfl, rfl⟩
  case round =>
    obtain ⟨rfl, rfl, rfl⟩ := hrel
    go_wp2
    go_ret
    refine ⟨_, rfl, HF.out _ _ _ ?_⟩
    have h9 := Qp.out
    rw [HX.out]
    first | exact h9 | (rw [app_nil]; exact h9) | (simp only [ByteArray.append_assoc] at h9 ⊢; exact h9) | (simp only [app_nil] at h9 ⊢; exact h9) | (simp only [ByteArray.append_assoc, app_nil] at h9 ⊢; exact h9)

set_option maxHeartbeats 8000000 in
set_option maxRecDepth 100000 in
theorem rw_m12 (S m : Nat) (v : Value) (w : World) (T : ByteArray) (t : Tr) (ab : Int) (hv : Ro S w v T) (hS : S ≤ w.heap.size) (ht : Tat S w t) (hA : TbA S w) (hwf : WF (m + 1) t) (hsz : T.size + (tx (m + 1) t).size + 16 * (m + 1 + 1) ≤ 140737488355328) (hbr : brB ab (t []).kind = false) (hk : (t []).kind = 12) :
    Calls Tryz.prog 43 #[v, ndV (t []), .int .i64 ab] w fun e w' => ∃ v', e = .returned v' ∧ Rq S v w (T ++ (tx (m + 1) t)) v' w' := by
  have hb0 : Below w.heap.size w (w.alloc (ndX (t []))) := (Below.refl _ w).alloc (Nat.le_refl _) _
  have hcs := ndX_cells (w := w) (t []) (Below.refl _ _)
  have hq0 := (Rq.refl hv).below hb0
  have ht0 := ht.below (hb0.mono hS)
  have hA0 := hA.below (hb0.mono hS)
  have hG : ¬ Mo v w.heap.size := fun e => by have := ((Bo.of hv hS).lo _ e).2; omega
  have hnode := ht.node
  obtain ⟨⟨hnd, _⟩, _, hkids⟩ := hwf
  have kBr := fun W => rBrackets_any ab (t []).kind W
  simp only [hbr] at kBr
  obtain ⟨W0, hW0⟩ : ∃ W0, W0 = w.alloc (ndX (t [])) := ⟨_, rfl⟩
  have HW0 : Hid (W0 = w.alloc (ndX (t []))) := hW0
  obtain ⟨G, hGG⟩ : ∃ G, G = w.heap.size := ⟨_, rfl⟩
  have HG : Hid (G = w.heap.size) := hGG
  rw [← hW0] at hb0 hcs hq0 ht0 hA0
  rw [← hGG] at hcs hG
  have HB : Hid (Bo S v W0) := Bo.of hq0.1 (Nat.le_trans hS hb0.size)
  have HQ0 : Hid (Rq S v W0 T v W0) := Rq.refl hq0.1
  have HCL : Hid (∀ w', Kp (Mo v) W0 w' → Cs w' G 0 (t [])) := fun w' k => hcs.kp k hG
  have HF : Hid (∀ X v' w', Rq S v W0 X v' w' → Rq S v w X v' w') := fun X v' w' h => h.re (Sub.refl _ _) (Kp.of hb0)
  have HTB : Hid (∀ w5, Kp (Mo v) W0 w5 → TbA w5.heap.size w5 ∧ TbI w5 ∧ TbZ w5) := fun w5 k => ⟨fun w6 b6 => hA0 w6 ((HB.out.below k).trans (b6.mono (Nat.le_trans HB.out.sz k.size))), (hA0 w5 (HB.out.below k)).1, (hA0 w5 (HB.out.below k)).2⟩
  have HSZ : Hid (T.size + (tx (m + 1) t).size + 16 * (m + 1 + 1) ≤ 140737488355328) := hsz
  have z0 := nil_size
  have z3 : (⟨#[40, 63, 58]⟩ : ByteArray).size = 3 := rfl
  have z1 : (⟨#[41]⟩ : ByteArray).size = 1 := rfl
  have z2 : (⟨#[40]⟩ : ByteArray).size = 1 := rfl
  have z4 : (⟨#[124]⟩ : ByteArray).size = 1 := rfl
  have z5 : (⟨#[63, 80, 60]⟩ : ByteArray).size = 3 := rfl
  have z6 : (⟨#[62]⟩ : ByteArray).size = 1 := rfl
  have z7 : (⟨#[63]⟩ : ByteArray).size = 1 := rfl
  have HX : Hid (tx (m + 1) t = ⟨#[92, 98]⟩) := by
    show (if (t []).kind = 2 then _ else if (t []).kind = 3 then _ else if (t []).kind = 5 then _ else if (t []).kind = 4 then _ else if (t []).kind = 6 then _ else if (t []).kind = 7 then _ else _) = _
    rw [if_neg (by omega), if_neg (by omega), if_neg (by omega), if_neg (by omega), if_neg (by omega), if_neg (by omega), hk]
    rfl
  have HKN : Hid ((t []).kn = 0) := ndB_leaf hnd (by omega)
  have y2 : ((t []).kind == 2) = false := by simp; omega
  have y3 : ((t []).kind == 3) = false := by simp; omega
  have y7 : ((t []).kind == 7) = false := by simp; omega
  have y8 : ((t []).kind == 8) = false := by simp; omega
  have y9 : ((t []).kind == 9) = false := by simp; omega
  have y10 : ((t []).kind == 10) = false := by simp; omega
  have y11 : ((t []).kind == 11) = false := by simp; omega
  have y12 : ((t []).kind == 12) = true := by simpa using hk
  have y13 : ((t []).kind == 13) = false := by simp; omega
  have y5 : ((t []).kind == 5) = false := by simp; omega
  have y6 : ((t []).kind == 6) = false := by simp; omega
  clear hk ht0 ht hkids hA hS
  have hcs0 := HCL.out W0 (Kp.refl _ _)
  generalize t [] = d at *
  obtain ⟨e0, e1, e2, e3, e4, e5, e6, e7, e8⟩ := hcs0
  simp only [Nat.zero_add] at e0 e1 e2 e3 e4 e5 e6 e7 e8
  rw [HKN.out] at e8
  clear hv hb0 hcs hq0 hA0 hG hnode hW0 hGG hnd hbr hsz
  go_enter Tryz.func43, Tryz.ntmps43
  go_upto_region 1 with fail
  rw [← HW0.out, ← HG.out]
  go_wp2_with (go_at_call 54; go_fit (kBr _); rintro e w' ⟨rfl, hw⟩; obtain rfl := hw.symm)
  have kp := HQ0.out.put HB.out ((⟨#[92, 98]⟩ : ByteArray)) (by
    have h := HSZ.out
    rw [HX.out] at h
    try simp only [ByteArray.size_append] at h ⊢
    omega)
  go_wp2_with fail
  go_fit kp
  rintro e wp ⟨vp, rfl, hp⟩
  have Qp : Hid (Rq S v W0 ((T) ++ ((⟨#[92, 98]⟩ : ByteArray))) vp wp) := hp
  clear kp
  clear e0 e1 e2 e3 e4 e5 e6 e7 e8
  obtain ⟨e0, e1, e2, e3, e4, e5, e6, e7, e8⟩ := HCL.out _ hp.2.2
  simp only [Nat.zero_add] at e0 e1 e2 e3 e4 e5 e6 e7 e8
  rw [HKN.out] at e8
  clear hp
  go_wp2_with fail
  go_loopw [0, 8] (fun wv ivv w' => ivv = .int .i64 0 ∧ wv = vp ∧ w' = wp) (fun _ _ _ => 0)
  case atStart => exact ⟨rfl, rfl, rfl⟩
  case round =>
    obtain ⟨rfl, rfl, rfl⟩ := hrel
    go_wp2
    go_ret
    refine ⟨_, rfl, HF.out _ _ _ ?_⟩
    have h9 := Qp.out
    rw [HX.out]
    first | exact h9 | (rw [app_nil]; exact h9) | (simp only [ByteArray.append_assoc] at h9 ⊢; exact h9) | (simp only [app_nil] at h9 ⊢; exact h9) | (simp only [ByteArray.append_assoc, app_nil] at h9 ⊢; exact h9)

set_option maxHeartbeats 8000000 in
set_option maxRecDepth 100000 in
theorem rw_m13 (S m : Nat) (v : Value) (w : World) (T : ByteArray) (t : Tr) (ab : Int) (hv : Ro S w v T) (hS : S ≤ w.heap.size) (ht : Tat S w t) (hA : TbA S w) (hwf : WF (m + 1) t) (hsz : T.size + (tx (m + 1) t).size + 16 * (m + 1 + 1) ≤ 140737488355328) (hbr : brB ab (t []).kind = false) (hk : (t []).kind = 13) :
    Calls Tryz.prog 43 #[v, ndV (t []), .int .i64 ab] w fun e w' => ∃ v', e = .returned v' ∧ Rq S v w (T ++ (tx (m + 1) t)) v' w' := by
  have hb0 : Below w.heap.size w (w.alloc (ndX (t []))) := (Below.refl _ w).alloc (Nat.le_refl _) _
  have hcs := ndX_cells (w := w) (t []) (Below.refl _ _)
  have hq0 := (Rq.refl hv).below hb0
  have ht0 := ht.below (hb0.mono hS)
  have hA0 := hA.below (hb0.mono hS)
  have hG : ¬ Mo v w.heap.size := fun e => by have := ((Bo.of hv hS).lo _ e).2; omega
  have hnode := ht.node
  obtain ⟨⟨hnd, _⟩, _, hkids⟩ := hwf
  have kBr := fun W => rBrackets_any ab (t []).kind W
  simp only [hbr] at kBr
  obtain ⟨W0, hW0⟩ : ∃ W0, W0 = w.alloc (ndX (t [])) := ⟨_, rfl⟩
  have HW0 : Hid (W0 = w.alloc (ndX (t []))) := hW0
  obtain ⟨G, hGG⟩ : ∃ G, G = w.heap.size := ⟨_, rfl⟩
  have HG : Hid (G = w.heap.size) := hGG
  rw [← hW0] at hb0 hcs hq0 ht0 hA0
  rw [← hGG] at hcs hG
  have HB : Hid (Bo S v W0) := Bo.of hq0.1 (Nat.le_trans hS hb0.size)
  have HQ0 : Hid (Rq S v W0 T v W0) := Rq.refl hq0.1
  have HCL : Hid (∀ w', Kp (Mo v) W0 w' → Cs w' G 0 (t [])) := fun w' k => hcs.kp k hG
  have HF : Hid (∀ X v' w', Rq S v W0 X v' w' → Rq S v w X v' w') := fun X v' w' h => h.re (Sub.refl _ _) (Kp.of hb0)
  have HTB : Hid (∀ w5, Kp (Mo v) W0 w5 → TbA w5.heap.size w5 ∧ TbI w5 ∧ TbZ w5) := fun w5 k => ⟨fun w6 b6 => hA0 w6 ((HB.out.below k).trans (b6.mono (Nat.le_trans HB.out.sz k.size))), (hA0 w5 (HB.out.below k)).1, (hA0 w5 (HB.out.below k)).2⟩
  have HSZ : Hid (T.size + (tx (m + 1) t).size + 16 * (m + 1 + 1) ≤ 140737488355328) := hsz
  have z0 := nil_size
  have z3 : (⟨#[40, 63, 58]⟩ : ByteArray).size = 3 := rfl
  have z1 : (⟨#[41]⟩ : ByteArray).size = 1 := rfl
  have z2 : (⟨#[40]⟩ : ByteArray).size = 1 := rfl
  have z4 : (⟨#[124]⟩ : ByteArray).size = 1 := rfl
  have z5 : (⟨#[63, 80, 60]⟩ : ByteArray).size = 3 := rfl
  have z6 : (⟨#[62]⟩ : ByteArray).size = 1 := rfl
  have z7 : (⟨#[63]⟩ : ByteArray).size = 1 := rfl
  have HX : Hid (tx (m + 1) t = ⟨#[92, 66]⟩) := by
    show (if (t []).kind = 2 then _ else if (t []).kind = 3 then _ else if (t []).kind = 5 then _ else if (t []).kind = 4 then _ else if (t []).kind = 6 then _ else if (t []).kind = 7 then _ else _) = _
    rw [if_neg (by omega), if_neg (by omega), if_neg (by omega), if_neg (by omega), if_neg (by omega), if_neg (by omega), hk]
    rfl
  have HKN : Hid ((t []).kn = 0) := ndB_leaf hnd (by omega)
  have y2 : ((t []).kind == 2) = false := by simp; omega
  have y3 : ((t []).kind == 3) = false := by simp; omega
  have y7 : ((t []).kind == 7) = false := by simp; omega
  have y8 : ((t []).kind == 8) = false := by simp; omega
  have y9 : ((t []).kind == 9) = false := by simp; omega
  have y10 : ((t []).kind == 10) = false := by simp; omega
  have y11 : ((t []).kind == 11) = false := by simp; omega
  have y12 : ((t []).kind == 12) = false := by simp; omega
  have y13 : ((t []).kind == 13) = true := by simpa using hk
  have y5 : ((t []).kind == 5) = false := by simp; omega
  have y6 : ((t []).kind == 6) = false := by simp; omega
  clear hk ht0 ht hkids hA hS
  have hcs0 := HCL.out W0 (Kp.refl _ _)
  generalize t [] = d at *
  obtain ⟨e0, e1, e2, e3, e4, e5, e6, e7, e8⟩ := hcs0
  simp only [Nat.zero_add] at e0 e1 e2 e3 e4 e5 e6 e7 e8
  rw [HKN.out] at e8
  clear hv hb0 hcs hq0 hA0 hG hnode hW0 hGG hnd hbr hsz
  go_enter Tryz.func43, Tryz.ntmps43
  go_upto_region 1 with fail
  rw [← HW0.out, ← HG.out]
  go_wp2_with (go_at_call 54; go_fit (kBr _); rintro e w' ⟨rfl, hw⟩; obtain rfl := hw.symm)
  have kp := HQ0.out.put HB.out ((⟨#[92, 66]⟩ : ByteArray)) (by
    have h := HSZ.out
    rw [HX.out] at h
    try simp only [ByteArray.size_append] at h ⊢
    omega)
  go_wp2_with fail
  go_fit kp
  rintro e wp ⟨vp, rfl, hp⟩
  have Qp : Hid (Rq S v W0 ((T) ++ ((⟨#[92, 66]⟩ : ByteArray))) vp wp) := hp
  clear kp
  clear e0 e1 e2 e3 e4 e5 e6 e7 e8
  obtain ⟨e0, e1, e2, e3, e4, e5, e6, e7, e8⟩ := HCL.out _ hp.2.2
  simp only [Nat.zero_add] at e0 e1 e2 e3 e4 e5 e6 e7 e8
  rw [HKN.out] at e8
  clear hp
  go_wp2_with fail
  go_loopw [0, 8] (fun wv ivv w' => ivv = .int .i64 0 ∧ wv = vp ∧ w' = wp) (fun _ _ _ => 0)
  case atStart => exact ⟨rfl, rfl, rfl⟩
  case round =>
    obtain ⟨rfl, rfl, rfl⟩ := hrel
    go_wp2
    go_ret
    refine ⟨_, rfl, HF.out _ _ _ ?_⟩
    have h9 := Qp.out
    rw [HX.out]
    first | exact h9 | (rw [app_nil]; exact h9) | (simp only [ByteArray.append_assoc] at h9 ⊢; exact h9) | (simp only [app_nil] at h9 ⊢; exact h9) | (simp only [ByteArray.append_assoc, app_nil] at h9 ⊢; exact h9)

set_option maxHeartbeats 8000000 in
set_option maxRecDepth 100000 in
theorem rw_en (S m : Nat) (v : Value) (w : World) (T : ByteArray) (t : Tr) (ab : Int) (hv : Ro S w v T) (hS : S ≤ w.heap.size) (ht : Tat S w t) (hA : TbA S w) (hwf : WF (m + 1) t) (hsz : T.size + (tx (m + 1) t).size + 16 * (m + 1 + 1) ≤ 140737488355328) (hbr : brB ab (t []).kind = false) (hk : (t []).kind = 1) :
    Calls Tryz.prog 43 #[v, ndV (t []), .int .i64 ab] w fun e w' => ∃ v', e = .returned v' ∧ Rq S v w (T ++ (tx (m + 1) t)) v' w' := by
  have hb0 : Below w.heap.size w (w.alloc (ndX (t []))) := (Below.refl _ w).alloc (Nat.le_refl _) _
  have hcs := ndX_cells (w := w) (t []) (Below.refl _ _)
  have hq0 := (Rq.refl hv).below hb0
  have ht0 := ht.below (hb0.mono hS)
  have hA0 := hA.below (hb0.mono hS)
  have hG : ¬ Mo v w.heap.size := fun e => by have := ((Bo.of hv hS).lo _ e).2; omega
  have hnode := ht.node
  obtain ⟨⟨hnd, _⟩, _, hkids⟩ := hwf
  have kBr := fun W => rBrackets_any ab (t []).kind W
  simp only [hbr] at kBr
  obtain ⟨W0, hW0⟩ : ∃ W0, W0 = w.alloc (ndX (t [])) := ⟨_, rfl⟩
  have HW0 : Hid (W0 = w.alloc (ndX (t []))) := hW0
  obtain ⟨G, hGG⟩ : ∃ G, G = w.heap.size := ⟨_, rfl⟩
  have HG : Hid (G = w.heap.size) := hGG
  rw [← hW0] at hb0 hcs hq0 ht0 hA0
  rw [← hGG] at hcs hG
  have HB : Hid (Bo S v W0) := Bo.of hq0.1 (Nat.le_trans hS hb0.size)
  have HQ0 : Hid (Rq S v W0 T v W0) := Rq.refl hq0.1
  have HCL : Hid (∀ w', Kp (Mo v) W0 w' → Cs w' G 0 (t [])) := fun w' k => hcs.kp k hG
  have HF : Hid (∀ X v' w', Rq S v W0 X v' w' → Rq S v w X v' w') := fun X v' w' h => h.re (Sub.refl _ _) (Kp.of hb0)
  have HTB : Hid (∀ w5, Kp (Mo v) W0 w5 → TbA w5.heap.size w5 ∧ TbI w5 ∧ TbZ w5) := fun w5 k => ⟨fun w6 b6 => hA0 w6 ((HB.out.below k).trans (b6.mono (Nat.le_trans HB.out.sz k.size))), (hA0 w5 (HB.out.below k)).1, (hA0 w5 (HB.out.below k)).2⟩
  have HSZ : Hid (T.size + (tx (m + 1) t).size + 16 * (m + 1 + 1) ≤ 140737488355328) := hsz
  have z0 := nil_size
  have z3 : (⟨#[40, 63, 58]⟩ : ByteArray).size = 3 := rfl
  have z1 : (⟨#[41]⟩ : ByteArray).size = 1 := rfl
  have z2 : (⟨#[40]⟩ : ByteArray).size = 1 := rfl
  have z4 : (⟨#[124]⟩ : ByteArray).size = 1 := rfl
  have z5 : (⟨#[63, 80, 60]⟩ : ByteArray).size = 3 := rfl
  have z6 : (⟨#[62]⟩ : ByteArray).size = 1 := rfl
  have z7 : (⟨#[63]⟩ : ByteArray).size = 1 := rfl
  have HX : Hid (tx (m + 1) t = ⟨#[]⟩) := by
    show (if (t []).kind = 2 then _ else if (t []).kind = 3 then _ else if (t []).kind = 5 then _ else if (t []).kind = 4 then _ else if (t []).kind = 6 then _ else if (t []).kind = 7 then _ else _) = _
    rw [if_neg (by omega), if_neg (by omega), if_neg (by omega), if_neg (by omega), if_neg (by omega), if_neg (by omega), hk]
    rfl
  have HKN : Hid ((t []).kn = 0) := ndB_leaf hnd (by omega)
  have y2 : ((t []).kind == 2) = false := by simp; omega
  have y3 : ((t []).kind == 3) = false := by simp; omega
  have y7 : ((t []).kind == 7) = false := by simp; omega
  have y8 : ((t []).kind == 8) = false := by simp; omega
  have y9 : ((t []).kind == 9) = false := by simp; omega
  have y10 : ((t []).kind == 10) = false := by simp; omega
  have y11 : ((t []).kind == 11) = false := by simp; omega
  have y12 : ((t []).kind == 12) = false := by simp; omega
  have y13 : ((t []).kind == 13) = false := by simp; omega
  have y5 : ((t []).kind == 5) = false := by simp; omega
  have y6 : ((t []).kind == 6) = false := by simp; omega
  clear hk ht0 ht hkids hA hS
  have hcs0 := HCL.out W0 (Kp.refl _ _)
  generalize t [] = d at *
  obtain ⟨e0, e1, e2, e3, e4, e5, e6, e7, e8⟩ := hcs0
  simp only [Nat.zero_add] at e0 e1 e2 e3 e4 e5 e6 e7 e8
  rw [HKN.out] at e8
  clear hv hb0 hcs hq0 hA0 hG hnode hW0 hGG hnd hbr hsz
  go_enter Tryz.func43, Tryz.ntmps43
  go_upto_region 1 with fail
  rw [← HW0.out, ← HG.out]
  go_wp2_with (go_at_call 54; go_fit (kBr _); rintro e w' ⟨rfl, hw⟩; obtain rfl := hw.symm)
  go_wp2_with fail
  go_loopw [0, 8] (fun wv ivv w' => ivv = .int .i64 0 ∧ wv = v ∧ w' = W0) (fun _ _ _ => 0)
  case atStart => exact ⟨rfl, rfl, rfl⟩
  case round =>
    obtain ⟨rfl, rfl, rfl⟩ := hrel
    go_wp2
    go_ret
    refine ⟨_, rfl, HF.out _ _ _ ?_⟩
    have h9 := HQ0.out
    rw [HX.out]
    first | exact h9 | (rw [app_nil]; exact h9) | (simp only [ByteArray.append_assoc] at h9 ⊢; exact h9) | (simp only [app_nil] at h9 ⊢; exact h9) | (simp only [ByteArray.append_assoc, app_nil] at h9 ⊢; exact h9)

set_option maxHeartbeats 8000000 in
set_option maxRecDepth 100000 in
theorem rw_eb (S m : Nat) (v : Value) (w : World) (T : ByteArray) (t : Tr) (ab : Int) (hv : Ro S w v T) (hS : S ≤ w.heap.size) (ht : Tat S w t) (hA : TbA S w) (hwf : WF (m + 1) t) (hsz : T.size + (tx (m + 1) t).size + 16 * (m + 1 + 1) ≤ 140737488355328) (hbr : brB ab (t []).kind = true) (hk : (t []).kind = 1) :
    Calls Tryz.prog 43 #[v, ndV (t []), .int .i64 ab] w fun e w' => ∃ v', e = .returned v' ∧ Rq S v w (T ++ (((⟨#[40, 63, 58]⟩ : ByteArray) ++ tx (m + 1) t) ++ ⟨#[41]⟩)) v' w' := by
  have hb0 : Below w.heap.size w (w.alloc (ndX (t []))) := (Below.refl _ w).alloc (Nat.le_refl _) _
  have hcs := ndX_cells (w := w) (t []) (Below.refl _ _)
  have hq0 := (Rq.refl hv).below hb0
  have ht0 := ht.below (hb0.mono hS)
  have hA0 := hA.below (hb0.mono hS)
  have hG : ¬ Mo v w.heap.size := fun e => by have := ((Bo.of hv hS).lo _ e).2; omega
  have hnode := ht.node
  obtain ⟨⟨hnd, _⟩, _, hkids⟩ := hwf
  have kBr := fun W => rBrackets_any ab (t []).kind W
  simp only [hbr] at kBr
  obtain ⟨W0, hW0⟩ : ∃ W0, W0 = w.alloc (ndX (t [])) := ⟨_, rfl⟩
  have HW0 : Hid (W0 = w.alloc (ndX (t []))) := hW0
  obtain ⟨G, hGG⟩ : ∃ G, G = w.heap.size := ⟨_, rfl⟩
  have HG : Hid (G = w.heap.size) := hGG
  rw [← hW0] at hb0 hcs hq0 ht0 hA0
  rw [← hGG] at hcs hG
  have HB : Hid (Bo S v W0) := Bo.of hq0.1 (Nat.le_trans hS hb0.size)
  have HQ0 : Hid (Rq S v W0 T v W0) := Rq.refl hq0.1
  have HCL : Hid (∀ w', Kp (Mo v) W0 w' → Cs w' G 0 (t [])) := fun w' k => hcs.kp k hG
  have HF : Hid (∀ X v' w', Rq S v W0 X v' w' → Rq S v w X v' w') := fun X v' w' h => h.re (Sub.refl _ _) (Kp.of hb0)
  have HTB : Hid (∀ w5, Kp (Mo v) W0 w5 → TbA w5.heap.size w5 ∧ TbI w5 ∧ TbZ w5) := fun w5 k => ⟨fun w6 b6 => hA0 w6 ((HB.out.below k).trans (b6.mono (Nat.le_trans HB.out.sz k.size))), (hA0 w5 (HB.out.below k)).1, (hA0 w5 (HB.out.below k)).2⟩
  have HSZ : Hid (T.size + (tx (m + 1) t).size + 16 * (m + 1 + 1) ≤ 140737488355328) := hsz
  have z0 := nil_size
  have z3 : (⟨#[40, 63, 58]⟩ : ByteArray).size = 3 := rfl
  have z1 : (⟨#[41]⟩ : ByteArray).size = 1 := rfl
  have z2 : (⟨#[40]⟩ : ByteArray).size = 1 := rfl
  have z4 : (⟨#[124]⟩ : ByteArray).size = 1 := rfl
  have z5 : (⟨#[63, 80, 60]⟩ : ByteArray).size = 3 := rfl
  have z6 : (⟨#[62]⟩ : ByteArray).size = 1 := rfl
  have z7 : (⟨#[63]⟩ : ByteArray).size = 1 := rfl
  have HX : Hid (tx (m + 1) t = ⟨#[]⟩) := by
    show (if (t []).kind = 2 then _ else if (t []).kind = 3 then _ else if (t []).kind = 5 then _ else if (t []).kind = 4 then _ else if (t []).kind = 6 then _ else if (t []).kind = 7 then _ else _) = _
    rw [if_neg (by omega), if_neg (by omega), if_neg (by omega), if_neg (by omega), if_neg (by omega), if_neg (by omega), hk]
    rfl
  have HKN : Hid ((t []).kn = 0) := ndB_leaf hnd (by omega)
  have y2 : ((t []).kind == 2) = false := by simp; omega
  have y3 : ((t []).kind == 3) = false := by simp; omega
  have y7 : ((t []).kind == 7) = false := by simp; omega
  have y8 : ((t []).kind == 8) = false := by simp; omega
  have y9 : ((t []).kind == 9) = false := by simp; omega
  have y10 : ((t []).kind == 10) = false := by simp; omega
  have y11 : ((t []).kind == 11) = false := by simp; omega
  have y12 : ((t []).kind == 12) = false := by simp; omega
  have y13 : ((t []).kind == 13) = false := by simp; omega
  have y5 : ((t []).kind == 5) = false := by simp; omega
  have y6 : ((t []).kind == 6) = false := by simp; omega
  clear hk ht0 ht hkids hA hS
  have hcs0 := HCL.out W0 (Kp.refl _ _)
  generalize t [] = d at *
  obtain ⟨e0, e1, e2, e3, e4, e5, e6, e7, e8⟩ := hcs0
  simp only [Nat.zero_add] at e0 e1 e2 e3 e4 e5 e6 e7 e8
  rw [HKN.out] at e8
  clear hv hb0 hcs hq0 hA0 hG hnode hW0 hGG hnd hbr hsz
  go_enter Tryz.func43, Tryz.ntmps43
  go_upto_region 1 with fail
  rw [← HW0.out, ← HG.out]
  go_wp2_with (go_at_call 54; go_fit (kBr _); rintro e w' ⟨rfl, hw⟩; obtain rfl := hw.symm)
  have ka := HQ0.out.put HB.out ((⟨#[40, 63, 58]⟩ : ByteArray)) (by
    have h := HSZ.out
    rw [HX.out] at h
    try simp only [ByteArray.size_append] at h ⊢
    omega)
  go_wp2_with fail
  go_fit ka
  rintro e wa ⟨va, rfl, ha⟩
  have Qa : Hid (Rq S v W0 ((T) ++ ((⟨#[40, 63, 58]⟩ : ByteArray))) va wa) := ha
  clear ka
  clear e0 e1 e2 e3 e4 e5 e6 e7 e8
  obtain ⟨e0, e1, e2, e3, e4, e5, e6, e7, e8⟩ := HCL.out _ ha.2.2
  simp only [Nat.zero_add] at e0 e1 e2 e3 e4 e5 e6 e7 e8
  rw [HKN.out] at e8
  clear ha
  go_wp2_with fail
  go_loopw [0, 8] (fun wv ivv w' => ivv = .int .i64 0 ∧ wv = va ∧ w' = wa) (fun _ _ _ => 0)
  case atStart => exact ⟨rfl, rfl, rfl⟩
  case round =>
    obtain ⟨rfl, rfl, rfl⟩ := hrel
    have kc := Qa.out.put HB.out ((⟨#[41]⟩ : ByteArray)) (by
      have h := HSZ.out
      rw [HX.out] at h
      try simp only [ByteArray.size_append] at h ⊢
      omega)
    go_wp2_with fail
    go_fit kc
    rintro e wc ⟨vc, rfl, hc⟩
    have Qc : Hid (Rq S v W0 (((T) ++ (⟨#[40, 63, 58]⟩ : ByteArray)) ++ ((⟨#[41]⟩ : ByteArray))) vc wc) := hc
    clear kc
    clear e0 e1 e2 e3 e4 e5 e6 e7 e8
    obtain ⟨e0, e1, e2, e3, e4, e5, e6, e7, e8⟩ := HCL.out _ hc.2.2
    simp only [Nat.zero_add] at e0 e1 e2 e3 e4 e5 e6 e7 e8
    rw [HKN.out] at e8
    clear hc
    go_wp2
    go_ret
    refine ⟨_, rfl, HF.out _ _ _ ?_⟩
    have h9 := Qc.out
    rw [HX.out]
    first | exact h9 | (rw [app_nil]; exact h9) | (simp only [ByteArray.append_assoc] at h9 ⊢; exact h9) | (simp only [app_nil] at h9 ⊢; exact h9) | (simp only [ByteArray.append_assoc, app_nil] at h9 ⊢; exact h9)
end Go.Proofs.YtajaadagejhllaaGreatDoor
