/- A bundle of texts. -/
import Derived.Test.YtbciclnffokjjaaBk52
import Derived.Test.YtbciclnffokjjaaBk49
import Derived.Test.YtbciclnffokjjaaBk54
import Derived.Test.YtbciclnffokjjaaBk07
import Derived.ChangeMaps5
/- RxprogKeeps: a tree without a program. -/
namespace Go.Proofs.Ytbciclnffokjjaa
open Go.RowKit Go.Lib

set_option maxHeartbeats 4000000 in
set_option maxRecDepth 100000 in
theorem keeps_no (t : Tr) (w : World) (ht : Tat w.heap.size w t) (hnl : Tnl t) (h : sizF t = 0 ∨ 10000 < sizF t) :
    Calls Try.prog 6 #[ndV (t [])] w fun e w' => e = .returned (.bool true) ∧ Below w.heap.size w w' := by
  obtain ⟨W, hW⟩ : ∃ W, W = w.alloc (ndX (t [])) := ⟨_, rfl⟩
  have HW : Hid (W = w.alloc (ndX (t []))) := hW
  have hWz : W.heap.size = w.heap.size + 1 := by rw [hW]; simp
  have hb0 : Below w.heap.size w W := by rw [hW]; exact (Below.refl _ w).alloc (Nat.le_refl _) _
  have hc0 : Cs W w.heap.size 0 (t []) := ndX_cells (w := w) (t []) (by rw [hW]; exact Below.refl _ _)
  have HK : Hid (∀ w2, Below W.heap.size W w2 → Cs w2 w.heap.size 0 (t []) ∧ Tat w2.heap.size w2 t ∧ Below w.heap.size w w2) := fun w2 b => ⟨hc0.below b (by omega), (((ht.below hb0).mono hb0.size).below b).mono b.size, hb0.trans (b.mono hb0.size)⟩
  have kA := awake_any W
  have HKC : Hid (∀ w2, Below W.heap.size W w2 → Calls Try.prog 18 #[ndV (t []), .pointer (some ⟨w2.heap.size, 0, none⟩)] (w2.alloc (ctX 0)) fun e w' => (∃ d : Nd, e = .returned (ndV d)) ∧ Below W.heap.size W w') := fun w2 b => by
    have hb2 : Below w2.heap.size w2 (w2.alloc (ctX 0)) := (Below.refl _ w2).alloc (Nat.le_refl _) _
    refine (copied_any 9000 t 0 w2.heap.size (w2.alloc (ctX 0)) (by omega) (by omega) hnl ((HK.out w2 b).2.1.below hb2) (heap_alloc_new w2 _)).mono ?_
    rintro e w' ⟨u, rfl, _, _, _, k⟩
    have hbb := b.trans (hb2.mono b.size)
    exact ⟨⟨u [], rfl⟩, hbb.trans (k.below hbb.size (fun q hq e => by have e' : q = w2.heap.size := e; have := b.size; omega))⟩
  have HKP : Hid (∀ w2, Below W.heap.size W w2 → Calls Try.prog 10 #[ndV (t [])] w2 fun e w' => e = .returned (.tuple #[prV none 0 0 0 0 none 0 0, .int .i64 (if sizF t = 0 then 2 else 90)]) ∧ Below W.heap.size W w') := fun w2 b => (compile_no t w2 (HK.out w2 b).2.1 h).mono fun e w' ⟨h1, h2⟩ => ⟨h1, b.trans (h2.mono b.size)⟩
  have HKB : Hid (∀ w2, Below W.heap.size W w2 → Cs w2 w.heap.size 0 (t []) ∧ Below w.heap.size w w2) := fun w2 b => ⟨(HK.out w2 b).1, (HK.out w2 b).2.2⟩
  have HAL : Hid (∀ (w2 : World) (o : Obj), Below W.heap.size W w2 → Below W.heap.size W (w2.alloc o)) := fun w2 o b => b.alloc b.size o
  obtain ⟨ec, hec⟩ : ∃ ec : Int, ec = (if sizF t = 0 then 2 else 90) := ⟨_, rfl⟩
  rw [← hec] at HKP
  have hne : ec ≠ 0 := by rw [hec]; split <;> decide
  have hne' : (ec == 0) = false := by simp [hne]
  clear hW hb0 hc0 ht hnl h HK hec
  generalize t [] = d at *
  go_enter Try.func6, Try.ntmps6
  go_upto_region 1 with fail
  rw [← HW.out]
  go_wp2_with fail
  go_fit kA
  rintro e w1 ⟨rfl, b1⟩
  have kC := HKC.out w1 b1
  obtain ⟨V1, hV1⟩ : ∃ V1, V1 = w1.alloc (.cells #[.int .i64 0] 3) := ⟨_, rfl⟩
  have HV1 : Hid (V1 = w1.alloc (.cells #[.int .i64 0] 3)) := hV1
  have kC : Calls Try.prog 18 _ (w1.alloc (.cells #[.int .i64 0] 3)) _ := kC
  rw [← hV1] at kC
  have bV1 : Below W.heap.size W V1 := by rw [hV1]; exact HAL.out w1 _ b1
  obtain ⟨⟨q0, q1, q2, q3, q4, q5, q6, q7, q8⟩, _⟩ := HKB.out V1 bV1
  simp only [Nat.zero_add] at q0 q1 q2 q3 q4 q5 q6 q7 q8
  clear kA HKC b1 hV1 bV1
  obtain ⟨NB, hNB⟩ : ∃ NB, NB = w1.heap.size := ⟨_, rfl⟩
  have HNB : Hid (NB = w1.heap.size) := hNB
  rw [← hNB] at kC
  clear hNB
  go_upto_region 4 with fail
  rw [← HV1.out, ← HNB.out]
  go_wp2_with fail
  go_fit kC
  rintro e w3 ⟨⟨du, rfl⟩, b3⟩
  obtain ⟨V3, hV3⟩ : ∃ V3, V3 = w3.alloc (ndX du) := ⟨_, rfl⟩
  have HV3 : Hid (V3 = w3.alloc (ndX du)) := hV3
  have bV3 : Below W.heap.size W V3 := by rw [hV3]; exact HAL.out w3 _ b3
  have kP := HKP.out V3 bV3
  clear kC q0 q1 q2 q3 q4 q5 q6 q7 q8 hV3
  obtain ⟨⟨q0, q1, q2, q3, q4, q5, q6, q7, q8⟩, _⟩ := HKB.out V3 bV3
  simp only [Nat.zero_add] at q0 q1 q2 q3 q4 q5 q6 q7 q8
  clear bV3 b3
  go_upto_region 5 with fail
  rw [← HV3.out]
  go_wp2_with fail
  go_fit kP
  rintro e w5 ⟨rfl, b5⟩
  have HB5 : Hid (Below w.heap.size w (w5.alloc (prX none 0 0 0 0 none 0 0))) := (HKB.out _ (HAL.out w5 _ b5)).2
  clear kP b5 HKB HAL HKP q0 q1 q2 q3 q4 q5 q6 q7 q8
  go_wp2
  go_ret
  exact ⟨rfl, HB5.out⟩
end Go.Proofs.Ytbciclnffokjjaa
/- RxprogKeeps: the law over any tree. -/
namespace Go.Proofs.Ytbciclnffokjjaa
open Go.RowKit Go.Lib

def pI (t : Tr) (j : Nat) : Ia := (prgC t).getD j ⟨0, 0, 0, 0, []⟩
def OAt (t : Tr) (S : Nat) (w : World) (v : Value) : Prop := OwA S w v (prgC t)
def WZt (t : Tr) (lo hi : Nat) (w : World) (d : Nd) : Prop := ∃ u : Tr, u [] = d ∧ Tz (fun g => lo ≤ g ∧ g < hi) w u ∧ SameN 9001 u (cutT 9000 t 0).1
theorem pI_get (t : Tr) (j : Nat) (hj : j < (prgC t).length) : (prgC t)[j]? = some (pI t j) := by
  unfold pI
  rw [List.getD_eq_getElem?_getD, List.getElem?_eq_getElem hj]
  rfl
theorem keeps_told (t : Tr) (s : St) (w : World) (ht : Tat w.heap.size w t) (hnl : Tnl t) (h0 : ¬ sizF t = 0) (h1 : sizF t ≤ 10000) (hs : svd t = some s) (hsn : s.n ≤ 100) :
    KpH (t []) (prgC t).length s.n (wl t).length (wdsF t).isSome (fun j q => (pI t j).rs.getD q (0, 0)) (fun j => (pI t j).rs.length) (fun j => (pI t j).op) s.f (wlf t) (OAt t) (WZt t) (w.alloc (ndX (t []))) := by
  obtain ⟨W, hW⟩ : ∃ W, W = w.alloc (ndX (t [])) := ⟨_, rfl⟩
  have hWz : W.heap.size = w.heap.size + 1 := by rw [hW]; simp
  have hb0 : Below w.heap.size w W := by rw [hW]; exact (Below.refl _ w).alloc (Nat.le_refl _) _
  have hc0 : Cs W w.heap.size 0 (t []) := ndX_cells (w := w) (t []) (by rw [hW]; exact Below.refl _ _)
  have hT : ∀ w2, Below W.heap.size W w2 → Tat W.heap.size w2 t := fun w2 b => ((ht.below hb0).mono hb0.size).below b
  have hT2 : ∀ w2, Below W.heap.size W w2 → Tat w2.heap.size w2 t := fun w2 b => (hT w2 b).mono b.size
  obtain ⟨hok, hlen, _⟩ := sizF_ok h0 h1
  have hwf := WF_ok hok
  have hcl := cod_len 8195 t 0 hwf (by omega)
  have hpl : (prgC t).length = (cod 8195 t 0).length + 1 := by unfold prgC; simp
  rw [← hW]
  exact {
    awk := awake_any W
    cpy := fun w2 NB b l1 l2 hnb => by
      refine (copied_any 9000 t 0 NB w2 (by omega) (by omega) hnl ((hT w2 b).mono l1) hnb).mono ?_
      rintro e w' ⟨u, rfl, hz, hsm, hcn, k⟩
      exact ⟨⟨u [], rfl, ⟨u, rfl, hz, hsm⟩, _, hcn⟩, k⟩
    cmp := fun w2 b => by
      refine (comp_k t s w2 (hT2 w2 b) h0 h1 hs).mono ?_
      rintro e w' ⟨⟨g, cc, na, nc, S', rfl, e1, e2, e3, e4⟩, hb⟩
      refine ⟨⟨g, cc, na, nc, rfl, ?_⟩, hb⟩
      obtain ⟨g', cc', f, hv, hp, hf, hr⟩ := e3.pw
      cases hv
      exact ⟨S', f, e1, e2, e3, hp, fun j hj => ⟨(hf j _ (pI_get t j hj)).2, (hf j _ (pI_get t j hj)).1⟩, e4⟩
    wds := fun w2 b => by
      refine (words_k t w2 (hT2 w2 b)).mono ?_
      rintro e w' ⟨⟨a, c, rfl, ho⟩, hb⟩
      exact ⟨⟨a, c, rfl, ho⟩, hb⟩
    smp := fun S S' T T' w2 g cc na nc g' cc' na' nc' o1 o2 r1 r2 => prog_same (OwA.ow o1) (OwA.ow o2) (prg_qr t w ht hwf) (by omega) hsn r1 r2
    smt := fun lo hi lo' hi' w2 du dv l1 l2 ⟨u, eu, zu, su⟩ ⟨v, ev, zv, sv⟩ => by
      subst eu
      subst ev
      exact sameTree_any 9001 u v w2 (su.trans sv.symm) (zu.tat (fun g hg => by omega)) (zv.tat (fun g hg => by omega))
    oak := fun S w2 w3 v Mk h k hM => OwA.kp h k hM
    wzk := fun lo hi w2 w3 du Mk ⟨u, eu, zu, su⟩ k hM => ⟨u, eu, zu.kp k (fun g hg => hM g hg.1 hg.2), su⟩
    xbx := fun w2 g hg b => by
      have : g = w.heap.size := by omega
      subst this
      exact hc0.below b (by omega) }
theorem keeps_any (t : Tr) (w : World) (ht : Tat w.heap.size w t) (hnl : Tnl t) : Calls Try.prog 6 #[ndV (t [])] w fun e w' => e = .returned (.bool true) ∧ Below w.heap.size w w' := by
  by_cases h0 : sizF t = 0
  · exact keeps_no t w ht hnl (.inl h0)
  by_cases h1 : sizF t ≤ 10000
  · obtain ⟨hok, hlen, _⟩ := sizF_ok h0 h1
    have hwf := WF_ok hok
    have hcl := cod_len 8195 t 0 hwf (by omega)
    have hpl : (prgC t).length = (cod 8195 t 0).length + 1 := by unfold prgC; simp
    obtain ⟨s, hs⟩ : ∃ s, svd t = some s := Option.isSome_iff_exists.1 hok
    have hsn : s.n ≤ 100 := vd_n 8195 t 0 s0 s hs (Nat.zero_le _)
    refine keepsX.2 (keepsY.2 (keepsZ.2 (keepsV.2 keeps_end))) (t []) (prgC t).length s.n (wl t).length _ _ _ _ _ _ (OAt t) (WZt t) w (by omega) hsn (wl_len t) (fun j hj => ?_) (fun j hj => ?_) (keeps_told t s w ht hnl h0 h1 hs hsn)
    · exact prg_opm t _ (List.mem_of_getElem? (pI_get t j hj))
    · exact prg_qr t w ht hwf _ (List.mem_of_getElem? (pI_get t j hj))
  · exact keeps_no t w ht hnl (.inr (by omega))
end Go.Proofs.Ytbciclnffokjjaa
/- RxprogKeeps: the row. -/
namespace Go.Proofs.Ytbciclnffokjjaa
open Go.ChangeShapes Go.WideShapes Go.ChangeAt Go.RowKit

set_option maxRecDepth 100000 in
theorem keeps_lifted (os : Os) (started : os.Started) (H : Type) (enc : TypeId × Value → H) :
    ReturnsInHanded {} Try.checked os 6 .any (Rows.rxprogKeepsSpec.pre6 enc Try.prog Try.f6 Rows.rxprogKeepsRow.domain false) (Rows.rxprogKeepsSpec.post enc Try.prog Try.f6 false true false false) := by
  refine returnsInHanded_of_change_sized (C := Try.checked) own started (by kernel_rfl) Try.func6
    (ChangeSpec.witness6 (enc := enc) (C := Try.checked) false ⟨#[], #[ndV nd0], []⟩ 8 (by kernel_rfl) (by kernel_rfl) (by kernel_rfl) (by kernel_rfl)) ?_
  intro W base args ds gs before hval0 hW hcnd hsz0 _
  have hval : ∀ (j : Nat) t v, Try.f6.params[j]? = some t → args[j]? = some v → Value.okWide Try.prog W .any base t v := hval0
  have hsz : (DataW.weightsEach Try.prog (Try.f6.params.toList ++ Rows.rxprogKeepsSpec.plain.varTypes Try.prog) (ds ++ gs)).all (· ≤ reachBytes) = true := hsz0
  have hW' := hW
  obtain ⟨p, q, hA0, hV, rfl, hfz, hnd⟩ := hW
  have hA : DataW.TrodAll enc Try.prog W 0 (fun _ => true) true Try.f6.params.toList args.toList ds p := hA0
  rw [Try.params6] at hA hval hsz
  obtain ⟨v0, d0, rfl, rfl, h0⟩ := trodAll_one hA
  obtain ⟨rfl, rfl⟩ := trodVars_none hV
  obtain ⟨cs, rfl, hcs⟩ := okWide_struct Try.underlying33 (hval 0 33 v0 rfl rfl)
  have k0 := h0
  have lt0 : ∀ x ∈ p, x.block < W.heap.size := by obtain ⟨m, hm⟩ := k0; exact DataW.trod_lt m _ _ _ hm
  have z0 : ∀ n ∈ d0.weights Try.prog 33, n ≤ reachBytes := fun n hn => by
    have := List.all_eq_true.1 hsz _ (DataW.weights_mem_each (j := 0) (t := 33) (d := d0) rfl rfl n hn)
    simpa using this
  have walk : Calls Try.prog 6 #[.agg cs] W fun e w' => e = .returned (.bool true) ∧ Below W.heap.size W w' := by
    obtain ⟨fuel, hf0⟩ := h0
    have hf : DataW.trod enc Try.prog W 0 (fun _ => true) true fuel 33 cs.toList = some (d0, p) := hf0
    obtain ⟨t, ecl, ht, hnl⟩ := tree_openN fuel cs.toList d0 p hf z0
    have ecs : cs = (ndC (t [])).toArray := by rw [← Array.toArray_toList (xs := cs), ecl]
    rw [ecs]
    exact keeps_any t W ht hnl
  refine walk.mono fun e W' ⟨he, bel⟩ => ?_
  subst he
  exact ⟨_, rfl, _, _, _, [], _, [], hW', trodAll_mk1 (shut_bool Try.underlying4 _), trodAll_mk1 (Below.trod laidOut (by kernel_rfl) (of_decide_eq_true (by kernel_rfl)) k0 bel lt0), rfl, bel.frame _, fun h => by cases h⟩

theorem keeps_said : Rows.RxprogKeepsSaid :=
  OpenClaim.holds_of_wide 6 Try.f6 rfl rfl rfl rfl rfl rfl rfl ⟨rfl, rfl, rfl, rfl, rfl⟩ rfl rfl rfl rfl rfl (by kernel_rfl) Try.func6 (by kernel_rfl)
    (of_decide_eq_true (by kernel_rfl)) (by unfold Func.isWrapper; first | (rw [if_pos (by decide +kernel)]; kernel_rfl) | (rw [if_neg (by decide +kernel)]; exact ⟨rfl, rfl⟩))
    (fun os started H enc _ => keeps_lifted os started H enc)
#print axioms keeps_said
end Go.Proofs.Ytbciclnffokjjaa
