/- A bundle of texts. -/
import Derived.Test.YtbciclnffokjjaaGreatDoorBt34
/- The reference's words: repeats. -/
namespace Go.Proofs.YtbciclnffokjjaaGreatDoor
open Go.RowKit Go.Lib

/-- Boxes with lists, beside those of words itself. -/
structure BxI (w : World) (d : Nd) (f : Nat → Option Sto) (V : World) : Prop where
  w0 : Wd0 w d V
  bx : ∀ B r, f B = some r → w.heap.size + 1 + 1 + 1 < B ∧ ∃ a n c m, V.heap[B]? = some (lX (.slice a n c) m) ∧ RlV V (.slice a n c) m r
theorem BxI.below {w : World} {d : Nd} {f : Nat → Option Sto} {V V' : World} (h : BxI w d f V) (b : Below V.heap.size V V') : BxI w d f V' := by
  refine ⟨h.w0.below b, fun B r e => ?_⟩
  obtain ⟨h1, a, n, c, m, hb, hr⟩ := h.bx B r e
  exact ⟨h1, a, n, c, m, (b.block _ (Array.getElem?_eq_some_iff.1 hb).1).trans hb, hr.below b⟩
theorem BxI.new {w : World} {d : Nd} {f : Nat → Option Sto} {V : World} (h : BxI w d f V) {a : Option Addr} {n c : Nat} {m : Bool} {r : Sto} (hv : RlV V (.slice a n c) m r) : BxI w d (up f V.heap.size (some r)) (V.alloc (lX (.slice a n c) m)) := by
  have bA : Below V.heap.size V (V.alloc (lX (.slice a n c) m)) := (Below.refl _ V).alloc (Nat.le_refl _) _
  have h' := h.below bA
  refine ⟨h'.w0, fun B r' e => ?_⟩
  by_cases eB : B = V.heap.size
  · subst eB
    rw [up_same] at e
    cases e
    exact ⟨h.w0.sz, a, n, c, m, heap_alloc_new V _, hv.below bA⟩
  · rw [up_other _ _ _ _ eB] at e
    exact h'.bx B r' e
theorem BxI.put {w : World} {d : Nd} {f : Nat → Option Sto} {V w5 : World} (h : BxI w d f V) {O : Nat} {r r' : Sto} (hO : f O = some r) (b : Below V.heap.size V w5) {a' : Option Addr} {n' c' : Nat} {m' : Bool} (hv : RlV w5 (.slice a' n' c') m' r') : BxI w d (up f O (some r')) ((w5.setCell ⟨O, 0, none⟩ (.slice a' n' c')).setCell ⟨O, 1, none⟩ (.bool m')) := by
  have h5 := h.below b
  obtain ⟨hl, a, n, c, m, hb, _⟩ := h5.bx O r hO
  have k := two_kp w5 O (.slice a' n' c') (.bool m')
  have hM : ∀ q, q = O → ∃ a n c p, w5.heap[q]? = some (lX (.slice a n c) p) := fun q e => ⟨a, n, c, m, by rw [e]; exact hb⟩
  have z5 := h5.w0.sz
  have nO : ∀ q, q < O → ¬ (q = O) := fun q hq e => by omega
  refine ⟨⟨h5.w0.bx.kp k (nO _ (by omega)), (k.block _ (by omega) (nO _ (by omega))).trans h5.w0.rs, k.cell h5.w0.bc (nO (w.heap.size + 1 + 1) (by omega)), (k.block _ (by omega) (nO _ (by omega))).trans h5.w0.bl, two_set h5.w0.lo (by omega) _ _, Nat.lt_of_lt_of_le z5 k.size⟩, fun B q e => ?_⟩
  by_cases eB : B = O
  · subst eB
    rw [up_same] at e
    cases e
    exact ⟨hl, a', n', c', m', heap_two hb, hv.box k hM⟩
  · rw [up_other _ _ _ _ eB] at e
    obtain ⟨g1, a1, n1, c1, m1, gb, gr⟩ := h5.bx B q e
    exact ⟨g1, a1, n1, c1, m1, (k.block _ (Array.getElem?_eq_some_iff.1 gb).1 eB).trans gb, gr.box k hM⟩
theorem pow_none (n : Nat) : powS none (n + 1) = none := by
  induction n with
  | zero => rfl
  | succ n ih => show jnS (powS none (n + 1)) none = none; rw [ih]; rfl
theorem pows_none (a : Nat) : ∀ n, 1 ≤ a + n → powsS none a n = none
  | 0, h => by
    obtain ⟨b, rfl⟩ : ∃ b, a = b + 1 := ⟨a - 1, by omega⟩
    show allS (some []) (powS none (b + 1)) = none
    rw [pow_none]; rfl
  | n + 1, _ => by
    show allS (powsS none a n) (powS none (a + n + 1)) = none
    rw [pow_none]; rfl
theorem pows_many {k : Sto} {a n : Nat} (h : powsS k a n = none) : ∀ d, powsS k a (n + d) = none
  | 0 => h
  | d + 1 => by
    show allS (powsS k a (n + d)) (powS k (a + (n + d) + 1)) = none
    rw [pows_many h d]
    cases powS k (a + (n + d) + 1) with
    | none => rfl
    | some L => exact adds_none L
/-- What the reference asks of the kid's list says what the program's grows does. -/
theorem grw_cases (k : Sto) : (blkS k = true ∧ k = some [⟨#[]⟩] ∧ grwS k = false) ∨ (nonS k = true ∧ k = some [] ∧ grwS k = false ∧ blkS k = false) ∨ (k = none ∧ grwS k = true ∧ blkS k = false ∧ nonS k = false) ∨ (k ≠ none ∧ grwS k = true ∧ blkS k = false ∧ nonS k = false) := by
  match k with
  | none => exact .inr (.inr (.inl ⟨rfl, rfl, rfl, rfl⟩))
  | some [] => exact .inr (.inl ⟨rfl, rfl, rfl, rfl⟩)
  | some [x] =>
    cases e : x.toList.isEmpty with
    | true =>
      have : x = ⟨#[]⟩ := by
        have h1 : x.toList = [] := List.isEmpty_iff.1 e
        rw [ByteArray.toList_eq] at h1
        exact ba_ext h1
      exact .inl ⟨e, by rw [this], by show (!x.toList.isEmpty) = false; rw [e]; rfl⟩
    | false => exact .inr (.inr (.inr ⟨(by simp), by show (!x.toList.isEmpty) = true; rw [e]; rfl, e, rfl⟩))
  | some (x :: y :: L) => exact .inr (.inr (.inr ⟨(by simp), rfl, rfl, rfl⟩))
set_option maxHeartbeats 8000000 in
set_option maxRecDepth 100000 in
theorem words_60 (m : Nat) (t : Tr) (w : World) (kk : (t []).kind = 6) (hm : (t []).mx = 0) : Calls Tryz.prog 21 #[ndV (t [])] w (LsP w (wrdF (m + 1) t)) := by
  have h0 := Wd0.start w (t [])
  have HP : Hid _ := h0.fin h0.blank
  have hrep : repS (wrdF m (kid t 0)) (t []).mn (t []).mx = some [⟨#[]⟩] := by unfold repS; rw [if_pos hm]
  rw [wrd_eq, if_neg (by omega), if_neg (by omega), if_neg (by omega), if_neg (by omega), if_neg (by omega), if_pos kk, hrep]
  obtain ⟨x0, x1, x2, x3, x4, x5, x6, x7, x8⟩ := h0.bx
  simp only [Nat.zero_add] at x0 x1 x2 x3 x4 x5 x6 x7 x8
  rw [kk] at x0
  rw [hm] at x4
  obtain ⟨b0, b1, _, _⟩ := lx_cells h0.bl
  obtain ⟨y0, y1, z0, z1⟩ := lx_cells h0.rs
  obtain ⟨W, hW⟩ : ∃ W, W = wdW w (t []) := ⟨_, rfl⟩
  have HW : Hid (W = wdW w (t [])) := hW
  rw [← hW] at x0 x1 x2 x3 x4 x5 x6 x7 x8 b0 b1 y0 y1 z0 z1 HP
  clear h0 hW kk hm hrep
  generalize t [] = d at *
  go_enter Tryz.func21, Tryz.ntmps21
  go_upto_region 2 with fail
  rw [show (((w.alloc (ndX d)).alloc (lX (.slice none 0 0) false)).alloc (.cells #[.string ⟨#[]⟩] 9)).alloc (lX (.slice (some ⟨w.heap.size + 1 + 1, 0, none⟩) 1 1) false) = W from HW.out.symm]
  go_wp2
  exact bodyPost_ret (v := .agg #[.slice (some ⟨w.heap.size + 1 + 1, 0, none⟩) 1 1, .bool false]) (by simp [results, Tryz.results21, go_sem, y0, y1]) rfl HP.out
end Go.Proofs.YtbciclnffokjjaaGreatDoor
/- The reference's words: repeats, the walk. -/
namespace Go.Proofs.YtbciclnffokjjaaGreatDoor
open Go.RowKit Go.Lib

def f3 (K N O : Nat) (a b c : Option Sto) : Nat → Option Sto := fun B => if B = K then a else if B = N then b else if B = O then c else none
theorem f3_K (N O : Nat) (a : Option Sto) (K : Nat) : up (fun _ => none) K a = f3 K N O a none none := by
  funext B
  unfold f3
  by_cases e : B = K
  · subst e; rw [up_same, if_pos rfl]
  · rw [up_other _ _ _ _ e, if_neg e]
    split
    · rfl
    · split <;> rfl
theorem f3_N {K N O : Nat} {a b b' c : Option Sto} (h : K ≠ N) : up (f3 K N O a b c) N b' = f3 K N O a b' c := by
  funext B
  unfold f3
  by_cases e : B = N
  · subst e; rw [up_same, if_neg (fun e => h e.symm), if_pos rfl]
  · rw [up_other _ _ _ _ e, if_neg e, if_neg e]
theorem f3_O {K N O : Nat} {a b c c' : Option Sto} (h : K ≠ O) (h' : N ≠ O) : up (f3 K N O a b c) O c' = f3 K N O a b c' := by
  funext B
  unfold f3
  by_cases e : B = O
  · subst e; rw [up_same, if_neg (fun e => h e.symm), if_neg (fun e => h' e.symm), if_pos rfl]
  · rw [up_other _ _ _ _ e, if_neg e, if_neg e]
theorem f3_k {K N O : Nat} {a b c : Option Sto} : f3 K N O a b c K = a := by unfold f3; rw [if_pos rfl]
theorem f3_n {K N O : Nat} {a b c : Option Sto} (h : K ≠ N) : f3 K N O a b c N = b := by unfold f3; rw [if_neg (fun e => h e.symm), if_pos rfl]
theorem f3_o {K N O : Nat} {a b c : Option Sto} (h : K ≠ O) (h' : N ≠ O) : f3 K N O a b c O = c := by unfold f3; rw [if_neg (fun e => h e.symm), if_neg (fun e => h' e.symm), if_pos rfl]
/-- What stands in a box, in every world behind. -/
theorem BxI.at' {w : World} {d : Nd} {f : Nat → Option Sto} {V : World} (h : BxI w d f V) {B : Nat} {r : Sto} (hB : f B = some r) : ∃ a n c m, RlV V (.slice a n c) m r ∧ ∀ V1, Below V.heap.size V V1 → V1.cell? ⟨B, 0, none⟩ = some (.slice a n c) ∧ V1.cell? ⟨B, 1, none⟩ = some (.bool m) ∧ V1.frozen? ⟨B, 0, none⟩ = false ∧ V1.frozen? ⟨B, 1, none⟩ = false := by
  obtain ⟨_, a, n, c, m, hb, hr⟩ := h.bx B r hB
  exact ⟨a, n, c, m, hr, fun V1 b1 => lx_cells ((b1.block _ (Array.getElem?_eq_some_iff.1 hb).1).trans hb)⟩
/-- A list out of two boxes goes into the first. -/
def PutP (w : World) (d : Nd) (f : Nat → Option Sto) (B : Nat) (e : Ending) (w5 : World) : Prop := (∃ a' n' c' m', e = .returned (.agg #[.slice a' n' c', .bool m']) ∧ Hid (BxI w d f ((w5.setCell ⟨B, 0, none⟩ (.slice a' n' c')).setCell ⟨B, 1, none⟩ (.bool m')))) ∧ (∃ u, w5.cell? ⟨B, 0, none⟩ = some u) ∧ (∃ u, w5.cell? ⟨B, 1, none⟩ = some u) ∧ w5.frozen? ⟨B, 0, none⟩ = false ∧ w5.frozen? ⟨B, 1, none⟩ = false
theorem BxI.call {w : World} {d : Nd} {f f' : Nat → Option Sto} {V : World} (h : BxI w d f V) {B : Nat} {r r' : Sto} (hB : f B = some r) (hf : up f B (some r') = f') {e : Ending} {w5 : World} (hL : LsP V r' e w5) : PutP w d f' B e w5 := by
  obtain ⟨⟨v, m, rfl, hv⟩, b⟩ := hL
  obtain ⟨a', n', c', rfl⟩ := hv.form
  obtain ⟨_, _, _, _, _, hc⟩ := h.at' hB
  obtain ⟨c0, c1, f0, f1⟩ := hc w5 b
  refine ⟨⟨a', n', c', m, rfl, ?_⟩, ⟨_, c0⟩, ⟨_, c1⟩, f0, f1⟩
  unfold Hid
  rw [← hf]
  exact h.put hB b hv
/-- The cells of words' own boxes. -/
theorem Wd0.cells {w : World} {d : Nd} {V : World} (h : Wd0 w d V) : (V.cell? ⟨w.heap.size, 3, none⟩ = some (.int .i64 d.mn) ∧ V.cell? ⟨w.heap.size, 4, none⟩ = some (.int .i64 d.mx)) ∧ (V.cell? ⟨w.heap.size + 1 + 1 + 1, 0, none⟩ = some (.slice (some ⟨w.heap.size + 1 + 1, 0, none⟩) 1 1) ∧ V.cell? ⟨w.heap.size + 1 + 1 + 1, 1, none⟩ = some (.bool false)) ∧ V.cell? ⟨w.heap.size + 1, 0, none⟩ = some (.slice none 0 0) ∧ V.cell? ⟨w.heap.size + 1, 1, none⟩ = some (.bool false) ∧ V.frozen? ⟨w.heap.size + 1, 0, none⟩ = false ∧ V.frozen? ⟨w.heap.size + 1, 1, none⟩ = false := by
  have e3 := h.bx.c3
  have e4 := h.bx.c4
  rw [Nat.zero_add] at e3 e4
  have el := lx_cells h.bl
  exact ⟨⟨e3, e4⟩, ⟨el.1, el.2.1⟩, lx_cells h.rs⟩
set_option maxHeartbeats 8000000 in
set_option maxRecDepth 100000 in
theorem words_61 (m : Nat) (t : Tr) (w : World) (kk : (t []).kind = 6) (hkn : (t []).kn = 1) (hm0 : ¬ (t []).mx = 0) (hmn : 0 ≤ (t []).mn ∧ (t []).mn ≤ 1000) (hmx : (t []).mx = -1 ∨ (t []).mn ≤ (t []).mx ∧ (t []).mx ≤ 1000) (hgr : wrdF m (kid t 0) = none ∨ grwS (wrdF m (kid t 0)) = false) (ht : Tat w.heap.size w t) (hK : ∀ V, Below w.heap.size w V → Calls Tryz.prog 21 #[ndV (t [0])] V (LsP V (wrdF m (kid t 0)))) : Calls Tryz.prog 21 #[ndV (t [])] w (LsP w (wrdF (m + 1) t)) := by
  have h0 := Wd0.start w (t [])
  rw [wrd_eq, if_neg (by omega), if_neg (by omega), if_neg (by omega), if_neg (by omega), if_neg (by omega), if_pos kk]
  have hko : (wrdF m (kid t 0)).ok := wrdF_ok m _
  have kC : Calls Tryz.prog 21 #[ndV (t [0])] (wdW w (t [])) fun e V2 => ∃ a n c mk, e = .returned (.agg #[.slice a n c, .bool mk]) ∧ Hid (RlV V2 (.slice a n c) mk (wrdF m (kid t 0)) ∧ Wd0 w (t []) V2) := (hK _ h0.lo).mono (fun e w5 ⟨⟨v, mk, he, hv⟩, b⟩ => by
    obtain ⟨a, n, c, rfl⟩ := hv.form
    exact ⟨a, n, c, mk, he, hv, h0.below b⟩)
  obtain ⟨g, o, hka, hg, hcs⟩ := (ht.below h0.lo).kids.at 0 (by omega)
  obtain ⟨k0, k1, k2, k3, k4, k5, k6, k7, k8⟩ := hcs
  simp only [Nat.zero_mul, Nat.add_zero] at k0 k1 k2 k3 k4 k5 k6 k7 k8
  obtain ⟨x0, x1, x2, x3, x4, x5, x6, x7, x8⟩ := h0.bx
  simp only [Nat.zero_add] at x0 x1 x2 x3 x4 x5 x6 x7 x8
  rw [kk] at x0
  rw [hka, hkn] at x8
  obtain ⟨W, hW⟩ : ∃ W, W = wdW w (t []) := ⟨_, rfl⟩
  have HW : Hid (W = wdW w (t [])) := hW
  rw [← hW] at x0 x1 x2 x3 x4 x5 x6 x7 x8 kC k0 k1 k2 k3 k4 k5 k6 k7 k8
  have hm0b : ((t []).mx == 0) = false := by simpa using hm0
  clear h0 hW kk hK ht hg hka hkn
  generalize wrdF m (kid t 0) = rk at *
  generalize t [0] = dk at *
  generalize t [] = d at *
  have HM : Hid (¬ d.mx = 0 ∧ (0 ≤ d.mn ∧ d.mn ≤ 1000) ∧ (d.mx = -1 ∨ d.mn ≤ d.mx ∧ d.mx ≤ 1000)) := ⟨hm0, hmn, hmx⟩
  clear hm0 hmn hmx
  go_enter Tryz.func21, Tryz.ntmps21
  go_upto_region 2 with fail
  rw [show (((w.alloc (ndX d)).alloc (lX (.slice none 0 0) false)).alloc (.cells #[.string ⟨#[]⟩] 9)).alloc (lX (.slice (some ⟨w.heap.size + 1 + 1, 0, none⟩) 1 1) false) = W from HW.out.symm]
  go_wp2_with fail
  go_fit kC
  rintro e V2 ⟨ak, nk, ck, mk, rfl, HV2⟩
  clear kC k0 k1 k2 k3 k4 k5 k6 k7 k8 x0 x1 x2 x3 x4 x5 x6 x7 x8
  obtain ⟨V3, hV3⟩ : ∃ V3, V3 = V2.alloc (lX (.slice ak nk ck) mk) := ⟨_, rfl⟩
  have HV3 : Hid (V3 = V2.alloc (lX (.slice ak nk ck) mk)) := hV3
  obtain ⟨K, hKe⟩ : ∃ K, K = V2.heap.size := ⟨_, rfl⟩
  have hB3 : BxI w d (up (fun _ => none) K (some rk)) V3 := by
    rw [hV3, hKe]
    exact BxI.new ⟨HV2.out.2, fun B r e => by cases e⟩ HV2.out.1
  have HB3 : Hid (BxI w d (up (fun _ => none) K (some rk)) V3) := hB3
  have HRK : Hid (∀ V, Below V3.heap.size V3 V → RlV V (.slice ak nk ck) mk rk) := fun V bV => by
    have b23 : Below V2.heap.size V2 V3 := by rw [hV3]; exact (Below.refl _ V2).alloc (Nat.le_refl _) _
    exact (HV2.out.1.below b23).below bV
  have HKC : Hid (∀ V, Below V3.heap.size V3 V → V.cell? ⟨K, 0, none⟩ = some (.slice ak nk ck) ∧ V.cell? ⟨K, 1, none⟩ = some (.bool mk)) := fun V bV => by
    have e : V3.heap[K]? = some (lX (.slice ak nk ck) mk) := by rw [hV3, hKe]; exact heap_alloc_new V2 _
    have hz3 := (Array.getElem?_eq_some_iff.1 e).1
    obtain ⟨c0, c1, _, _⟩ := lx_cells ((bV.block _ hz3).trans e)
    exact ⟨c0, c1⟩
  have HK3 : Hid (K < V3.heap.size) := by unfold Hid; rw [hV3, hKe]; simp
  obtain ⟨q0, q1⟩ := HKC.out V3 (Below.refl _ _)
  have kB := blank_any (.slice ak nk ck) mk rk V3 (HRK.out V3 (Below.refl _ _))
  clear hV3 HV2 hB3
  go_upto_region 28 with fail
  rw [← hKe]
  rw [show V2.alloc (lX (.slice ak nk ck) mk) = V3 from HV3.out.symm]
  clear hKe
  go_wp2_with fail
  go_fit kB
  rintro e w4 ⟨rfl, b4⟩
  have B4 : Hid (Below V3.heap.size V3 w4) := b4
  obtain ⟨⟨x3, x4⟩, ⟨l0, l1⟩, y0, y1, z0, z1⟩ := (HB3.out.below b4).w0.cells
  obtain ⟨q0, q1⟩ := HKC.out w4 b4
  have kN := none_any (.slice ak nk ck) mk rk w4 (HRK.out w4 b4)
  have HFIN : Hid (∀ V, Below V3.heap.size V3 V → ∀ (a : Option Addr) (n c : Nat) (mm : Bool) (r : Sto), RlV V (.slice a n c) mm r → LsP w r (.returned (.agg #[.slice a n c, .bool mm])) ((V.setCell ⟨w.heap.size + 1, 0, none⟩ (.slice a n c)).setCell ⟨w.heap.size + 1, 1, none⟩ (.bool mm))) := fun V bV a n c mm r hr => (HB3.out.below bV).w0.fin hr
  have HBL : Hid (∀ V, Below V3.heap.size V3 V → RlV V (.slice (some ⟨w.heap.size + 1 + 1, 0, none⟩) 1 1) false (some [⟨#[]⟩])) := fun V bV => (HB3.out.below bV).w0.blank
  clear kB b4
  rcases grw_cases rk with ⟨g1, g2, g3⟩ | ⟨g1, g2, g3, g4⟩ | ⟨g2, g3, g4, g1⟩ | ⟨g2, g3, g4, g1⟩
  · have HE : Hid (repS rk d.mn d.mx = some [⟨#[]⟩]) := by
      unfold Hid repS
      rw [if_neg HM.out.1, if_pos g3, g2]
      split <;> rfl
    have HP : Hid _ := HFIN.out w4 B4.out _ _ _ _ _ (HBL.out w4 B4.out)
    rw [g1]
    clear g1 g2 g3 kN HFIN HBL HKC HRK hko
    go_wp2
    exact bodyPost_ret (v := .agg #[.slice (some ⟨w.heap.size + 1 + 1, 0, none⟩) 1 1, .bool false]) (by simp [results, Tryz.results21, go_sem, y0, y1]) rfl (by rw [HE.out]; exact HP.out)
  · rw [g1] at kN
    rw [g4]
    by_cases hmz : d.mn = 0
    · have HE : Hid (repS rk d.mn d.mx = some [⟨#[]⟩]) := by
        unfold Hid repS
        rw [if_neg HM.out.1, if_pos g3, if_pos hmz]
      have HF5 : Hid (∀ w5, Below w4.heap.size w4 w5 → (w5.cell? ⟨w.heap.size, 3, none⟩ = some (.int .i64 0)) ∧ _ ∧ _) := fun w5 b5 => by
        have b35 := B4.out.trans (b5.mono B4.out.size)
        have hc := (HB3.out.below b35).w0.cells
        rw [hmz] at hc
        exact ⟨hc.1.1, hc.2, HFIN.out w5 b35 _ _ _ _ _ (HBL.out w5 b35)⟩
      clear g1 g2 g3 g4 HFIN HBL HKC HRK hko hmz x3 x4 l0 l1 y0 y1 z0 z1
      go_wp2_with fail
      go_fit kN
      rintro e w5 ⟨rfl, b5⟩
      obtain ⟨x3, ⟨⟨l0, l1⟩, y0, y1, z0, z1⟩, hP⟩ := HF5.out w5 b5
      have HP : Hid _ := hP
      clear kN b5 HF5 hP
      go_wp2
      exact bodyPost_ret (v := .agg #[.slice (some ⟨w.heap.size + 1 + 1, 0, none⟩) 1 1, .bool false]) (by simp [results, Tryz.results21, go_sem, y0, y1]) rfl (by rw [HE.out]; exact HP.out)
    · have HE : Hid (repS rk d.mn d.mx = rk) := by
        unfold Hid repS
        rw [if_neg HM.out.1, if_pos g3, if_neg hmz]
      have hmzb : (d.mn == 0) = false := by simpa using hmz
      have HF5 : Hid (∀ w5, Below w4.heap.size w4 w5 → w5.cell? ⟨w.heap.size, 3, none⟩ = some (.int .i64 d.mn) ∧ (w5.cell? ⟨K, 0, none⟩ = some (.slice ak nk ck) ∧ w5.cell? ⟨K, 1, none⟩ = some (.bool mk)) ∧ (w5.cell? ⟨w.heap.size + 1, 0, none⟩ = some (.slice none 0 0) ∧ w5.cell? ⟨w.heap.size + 1, 1, none⟩ = some (.bool false) ∧ w5.frozen? ⟨w.heap.size + 1, 0, none⟩ = false ∧ w5.frozen? ⟨w.heap.size + 1, 1, none⟩ = false) ∧ (Calls Tryz.prog 45 #[.agg #[.slice ak nk ck, .bool mk]] w5 fun e w' => e = .returned (.bool true) ∧ Below w5.heap.size w5 w') ∧ LsP w rk (.returned (.agg #[.slice ak nk ck, .bool mk])) ((w5.setCell ⟨w.heap.size + 1, 0, none⟩ (.slice ak nk ck)).setCell ⟨w.heap.size + 1, 1, none⟩ (.bool mk))) := fun w5 b5 => by
        have b35 := B4.out.trans (b5.mono B4.out.size)
        have hc := (HB3.out.below b35).w0.cells
        have kN5 := none_any (.slice ak nk ck) mk rk w5 (HRK.out w5 b35)
        rw [g1] at kN5
        exact ⟨hc.1.1, HKC.out w5 b35, hc.2.2, kN5, HFIN.out w5 b35 _ _ _ _ _ (HRK.out w5 b35)⟩
      clear g1 g2 g3 g4 HFIN HBL HKC HRK hko hmz x3 x4 l0 l1 y0 y1 z0 z1
      go_wp2_with fail
      go_fit kN
      rintro e w5 ⟨rfl, b5⟩
      obtain ⟨x3, ⟨q0, q1⟩, _, kN5, _⟩ := HF5.out w5 b5
      have B5 : Hid (Below w4.heap.size w4 w5) := b5
      clear kN b5
      go_wp2_with fail
      go_fit kN5
      rintro e w6 ⟨rfl, b6⟩
      obtain ⟨_, ⟨q0, q1⟩, ⟨y0, y1, z0, z1⟩, _, hP⟩ := HF5.out w6 (B5.out.trans (b6.mono B5.out.size))
      have HP : Hid _ := hP
      clear kN5 b6 HF5 hP
      go_wp2
      exact bodyPost_ret (v := .agg #[.slice ak nk ck, .bool mk]) (by simp [results, Tryz.results21, go_sem, y0, y1]) rfl (by rw [HE.out]; exact HP.out)
  · rw [g4] 
    rw [g1] at kN
    have HE : Hid (repS rk d.mn d.mx = none) := by
      obtain ⟨h1, h2, h3⟩ := HM.out
      unfold Hid repS
      rw [if_neg h1, if_neg (by rw [g3]; simp)]
      split
      · rfl
      · rw [g2]
        exact pows_none _ _ (by omega)
    have HF5 : Hid (∀ w5, Below w4.heap.size w4 w5 → (w5.cell? ⟨w.heap.size, 3, none⟩ = some (.int .i64 d.mn) ∧ w5.cell? ⟨w.heap.size, 4, none⟩ = some (.int .i64 d.mx)) ∧ (w5.cell? ⟨K, 0, none⟩ = some (.slice ak nk ck) ∧ w5.cell? ⟨K, 1, none⟩ = some (.bool mk)) ∧ (w5.cell? ⟨w.heap.size + 1, 0, none⟩ = some (.slice none 0 0) ∧ w5.cell? ⟨w.heap.size + 1, 1, none⟩ = some (.bool false) ∧ w5.frozen? ⟨w.heap.size + 1, 0, none⟩ = false ∧ w5.frozen? ⟨w.heap.size + 1, 1, none⟩ = false) ∧ (Calls Tryz.prog 45 #[.agg #[.slice ak nk ck, .bool mk]] w5 fun e w' => e = .returned (.bool false) ∧ Below w5.heap.size w5 w') ∧ ∀ V, Below w5.heap.size w5 V → LsP w none (.returned (.agg #[.slice none 0 0, .bool true])) ((V.setCell ⟨w.heap.size + 1, 0, none⟩ (.slice none 0 0)).setCell ⟨w.heap.size + 1, 1, none⟩ (.bool true))) := fun w5 b5 => by
      have b35 := B4.out.trans (b5.mono B4.out.size)
      have hc := (HB3.out.below b35).w0.cells
      have kN5 := none_any (.slice ak nk ck) mk rk w5 (HRK.out w5 b35)
      rw [g1] at kN5
      have hk := HKC.out w5 b35
      exact ⟨hc.1, hk, hc.2.2, kN5, fun V bV => HFIN.out V (b35.trans (bV.mono b35.size)) _ _ _ _ _ (.inl ⟨rfl, rfl, rfl⟩)⟩
    have HMK : Hid (mk = true) := by
      rcases HRK.out w4 B4.out with ⟨_, h, _⟩ | ⟨L, _, _, e, _⟩
      · exact h
      · rw [g2] at e; cases e
    clear g1 g2 g3 g4 HFIN HBL HKC HRK hko x3 x4 l0 l1 y0 y1 z0 z1
    go_wp2_with fail
    go_fit kN
    rintro e w5 ⟨rfl, b5⟩
    obtain ⟨⟨x3, x4⟩, ⟨q0, q1⟩, _, kN5, _⟩ := HF5.out w5 b5
    have B5 : Hid (Below w4.heap.size w4 w5) := b5
    clear kN b5
    go_wp2_with fail
    go_fit kN5
    rintro e w6 ⟨rfl, b6⟩
    obtain ⟨⟨x3, x4⟩, ⟨q0, q1⟩, ⟨y0, y1, z0, z1⟩, _, hP⟩ := HF5.out w6 (B5.out.trans (b6.mono B5.out.size))
    have HP : Hid _ := hP
    rw [HMK.out] at q1
    clear kN5 b6 HF5 hP
    go_wp2
    exact bodyPost_ret (v := .agg #[.slice none 0 0, .bool true]) (by simp [results, Tryz.results21, go_sem, y0, y1]) rfl (by rw [HE.out]; exact HP.out _ (Below.refl _ _))
  · rcases hgr with h | h
    · exact absurd h g2
    · rw [g3] at h; cases h
end Go.Proofs.YtbciclnffokjjaaGreatDoor
