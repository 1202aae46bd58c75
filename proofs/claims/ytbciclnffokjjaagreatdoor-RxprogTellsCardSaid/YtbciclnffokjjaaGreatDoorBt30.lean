/- A bundle of texts. -/
import Derived.Test.YtbciclnffokjjaaGreatDoorBt29
/- The reference's lists of texts: then. -/
namespace Go.Proofs.YtbciclnffokjjaaGreatDoor
open Go.RowKit Go.Lib

/-- then under way: both lists in their boxes, what is put together in a box of its own. -/
structure ThI (w : World) (O : Nat) (r : Sto) (v1 v2 : Value) (w' : World) : Prop where
  b1 : w'.heap[w.heap.size]? = some (lX v1 false)
  b2 : w'.heap[w.heap.size + 1]? = some (lX v2 false)
  rs : w'.heap[w.heap.size + 1 + 1]? = some (lX (.slice none 0 0) false)
  ob : ∃ v m, w'.heap[O]? = some (lX v m) ∧ RlV w' v m r
  hO : w.heap.size + 1 + 1 < O
  lo : Below w.heap.size w w'
theorem ThI.next {w : World} {O : Nat} {r r' : Sto} {v1 v2 : Value} {w' w5 : World} (h : ThI w O r v1 v2 w') (b : Below w'.heap.size w' w5) {v' : Value} {m' : Bool} (hv : RlV w5 v' m' r') : ThI w O r' v1 v2 ((w5.setCell ⟨O, 0, none⟩ v').setCell ⟨O, 1, none⟩ (.bool m')) := by
  obtain ⟨v, m, hb1, hr1⟩ := h.ob
  obtain ⟨a, n, c, rfl⟩ := hr1.form
  have z1 := (Array.getElem?_eq_some_iff.1 hb1).1
  have hO := h.hO
  have k := two_kp w5 O v' (.bool m')
  have h5 : w5.heap[O]? = some (lX (.slice a n c) m) := (b.block _ (by omega)).trans hb1
  refine ⟨?_, ?_, ?_, ⟨v', m', heap_two h5, hv.box k (fun q hq => ⟨a, n, c, m, by have e : q = O := hq; rw [e]; exact h5⟩)⟩, hO, two_set (h.lo.trans (b.mono h.lo.size)) (by omega) _ _⟩
  · exact (k.block _ (by have := b.size; omega) (fun e => by have e' : w.heap.size = O := e; omega)).trans ((b.block _ (by omega)).trans h.b1)
  · exact (k.block _ (by have := b.size; omega) (fun e => by have e' : w.heap.size + 1 = O := e; omega)).trans ((b.block _ (by omega)).trans h.b2)
  · exact (k.block _ (by have := b.size; omega) (fun e => by have e' : w.heap.size + 1 + 1 = O := e; omega)).trans ((b.block _ (by omega)).trans h.rs)
theorem str_add (x y : ByteArray) (h : x.size + y.size ≤ 1000000000000) (V : World) : (Op.stringOp .add x y).run Tryz.prog V = .ok (.string (x ++ y)) V := by
  have hm : IntKind.i64.max = 9223372036854775807 := by decide
  unfold Op.stringOp
  dsimp only
  rw [if_neg (by rw [hm]; omega)]
  rfl
/-- What then has put together. -/
def thnS (L M : List ByteArray) (i j : Nat) : Sto := addsS (some []) (prdL (L.take i) M ++ (M.take j).map fun y => (L.getD i ⟨#[]⟩) ++ y)
theorem thn_ok (L M : List ByteArray) (i j : Nat) : (thnS L M i j).ok := addsS_ok nil_ok _
theorem adds_app (r : Sto) (L M : List ByteArray) : addsS r (L ++ M) = addsS (addsS r L) M := by unfold addsS; rw [List.foldl_append]
theorem thn_next {L M : List ByteArray} {i j : Nat} {x y : ByteArray} (hx : L[i]? = some x) (hy : M[j]? = some y) : thnS L M i (j + 1) = addS (thnS L M i j) (x ++ y) := by
  have e : L.getD i ⟨#[]⟩ = x := by rw [List.getD_eq_getElem?_getD, hx]; rfl
  unfold thnS
  rw [e, List.take_add_one, hy]
  show addsS _ (_ ++ List.map _ (_ ++ [y])) = _
  rw [List.map_append, ← List.append_assoc, adds_app _ _ (List.map _ [y])]
  rfl
theorem thn_row {L M : List ByteArray} {i : Nat} {x : ByteArray} (hx : L[i]? = some x) : thnS L M (i + 1) 0 = thnS L M i M.length := by
  have e : L.getD i ⟨#[]⟩ = x := by rw [List.getD_eq_getElem?_getD, hx]; rfl
  unfold thnS
  rw [e, List.take_length, prd_take L M i x hx]
  simp
theorem thn_end (L M : List ByteArray) : thnS L M L.length 0 = addsS (some []) (prdL L M) := by
  unfold thnS
  rw [List.take_length]
  simp
set_option maxHeartbeats 8000000 in
set_option maxRecDepth 100000 in
theorem then_any (v1 v2 : Value) (m1 m2 : Bool) (r1 r2 : Sto) (b1 b2 : Nat) (w : World) (h1 : RlV w v1 m1 r1) (h2 : RlV w v2 m2 r2) (hr1 : r1.ok) (hr2 : r2.ok) (hz1 : Szs r1 b1) (hz2 : Szs r2 b2) (hb : b1 + b2 ≤ 1000000000000) : Calls Tryz.prog 42 #[.agg #[v1, .bool m1], .agg #[v2, .bool m2]] w (LsP w (jnS r1 r2)) := by
  obtain ⟨W, hW⟩ : ∃ W, W = ((w.alloc (lX v1 m1)).alloc (lX v2 m2)).alloc (lX (.slice none 0 0) false) := ⟨_, rfl⟩
  have HW : Hid (W = ((w.alloc (lX v1 m1)).alloc (lX v2 m2)).alloc (lX (.slice none 0 0) false)) := hW
  have hb1 : Below w.heap.size w W := by rw [hW]; exact (((Below.refl _ w).alloc (Nat.le_refl _) _).alloc (by simp) _).alloc (by simp; omega) _
  have hx1 : W.heap[w.heap.size]? = some (lX v1 m1) := by rw [hW]; exact (Below.heap_alloc _ _ _ (by simp; omega)).trans ((Below.heap_alloc _ _ _ (by simp)).trans (heap_alloc_new w _))
  have hx2 : W.heap[w.heap.size + 1]? = some (lX v2 m2) := by
    rw [hW]
    have := heap_alloc_new (w.alloc (lX v1 m1)) (lX v2 m2)
    rw [World.size_alloc] at this
    exact (Below.heap_alloc _ _ _ (by simp)).trans this
  have hx3 : W.heap[w.heap.size + 1 + 1]? = some (lX (.slice none 0 0) false) := by
    rw [hW]
    have := heap_alloc_new ((w.alloc (lX v1 m1)).alloc (lX v2 m2)) (lX (.slice none 0 0) false)
    rw [World.size_alloc, World.size_alloc] at this
    exact this
  have hWz : W.heap.size = w.heap.size + 1 + 1 + 1 := by rw [hW]; simp
  have HBX : Hid (∀ V, Below W.heap.size W V → (V.cell? ⟨w.heap.size, 0, none⟩ = some v1 ∧ V.cell? ⟨w.heap.size, 1, none⟩ = some (.bool m1)) ∧ (V.cell? ⟨w.heap.size + 1, 0, none⟩ = some v2 ∧ V.cell? ⟨w.heap.size + 1, 1, none⟩ = some (.bool m2)) ∧ (V.cell? ⟨w.heap.size + 1 + 1, 0, none⟩ = some (.slice none 0 0) ∧ V.cell? ⟨w.heap.size + 1 + 1, 1, none⟩ = some (.bool false) ∧ V.frozen? ⟨w.heap.size + 1 + 1, 0, none⟩ = false ∧ V.frozen? ⟨w.heap.size + 1 + 1, 1, none⟩ = false) ∧ Below w.heap.size w V ∧ (Calls Tryz.prog 45 #[.agg #[v1, .bool m1]] V fun e w' => e = .returned (.bool (nonS r1)) ∧ Below V.heap.size V w') ∧ (Calls Tryz.prog 45 #[.agg #[v2, .bool m2]] V fun e w' => e = .returned (.bool (nonS r2)) ∧ Below V.heap.size V w')) := fun V bV => by
    have e1 := lx_cells ((bV.block _ (by omega)).trans hx1)
    have e2 := lx_cells ((bV.block _ (by omega)).trans hx2)
    have e3 := lx_cells ((bV.block _ (by omega)).trans hx3)
    have bw : Below w.heap.size w V := hb1.trans (bV.mono hb1.size)
    exact ⟨⟨e1.1, e1.2.1⟩, ⟨e2.1, e2.2.1⟩, e3, bw, none_any _ _ _ V (h1.below bw), none_any _ _ _ V (h2.below bw)⟩
  obtain ⟨⟨p0, p1⟩, ⟨q0, q1⟩, ⟨y0, y1, z0, z1⟩, _, kN1, _⟩ := HBX.out W (Below.refl _ _)
  obtain ⟨a1, n1, c1, rfl⟩ := h1.form
  obtain ⟨a2, n2, c2, rfl⟩ := h2.form
  by_cases hn : nonS r1 = true ∨ nonS r2 = true
  · have HE : Hid (jnS r1 r2 = some []) := by unfold Hid jnS; rw [if_pos hn]
    have HFIN : Hid (∀ V, Below W.heap.size W V → LsP w (jnS r1 r2) (.returned (.agg #[.slice none 0 0, .bool false])) ((V.setCell ⟨w.heap.size + 1 + 1, 0, none⟩ (.slice none 0 0)).setCell ⟨w.heap.size + 1 + 1, 1, none⟩ (.bool false))) := fun V bV => ⟨⟨_, _, rfl, by rw [HE.out]; exact .inr ⟨[], none, 0, rfl, rfl, rfl, .inl rfl⟩⟩, two_set (HBX.out V bV).2.2.2.1 (by omega) _ _⟩
    clear hx1 hx2 hx3 hb1 hW h1 h2 hr1 hr2 hz1 hz2 hb hWz y0 y1 z0 z1 q0 q1
    cases e1 : nonS r1 with
    | true =>
      rw [e1] at kN1
      clear hn e1
      go_enter Tryz.func42, Tryz.ntmps42
      go_upto_region 1 with fail
      rw [← HW.out]
      go_wp2_with fail
      go_fit kN1
      rintro e w1 ⟨rfl, b1⟩
      obtain ⟨_, _, ⟨y0, y1, z0, z1⟩, _, _, _⟩ := HBX.out w1 b1
      have HP : Hid _ := HFIN.out w1 b1
      clear kN1 b1 HFIN HBX
      go_wp2
      exact bodyPost_ret (v := .agg #[.slice none 0 0, .bool false]) (by simp [results, Tryz.results42, go_sem, y0, y1]) rfl HP.out
    | false =>
      have e2 : nonS r2 = true := hn.resolve_left (by rw [e1]; decide)
      rw [e1] at kN1
      clear hn e1
      go_enter Tryz.func42, Tryz.ntmps42
      go_upto_region 1 with fail
      rw [← HW.out]
      go_wp2_with fail
      go_fit kN1
      rintro e w1 ⟨rfl, b1⟩
      obtain ⟨_, ⟨q0, q1⟩, _, _, _, kN2⟩ := HBX.out w1 b1
      rw [e2] at kN2
      have B1 : Hid (Below W.heap.size W w1) := b1
      clear kN1 b1 e2
      go_wp2_with fail
      go_fit kN2
      rintro e w2 ⟨rfl, b2⟩
      have b12 := B1.out.trans (b2.mono B1.out.size)
      obtain ⟨_, _, ⟨y0, y1, z0, z1⟩, _, _, _⟩ := HBX.out w2 b12
      have HP : Hid _ := HFIN.out w2 b12
      clear kN2 b2 b12 HFIN HBX q0 q1 p0 p1
      go_wp2
      exact bodyPost_ret (v := .agg #[.slice none 0 0, .bool false]) (by simp [results, Tryz.results42, go_sem, y0, y1]) rfl HP.out
  · have e1 : nonS r1 = false := by cases e : nonS r1; rfl; exact absurd (.inl e) hn
    have e2 : nonS r2 = false := by cases e : nonS r2; rfl; exact absurd (.inr e) hn
    rw [e1] at kN1
    have hjn : jnS r1 r2 = r1.bind fun L => r2.bind fun M => addsS (some []) (prdL L M) := by unfold jnS; rw [if_neg hn]
    by_cases hm : m1 = true ∨ m2 = true
    · have HE : Hid (jnS r1 r2 = none) := by
        unfold Hid
        rw [hjn]
        rcases hm with e | e
        · rcases h1 with ⟨e1, _, _⟩ | ⟨L, _, _, _, e1, _⟩
          · rw [e1]; rfl
          · rw [e] at e1; cases e1
        · rcases h2 with ⟨e1, _, _⟩ | ⟨L, _, _, _, e1, _⟩
          · rw [e1]; cases r1 <;> rfl
          · rw [e] at e1; cases e1
      have HFIN : Hid (∀ V, Below W.heap.size W V → LsP w (jnS r1 r2) (.returned (.agg #[.slice none 0 0, .bool true])) ((V.setCell ⟨w.heap.size + 1 + 1, 0, none⟩ (.slice none 0 0)).setCell ⟨w.heap.size + 1 + 1, 1, none⟩ (.bool true))) := fun V bV => ⟨⟨_, _, rfl, .inl ⟨HE.out, rfl, rfl⟩⟩, two_set (HBX.out V bV).2.2.2.1 (by omega) _ _⟩
      clear hx1 hx2 hx3 hb1 hW h1 h2 hr1 hr2 hz1 hz2 hb hWz y0 y1 z0 z1 q0 q1 hn hjn
      go_enter Tryz.func42, Tryz.ntmps42
      go_upto_region 1 with fail
      rw [← HW.out]
      go_wp2_with fail
      go_fit kN1
      rintro e w1 ⟨rfl, b1⟩
      obtain ⟨_, ⟨q0, q1⟩, _, _, _, kN2⟩ := HBX.out w1 b1
      rw [e2] at kN2
      have B1 : Hid (Below W.heap.size W w1) := b1
      clear kN1 b1 e2 e1
      go_wp2_with fail
      go_fit kN2
      rintro e w2 ⟨rfl, b2⟩
      have b12 := B1.out.trans (b2.mono B1.out.size)
      obtain ⟨⟨p0, p1⟩, ⟨q0, q1⟩, ⟨y0, y1, z0, z1⟩, _, _, _⟩ := HBX.out w2 b12
      have HP : Hid _ := HFIN.out w2 b12
      clear kN2 b2 b12 HFIN HBX
      cases m1
      · obtain rfl : m2 = true := hm.resolve_left (by decide)
        clear hm
        go_wp2
        exact bodyPost_ret (v := .agg #[.slice none 0 0, .bool true]) (by simp [results, Tryz.results42, go_sem, y0, y1]) rfl HP.out
      · clear hm
        go_wp2
        exact bodyPost_ret (v := .agg #[.slice none 0 0, .bool true]) (by simp [results, Tryz.results42, go_sem, y0, y1]) rfl HP.out
    · obtain rfl : m1 = false := by cases m1; rfl; exact absurd (.inl rfl) hm
      obtain rfl : m2 = false := by cases m2; rfl; exact absurd (.inr rfl) hm
      rcases h1 with ⟨_, e, _⟩ | ⟨L, a1', c1', rfl, _, e', hL⟩
      · cases e
      cases e'
      rcases h2 with ⟨_, e, _⟩ | ⟨M, a2', c2', rfl, _, e', hM⟩
      · cases e
      cases e'
      have hl64 := (hr1 L rfl).2
      have hm64 := (hr2 M rfl).2
      have HE : Hid (jnS (some L) (some M) = addsS (some []) (prdL L M)) := hjn
      have HNEW : Hid (∀ V, Below W.heap.size W V → ThI w V.heap.size (thnS L M 0 0) (.slice a1 L.length c1) (.slice a2 M.length c2) (V.alloc (lX (.slice none 0 0) false))) := fun V bV => by
        have bA : Below V.heap.size V (V.alloc (lX (.slice none 0 0) false)) := (Below.refl _ V).alloc (Nat.le_refl _) _
        have zV := bV.size
        have bw := (HBX.out V bV).2.2.2.1
        refine ⟨(bA.block _ (by omega)).trans ((bV.block _ (by omega)).trans hx1), (bA.block _ (by omega)).trans ((bV.block _ (by omega)).trans hx2), (bA.block _ (by omega)).trans ((bV.block _ (by omega)).trans hx3), ⟨_, _, heap_alloc_new V _, ?_⟩, by omega, bw.trans (bA.mono bw.size)⟩
        have : thnS L M 0 0 = some [] := by unfold thnS; simp [prdL, addsS]
        rw [this]
        exact .inr ⟨[], none, 0, rfl, rfl, rfl, .inl rfl⟩
      have HST : Hid (∀ O i j x y w', ThI w O (thnS L M i j) (.slice a1 L.length c1) (.slice a2 M.length c2) w' → L[i]? = some x → M[j]? = some y → ∃ v m g o g2 o2, w'.heap[O]? = some (lX v m) ∧ a1 = some ⟨g, o, none⟩ ∧ a2 = some ⟨g2, o2, none⟩ ∧ w'.cell? ⟨g, o + i, none⟩ = some (.string x) ∧ w'.cell? ⟨g2, o2 + j, none⟩ = some (.string y) ∧ ((x.size + y.size : Nat) : Int) ≤ 1000000000000 ∧ ∀ V, Below w'.heap.size w' V → Calls Tryz.prog 64 #[.agg #[v, .bool m], .string (x ++ y)] V fun e w5 => (∃ a' n' c' m', e = .returned (.agg #[.slice a' n' c', .bool m']) ∧ Hid (ThI w O (thnS L M i (j + 1)) (.slice a1 L.length c1) (.slice a2 M.length c2) ((w5.setCell ⟨O, 0, none⟩ (.slice a' n' c')).setCell ⟨O, 1, none⟩ (.bool m')))) ∧ (∃ u, w5.cell? ⟨O, 0, none⟩ = some u) ∧ (∃ u, w5.cell? ⟨O, 1, none⟩ = some u) ∧ w5.frozen? ⟨O, 0, none⟩ = false ∧ w5.frozen? ⟨O, 1, none⟩ = false) := fun O i j x y w' h hx hy => by
        obtain ⟨v, m, hbo, hrl⟩ := h.ob
        have hi := (List.getElem?_eq_some_iff.1 hx).1
        have hj := (List.getElem?_eq_some_iff.1 hy).1
        rcases hL with h0 | ⟨g, o, e, hg, hc⟩
        · omega
        rcases hM with h0 | ⟨g2, o2, e2, hg2, hc2⟩
        · omega
        have s1 := hz1 L rfl x (List.mem_of_getElem? hx)
        have s2 := hz2 M rfl y (List.mem_of_getElem? hy)
        refine ⟨v, m, g, o, g2, o2, hbo, e, e2, (h.lo.cell (p := ⟨g, o + i, none⟩) hg).trans (hc i x hx), (h.lo.cell (p := ⟨g2, o2 + j, none⟩) hg2).trans (hc2 j y hy), by omega, fun V bV => ?_⟩
        refine (with_any v m _ (x ++ y) V (hrl.below bV) (thn_ok _ _ _ _)).mono ?_
        rintro e5 w5 ⟨⟨v', m', rfl, hv'⟩, b5⟩
        have b15 : Below w'.heap.size w' w5 := bV.trans (b5.mono bV.size)
        have hzz := (Array.getElem?_eq_some_iff.1 hbo).1
        obtain ⟨c0, c1, f0, f1⟩ := lx_cells ((b15.block _ hzz).trans hbo)
        rw [← thn_next hx hy] at hv'
        obtain ⟨a', n', c', rfl⟩ := hv'.form
        exact ⟨⟨a', n', c', m', rfl, h.next b15 hv'⟩, ⟨_, c0⟩, ⟨_, c1⟩, f0, f1⟩
      have HFIN : Hid (∀ O w', ThI w O (thnS L M L.length 0) (.slice a1 L.length c1) (.slice a2 M.length c2) w' → ∃ a' n' c' m, w'.heap[O]? = some (lX (.slice a' n' c') m) ∧ LsP w (jnS (some L) (some M)) (.returned (.agg #[.slice a' n' c', .bool m])) ((w'.setCell ⟨w.heap.size + 1 + 1, 0, none⟩ (.slice a' n' c')).setCell ⟨w.heap.size + 1 + 1, 1, none⟩ (.bool m))) := fun O w' h => by
        obtain ⟨v, m, hbo, hrl⟩ := h.ob
        rw [thn_end, ← HE.out] at hrl
        obtain ⟨a', n', c', rfl⟩ := hrl.form
        exact ⟨a', n', c', m, hbo, ⟨_, m, rfl, hrl.box (two_kp _ _ _ _) (fun b e => ⟨none, 0, 0, false, by have e' : b = w.heap.size + 1 + 1 := e; rw [e']; exact h.rs⟩)⟩, two_set h.lo (by omega) _ _⟩
      have hlI : (L.length : Int) ≤ 64 := by omega
      have hmI : (M.length : Int) ≤ 64 := by omega
      clear hx1 hx2 hx3 hb1 hW hr1 hr2 hz1 hz2 hb hWz y0 y1 z0 z1 q0 q1 hn hjn hL hM hm
      go_enter Tryz.func42, Tryz.ntmps42
      go_upto_region 1 with fail
      rw [← HW.out]
      go_wp2_with fail
      go_fit kN1
      rintro e w1 ⟨rfl, b1⟩
      obtain ⟨_, ⟨q0, q1⟩, _, _, _, kN2⟩ := HBX.out w1 b1
      rw [e2] at kN2
      have B1 : Hid (Below W.heap.size W w1) := b1
      clear kN1 b1 e2 e1
      go_wp2_with fail
      go_fit kN2
      rintro e w2 ⟨rfl, b2⟩
      have b12 := B1.out.trans (b2.mono B1.out.size)
      obtain ⟨⟨p0, p1⟩, ⟨q0, q1⟩, _, _, _, _⟩ := HBX.out w2 b12
      have HI0 : Hid _ := HNEW.out w2 b12
      clear kN2 b2 b12 HBX HNEW
      go_upto_region 6 with fail
      obtain ⟨O, hO⟩ : ∃ O, O = w2.heap.size := ⟨_, rfl⟩
      rw [← hO] at HI0 ⊢
      have HO : Hid (O = w2.heap.size) := hO
      clear hO p0 p1 q0 q1
      generalize w2.alloc (lX (.slice none 0 0) false) = V0 at *
      go_wp2_with fail
      go_loopw [6, 7] (fun ivv _ w' => ∃ i : Nat, ivv = .int .i64 (i : Int) ∧ i ≤ L.length ∧ Hid (ThI w O (thnS L M i 0) (.slice a1 L.length c1) (.slice a2 M.length c2) w')) (fun ivv _ _ => L.length - (RowKit.intOf ivv).toNat)
      case atStart => exact ⟨0, rfl, Nat.zero_le _, HI0⟩
      case round =>
        clear HI0
        obtain ⟨i, rfl, hi, hinv⟩ := hrel
        obtain ⟨p0, p1, _, _⟩ := lx_cells hinv.out.b1
        obtain ⟨y0, y1, z0, z1⟩ := lx_cells hinv.out.rs
        by_cases hlt : i < L.length
        · have hii : (i : Int) < L.length := by omega
          obtain ⟨x, hx⟩ : ∃ x, L[i]? = some x := ⟨_, List.getElem?_eq_getElem hlt⟩
          have HX : Hid (L[i]? = some x) := hx
          have HROW : Hid (thnS L M (i + 1) 0 = thnS L M i M.length) := thn_row hx
          obtain ⟨wo, hwo⟩ : ∃ wo, wo = wr := ⟨_, rfl⟩
          subst hwo
          clear hx y0 y1 z0 z1
          go_wp2_with fail
          go_loopw [7] (fun jv w' => ∃ j : Nat, jv = .int .i64 (j : Int) ∧ j ≤ M.length ∧ Hid (ThI w O (thnS L M i j) (.slice a1 L.length c1) (.slice a2 M.length c2) w')) (fun jv _ => M.length - (RowKit.intOf jv).toNat)
          case atStart => exact ⟨0, rfl, Nat.zero_le _, hinv⟩
          case round =>
            clear hinv p0 p1
            obtain ⟨j, rfl, hj, hin⟩ := hrel
            obtain ⟨p0, p1, _, _⟩ := lx_cells hin.out.b1
            obtain ⟨q0, q1, _, _⟩ := lx_cells hin.out.b2
            by_cases hlj : j < M.length
            · have hjj : (j : Int) < M.length := by omega
              obtain ⟨y, hy⟩ : ∃ y, M[j]? = some y := ⟨_, List.getElem?_eq_getElem hlj⟩
              obtain ⟨v, m, g, o, g2, o2, hbo, rfl, rfl, hcx, hcy, hsz, HC⟩ := HST.out O i j x y wr hin.out HX.out hy
              obtain ⟨r0, r1, _, _⟩ := lx_cells hbo
              have HC' : Hid _ := HC
              have hb0 : Below wr.heap.size wr wr := Below.refl _ _
              have hszn : ¬ (9223372036854775807 : Int) < (x.size : Int) + (y.size : Int) := by omega
              have hadd : ∀ V, (Op.stringOp .add x y).run Tryz.prog V = .ok (.string (x ++ y)) V := fun V => str_add x y (by omega) V
              clear HST HFIN hin hbo HC hy HX HROW hsz hszn
              go_wp2_with fail
              go_region_with (first | (go_at_call 64; go_fit (HC'.out _ hb0); rintro e w5 ⟨⟨a', n', c', m', rfl, HN⟩, ⟨u0, k0⟩, ⟨u1, k1⟩, f0, f1⟩) | (go_at_call 64; go_fit (HC'.out _ hb0.drew); rintro e w5 ⟨⟨a', n', c', m', rfl, HN⟩, ⟨u0, k0⟩, ⟨u1, k1⟩, f0, f1⟩))
              all_goals
                go_wp2
                exact ⟨⟨j + 1, by go_num, by omega, HN⟩, by simp [RowKit.intOf]; omega⟩
            · have hjj : ¬ (j : Int) < M.length := by omega
              obtain rfl : j = M.length := by omega
              have HN : Hid (ThI w O (thnS L M (i + 1) 0) (.slice a1 L.length c1) (.slice a2 M.length c2) wr) := by
                unfold Hid
                rw [HROW.out]
                exact hin.out
              clear HST HFIN hin HX HROW
              go_wp2
              exact ⟨⟨i + 1, by go_num, by omega, HN⟩, by simp [RowKit.intOf]; omega⟩
        · have hii : ¬ (i : Int) < L.length := by omega
          obtain rfl : i = L.length := by omega
          obtain ⟨a', n', c', m, hbo, hP⟩ := HFIN.out O wr hinv.out
          obtain ⟨r0, r1, _, _⟩ := lx_cells hbo
          have HP : Hid _ := hP
          clear HST HFIN hinv hbo hP
          go_wp2
          exact bodyPost_ret (v := .agg #[.slice a' n' c', .bool m]) (by simp [results, Tryz.results42, go_sem, y0, y1]) rfl HP.out
end Go.Proofs.YtbciclnffokjjaaGreatDoor
