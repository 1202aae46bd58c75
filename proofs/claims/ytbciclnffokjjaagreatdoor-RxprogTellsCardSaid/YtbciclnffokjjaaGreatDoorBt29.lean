/- A bundle of texts. -/
import Derived.Test.YtbciclnffokjjaaGreatDoorBt28
/- The reference's lists of texts: none, blank, and. -/
namespace Go.Proofs.YtbciclnffokjjaaGreatDoor
open Go.RowKit Go.Lib

theorem RlV.form {w : World} {v : Value} {m : Bool} {r : Sto} (h : RlV w v m r) : ∃ a n c, v = .slice a n c := by
  rcases h with ⟨_, _, e⟩ | ⟨L, a, c, _, _, e, _⟩
  · exact ⟨_, _, _, e⟩
  · exact ⟨_, _, _, e⟩
/-- A list is none of the boxes. -/
theorem RlV.box {w w' : World} {M : Nat → Prop} {v : Value} {m : Bool} {r : Sto} (h : RlV w v m r) (k : Kp M w w') (hM : ∀ b, M b → ∃ a n c q, w.heap[b]? = some (lX (.slice a n c) q)) : RlV w' v m r := by
  rcases h with h | ⟨L, a, c, h1, h2, h3, h4⟩
  · exact .inl h
  · refine .inr ⟨L, a, c, h1, h2, h3, ?_⟩
    by_cases h0 : L.length = 0
    · exact .inl h0
    · rcases h4 with h4 | ⟨g, o, e, hg, hc⟩
      · exact absurd h4 h0
      · have nM : ¬ M g := fun hm => by
          obtain ⟨a', n', c', q, hb⟩ := hM g hm
          obtain ⟨x, hx⟩ : ∃ x, L[0]? = some x := ⟨_, List.getElem?_eq_getElem (by omega)⟩
          have := hc 0 x hx
          unfold World.cell? at this
          dsimp only at this
          rw [hb] at this
          have h5 : (#[Value.slice a' n' c', Value.bool q])[o + 0]? = some (.string x) := this
          rcases Nat.lt_or_ge o 2 with ho | ho
          · have : o = 0 ∨ o = 1 := by omega
            rcases this with rfl | rfl
            · cases h5
            · cases h5
          · rw [Array.getElem?_eq_none (by simp; omega)] at h5
            cases h5
        exact .inr ⟨g, o, e, Nat.lt_of_lt_of_le hg k.size, fun j x hj => k.cell (hc j x hj) nM⟩
theorem adds_none (L : List ByteArray) : addsS none L = none := by
  unfold addsS
  induction L with
  | nil => rfl
  | cons x L ih => exact ih
set_option maxHeartbeats 1000000 in
set_option maxRecDepth 100000 in
theorem none_any (v : Value) (m : Bool) (r : Sto) (w : World) (hv : RlV w v m r) : Calls Tryz.prog 45 #[.agg #[v, .bool m]] w fun e w' => e = .returned (.bool (nonS r)) ∧ Below w.heap.size w w' := by
  have HB : Hid (Below w.heap.size w (w.alloc (lX v m))) := (Below.refl _ w).alloc (Nat.le_refl _) _
  rcases hv with ⟨rfl, rfl, rfl⟩ | ⟨L, a, c, rfl, rfl, rfl, _⟩
  · go_enter Tryz.func45, Tryz.ntmps45
    go_wp2
    go_ret
    exact ⟨rfl, HB.out⟩
  · cases L with
    | nil =>
      go_enter Tryz.func45, Tryz.ntmps45
      go_wp2
      go_ret
      exact ⟨rfl, HB.out⟩
    | cons x L =>
      have hne : (((x :: L).length : Int) == 0) = false := by simp; omega
      generalize (x :: L).length = n at *
      go_enter Tryz.func45, Tryz.ntmps45
      go_wp2
      go_ret
      exact ⟨rfl, HB.out⟩
/-- Is it just the empty text? -/
def blkS (r : Sto) : Bool := match r with
  | some [x] => x.toList.isEmpty
  | _ => false
set_option maxHeartbeats 1000000 in
set_option maxRecDepth 100000 in
theorem blank_any (v : Value) (m : Bool) (r : Sto) (w : World) (hv : RlV w v m r) : Calls Tryz.prog 44 #[.agg #[v, .bool m]] w fun e w' => e = .returned (.bool (blkS r)) ∧ Below w.heap.size w w' := by
  have HB : Hid (Below w.heap.size w (w.alloc (lX v m))) := (Below.refl _ w).alloc (Nat.le_refl _) _
  rcases hv with ⟨rfl, rfl, rfl⟩ | ⟨L, a, c, rfl, rfl, rfl, hL⟩
  · go_enter Tryz.func44, Tryz.ntmps44
    go_wp2
    go_ret
    exact ⟨rfl, HB.out⟩
  · match L, hL with
    | [], _ =>
      go_enter Tryz.func44, Tryz.ntmps44
      go_wp2
      go_ret
      exact ⟨rfl, HB.out⟩
    | [x], hL =>
      rcases hL with h0 | ⟨g, o, rfl, hg, hc⟩
      · cases h0
      · have h1 : (w.alloc (lX (.slice (some ⟨g, o, none⟩) [x].length c) false)).cell? ⟨g, o, none⟩ = some (.string x) := (HB.out.cell (p := ⟨g, o, none⟩) hg).trans (hc 0 x rfl)
        have HX : Hid (blkS (some [x]) = x.toList.isEmpty) := rfl
        clear hc hg
        rw [HX.out]
        rw [List.length_singleton] at h1 HB ⊢
        go_enter Tryz.func44, Tryz.ntmps44
        go_wp2
        go_ret
        exact ⟨rfl, HB.out⟩
    | x :: y :: L, _ =>
      have hne : (((x :: y :: L).length : Int) == 1) = false := by simp; omega
      generalize (x :: y :: L).length = n at *
      go_enter Tryz.func44, Tryz.ntmps44
      go_wp2
      go_ret
      exact ⟨rfl, HB.out⟩
/-- Two boxes and a result under way; the first holds the list that grows. -/
structure AnI (w : World) (r : Sto) (v2 : Value) (w' : World) : Prop where
  b1 : ∃ v m, w'.heap[w.heap.size]? = some (lX v m) ∧ RlV w' v m r
  b2 : w'.heap[w.heap.size + 1]? = some (lX v2 false)
  rs : w'.heap[w.heap.size + 1 + 1]? = some (lX (.slice none 0 0) false)
  lo : Below w.heap.size w w'
theorem heap_two {w : World} {g : Nat} {u1 u2 v1 : Value} {q : Bool} (h : w.heap[g]? = some (.cells #[u1, u2] 41)) : ((w.setCell ⟨g, 0, none⟩ v1).setCell ⟨g, 1, none⟩ (.bool q)).heap[g]? = some (lX v1 q) := by simp [World.setCell, Array.getElem?_modify, h]
theorem AnI.next {w : World} {r r' : Sto} {v2 : Value} {w' w5 : World} (h : AnI w r v2 w') (b : Below w'.heap.size w' w5) {v' : Value} {m' : Bool} (hv : RlV w5 v' m' r') : AnI w r' v2 ((w5.setCell ⟨w.heap.size, 0, none⟩ v').setCell ⟨w.heap.size, 1, none⟩ (.bool m')) := by
  obtain ⟨v, m, hb1, hr1⟩ := h.b1
  obtain ⟨a, n, c, rfl⟩ := hr1.form
  have z1 := (Array.getElem?_eq_some_iff.1 h.rs).1
  have k := two_kp w5 w.heap.size v' (.bool m')
  have h5 : w5.heap[w.heap.size]? = some (lX (.slice a n c) m) := (b.block _ (by omega)).trans hb1
  have zb := b.size
  refine ⟨⟨v', m', heap_two h5, hv.box k (fun q hq => ⟨a, n, c, m, by have e : q = w.heap.size := hq; rw [e]; exact h5⟩)⟩, ?_, ?_, ?_⟩
  · exact (k.block _ (by omega) (fun e => by have e' : w.heap.size + 1 = w.heap.size := e; omega)).trans ((b.block _ (by omega)).trans h.b2)
  · exact (k.block _ (by omega) (fun e => by have e' : w.heap.size + 1 + 1 = w.heap.size := e; omega)).trans ((b.block _ (by omega)).trans h.rs)
  · exact two_set (h.lo.trans (b.mono h.lo.size)) (Nat.le_refl _) _ _
set_option maxHeartbeats 4000000 in
set_option maxRecDepth 100000 in
theorem and_any (v1 v2 : Value) (m1 m2 : Bool) (r1 r2 : Sto) (w : World) (h1 : RlV w v1 m1 r1) (h2 : RlV w v2 m2 r2) (hr : r1.ok) (hr2 : r2.ok) : Calls Tryz.prog 43 #[.agg #[v1, .bool m1], .agg #[v2, .bool m2]] w (LsP w (allS r1 r2)) := by
  obtain ⟨W, hW⟩ : ∃ W, W = ((w.alloc (lX v1 m1)).alloc (lX v2 m2)).alloc (lX (.slice none 0 0) false) := ⟨_, rfl⟩
  have HW : Hid (W = ((w.alloc (lX v1 m1)).alloc (lX v2 m2)).alloc (lX (.slice none 0 0) false)) := hW
  have hb1 : Below w.heap.size w W := by rw [hW]; exact (((Below.refl _ w).alloc (Nat.le_refl _) _).alloc (by simp) _).alloc (by simp; omega) _
  have hx1 : W.heap[w.heap.size]? = some (lX v1 m1) := by rw [hW]; exact (Below.heap_alloc _ _ _ (by simp; omega)).trans ((Below.heap_alloc _ _ _ (by simp)).trans (heap_alloc_new w _))
  have hx2 : W.heap[w.heap.size + 1]? = some (lX v2 m2) := by
    rw [hW]
    have := heap_alloc_new (w.alloc (lX v1 m1)) (lX v2 m2)
    rw [World.size_alloc] at this
    exact (Below.heap_alloc _ _ _ (by simp)).trans this
  have hx3 : W.heap[w.heap.size + 1 + 1]? = some (lX (.slice none 0 0) false) := by
    rw [hW]
    have := heap_alloc_new ((w.alloc (lX v1 m1)).alloc (lX v2 m2)) (lX (.slice none 0 0) false)
    rw [World.size_alloc, World.size_alloc] at this
    exact this
  obtain ⟨p0, p1, _, _⟩ := lx_cells hx1
  obtain ⟨q0, q1, _, _⟩ := lx_cells hx2
  obtain ⟨y0, y1, z0, z1⟩ := lx_cells hx3
  have HB : Hid (Below w.heap.size w W) := hb1
  by_cases hm : m1 = true ∨ m2 = true
  · have HE : Hid (allS r1 r2 = none) := by
      rcases hm with e | e
      · rcases h1 with ⟨e1, _, _⟩ | ⟨L, _, _, _, e1, _⟩
        · rw [e1]
          cases r2 with
          | none => rfl
          | some L => exact adds_none L
        · rw [e] at e1; cases e1
      · rcases h2 with ⟨e1, _, _⟩ | ⟨L, _, _, _, e1, _⟩
        · rw [e1]; rfl
        · rw [e] at e1; cases e1
    clear hx1 hx2 hx3 hb1 hW h1 h2 hr hr2
    cases m1
    · obtain rfl : m2 = true := hm.resolve_left (by decide)
      clear hm
      go_enter Tryz.func43, Tryz.ntmps43
      go_upto_region 1 with fail
      rw [← HW.out]
      go_wp2
      exact bodyPost_ret (v := .agg #[.slice none 0 0, .bool true]) (by simp [results, Tryz.results43, go_sem, y0, y1]) rfl ⟨⟨_, _, rfl, .inl ⟨HE.out, rfl, rfl⟩⟩, two_set HB.out (by omega) _ _⟩
    · clear hm
      go_enter Tryz.func43, Tryz.ntmps43
      go_upto_region 1 with fail
      rw [← HW.out]
      go_wp2
      exact bodyPost_ret (v := .agg #[.slice none 0 0, .bool true]) (by simp [results, Tryz.results43, go_sem, y0, y1]) rfl ⟨⟨_, _, rfl, .inl ⟨HE.out, rfl, rfl⟩⟩, two_set HB.out (by omega) _ _⟩
  · obtain rfl : m1 = false := by cases m1; rfl; exact absurd (.inl rfl) hm
    obtain rfl : m2 = false := by cases m2; rfl; exact absurd (.inr rfl) hm
    rcases h2 with ⟨_, e, _⟩ | ⟨L, a, c, rfl, _, rfl, hL⟩
    · cases e
    have HI0 : Hid (AnI w (addsS r1 (L.take 0)) (.slice a L.length c) W) := ⟨⟨v1, false, hx1, h1.below hb1⟩, hx2, hx3, hb1⟩
    have hl64 := (hr2 L rfl).2
    have HST : Hid (∀ i y w', AnI w (addsS r1 (L.take i)) (.slice a L.length c) w' → L[i]? = some y → ∃ v m g o, w'.heap[w.heap.size]? = some (lX v m) ∧ a = some ⟨g, o, none⟩ ∧ w'.cell? ⟨g, o + i, none⟩ = some (.string y) ∧ ∀ V, Below w'.heap.size w' V → Calls Tryz.prog 64 #[.agg #[v, .bool m], .string y] V fun e w5 => (∃ a' n' c' m', e = .returned (.agg #[.slice a' n' c', .bool m']) ∧ Hid (AnI w (addsS r1 (L.take (i + 1))) (.slice a L.length c) ((w5.setCell ⟨w.heap.size, 0, none⟩ (.slice a' n' c')).setCell ⟨w.heap.size, 1, none⟩ (.bool m')))) ∧ (∃ u, w5.cell? ⟨w.heap.size, 0, none⟩ = some u) ∧ (∃ u, w5.cell? ⟨w.heap.size, 1, none⟩ = some u) ∧ w5.frozen? ⟨w.heap.size, 0, none⟩ = false ∧ w5.frozen? ⟨w.heap.size, 1, none⟩ = false) := fun i y w' h hy => by
      obtain ⟨v, m, hb, hrl⟩ := h.b1
      have hi := (List.getElem?_eq_some_iff.1 hy).1
      rcases hL with h0 | ⟨g, o, e, hg, hc⟩
      · omega
      · refine ⟨v, m, g, o, hb, e, (h.lo.cell (p := ⟨g, o + i, none⟩) hg).trans (hc i y hy), fun V bV => ?_⟩
        refine (with_any v m _ y V (hrl.below bV) (addsS_ok hr _)).mono ?_
        rintro e5 w5 ⟨⟨v', m', rfl, hv'⟩, b5⟩
        have b15 : Below w'.heap.size w' w5 := bV.trans (b5.mono bV.size)
        have et : addsS r1 (L.take (i + 1)) = addS (addsS r1 (L.take i)) y := by
          rw [List.take_add_one, hy]
          unfold addsS
          rw [List.foldl_append]
          rfl
        have hz := (Array.getElem?_eq_some_iff.1 hb).1
        obtain ⟨c0, c1, f0, f1⟩ := lx_cells ((b15.block _ hz).trans hb)
        obtain ⟨a', n', c', rfl⟩ := hv'.form
        exact ⟨⟨a', n', c', m', rfl, by rw [et]; exact h.next b15 hv'⟩, ⟨_, c0⟩, ⟨_, c1⟩, f0, f1⟩
    have HFIN : Hid (∀ w', AnI w (addsS r1 (L.take L.length)) (.slice a L.length c) w' → ∃ a' n' c' m, w'.heap[w.heap.size]? = some (lX (.slice a' n' c') m) ∧ LsP w (allS r1 (some L)) (.returned (.agg #[.slice a' n' c', .bool m])) ((w'.setCell ⟨w.heap.size + 1 + 1, 0, none⟩ (.slice a' n' c')).setCell ⟨w.heap.size + 1 + 1, 1, none⟩ (.bool m))) := fun w' h => by
      obtain ⟨v, m, hb, hrl⟩ := h.b1
      rw [List.take_length] at hrl
      obtain ⟨a', n', c', rfl⟩ := hrl.form
      exact ⟨a', n', c', m, hb, ⟨_, m, rfl, hrl.box (two_kp _ _ _ _) (fun b e => ⟨none, 0, 0, false, by have e' : b = w.heap.size + 1 + 1 := e; rw [e']; exact h.rs⟩)⟩, two_set h.lo (by omega) _ _⟩
    have hlI : (L.length : Int) ≤ 64 := by omega
    clear hx1 hx2 hx3 hb1 hW h1 hr hr2 hL hm
    go_enter Tryz.func43, Tryz.ntmps43
    go_upto_region 1 with fail
    rw [← HW.out]
    go_wp2_with fail
    go_loopw [5] (fun ivv w' => ∃ i : Nat, ivv = .int .i64 (i : Int) ∧ i ≤ L.length ∧ Hid (AnI w (addsS r1 (L.take i)) (.slice a L.length c) w')) (fun ivv _ => L.length - (RowKit.intOf ivv).toNat)
    case atStart => exact ⟨0, rfl, Nat.zero_le _, HI0⟩
    case round =>
      clear p0 p1 q0 q1 y0 y1 z0 z1 HI0
      obtain ⟨i, rfl, hi, hinv⟩ := hrel
      obtain ⟨q0, q1, _, _⟩ := lx_cells hinv.out.b2
      obtain ⟨y0, y1, z0, z1⟩ := lx_cells hinv.out.rs
      by_cases hlt : i < L.length
      · have hii : (i : Int) < L.length := by omega
        obtain ⟨y, hy⟩ : ∃ y, L[i]? = some y := ⟨_, List.getElem?_eq_getElem hlt⟩
        obtain ⟨v, m, g, o, hb, rfl, hcy, HC⟩ := HST.out i y wr hinv.out hy
        obtain ⟨p0, p1, _, _⟩ := lx_cells hb
        have HC' : Hid _ := HC
        have hb0 : Below wr.heap.size wr wr := Below.refl _ _
        clear HST HFIN hinv hb HC hy y0 y1 z0 z1
        go_wp2_with fail
        go_region_with (first | (go_at_call 64; go_fit (HC'.out _ hb0); rintro e w5 ⟨⟨a', n', c', m', rfl, HN⟩, ⟨u0, k0⟩, ⟨u1, k1⟩, f0, f1⟩) | (go_at_call 64; go_fit (HC'.out _ hb0.drew); rintro e w5 ⟨⟨a', n', c', m', rfl, HN⟩, ⟨u0, k0⟩, ⟨u1, k1⟩, f0, f1⟩))
        all_goals
          go_wp2
          exact ⟨⟨i + 1, by go_num, by omega, HN⟩, by simp [RowKit.intOf]; omega⟩
      · have hii : ¬ (i : Int) < L.length := by omega
        obtain rfl : i = L.length := by omega
        obtain ⟨a', n', c', m, hb, hP⟩ := HFIN.out wr hinv.out
        obtain ⟨p0, p1, _, _⟩ := lx_cells hb
        have HP : Hid _ := hP
        clear HST HFIN hinv hb hP
        go_wp2
        exact bodyPost_ret (v := .agg #[.slice a' n' c', .bool m]) (by simp [results, Tryz.results43, go_sem, y0, y1]) rfl HP.out
end Go.Proofs.YtbciclnffokjjaaGreatDoor
