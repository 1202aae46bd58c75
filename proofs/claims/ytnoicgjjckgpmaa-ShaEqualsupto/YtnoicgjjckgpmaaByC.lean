/- A list lent: lend. -/
import Derived.Test.YtnoicgjjckgpmaaByB
namespace Go.Proofs.Ytnoicgjjckgpmaa
open Go.RowKit

theorem wp_copy_run {P : Program} {ops : Array Oper} {rest : List Oper} {o : Oper} {a : Act} {w w' : World} {v' : Value} {Q : Exit → Act → World → Prop} (hw : Region.wanted o (yielded ops a.tmps) = true) (s x : Operand) (t tx : TypeId)
    (ho : o.op = .call { callee := .builtin .copy, args := #[s, x], argTypes := #[t, tx] }) (vs vx : Value) (hs : a.eval s = vs) (hx : a.eval x = vx)
    (hr : (Builtin.copy_ #[t, tx] o.type #[vs, vx]).run P w = .ok v' w') (h : wpList P ops Q rest (a.put o.dst v') w') : wpList P ops Q (o :: rest) a w := by
  unfold wpList
  rw [if_pos hw]
  left
  unfold Oper.wp execOp
  simp only [ho, resolve, invoke, builtin, Sem.run_bind, Sem.run_pure, Result.andThen_ok, List.map_toArray, List.map_cons, List.map_nil, hs, hx, hr]
  exact h

/-- A block of bytes. -/
def Lies (w : World) (G : Nat) (xs : List Int) : Prop := w.heap[G]? = some (.cells (bc xs).toArray 5)
/-- A loan as a value. -/
abbrev ln (G n : Nat) : Value := .agg #[.slice (some ⟨G, 0, none⟩) (n + 200) (n + 200), .int .i64 n]

theorem Lies.below {w w' : World} {G : Nat} {xs : List Int} (h : Lies w G xs) (hb : Below w.heap.size w w') : Lies w' G xs :=
  (hb.block G (Array.getElem?_eq_some_iff.1 h).1).trans h
theorem Lies.lt {w : World} {G : Nat} {xs : List Int} (h : Lies w G xs) : G < w.heap.size := (Array.getElem?_eq_some_iff.1 h).1
theorem Lies.cell {w : World} {G : Nat} {xs : List Int} (h : Lies w G xs) (j : Nat) (hj : j < xs.length) : w.cell? ⟨G, j, none⟩ = some (.int .u8 (xs.getD j 0)) := by
  rw [cell_of_row w G j _ 5 (0, 0) h]
  simp [bc, List.getD, hj]
theorem Lies.froz {w : World} {G : Nat} {xs : List Int} (h : Lies w G xs) (j : Nat) : w.frozen? ⟨G, j, none⟩ = false := frozen_of_row w G j _ 5 h
theorem Lies.set {w : World} {G : Nat} {xs : List Int} (h : Lies w G xs) (j : Nat) (x : Int) : Lies (w.setCell ⟨G, j, none⟩ (.int .u8 x)) G (xs.set j x) := by
  unfold Lies
  rw [heap_setCell_same w G j _ 5 _ h]
  congr 2
  rw [List.setIfInBounds_toArray]
  simp [bc]
theorem Lies.im {w : World} {G : Nat} {xs : List Int} (h : Lies w G xs) (n : Nat) : Im w (some ⟨G, 0, none⟩) (xs.take n) :=
  .inr ⟨G, 0, rfl, h.lt, fun j hj => by
    rw [List.length_take] at hj
    rw [Nat.zero_add, h.cell j (by omega)]
    have e : (xs.take n).getD j 0 = xs.getD j 0 := by
      simp only [List.getD]
      rw [List.getElem?_take_of_lt (by omega)]
    rw [e]⟩

theorem lies_of_owns {w : World} {B G : Nat} {xs : List Int} (o : w.ownsRow B 5 1 (.slice (some ⟨G, 0, none⟩) xs.length xs.length) xs.length (bc xs)) : Lies w G xs := by
  rcases o.2 with ⟨h0, _⟩ | ⟨g, cap, cur, hv, hb, hg, hnc, hcm, hcs, htake⟩
  · simp at h0
  · simp only [Value.slice.injEq, Option.some.injEq, Addr.mk.injEq, and_true, true_and] at hv
    obtain ⟨rfl, rfl⟩ := hv
    rw [Nat.mul_one] at hcs htake
    have hcur : cur.toList = bc xs := by
      rw [← htake, List.take_of_length_le (by simp [hcs])]
    unfold Lies
    rw [hg, ← hcur]

/-- A list that came in copied to the head of a new row of noughts. -/
theorem copy_in (m : Nat) (w : World) (B G : Nat) (xs : List Int) (a : Option Addr) (c : Nat) (ty : TypeId) (h : Im w a xs) (hB : B ≤ G) (o : Lies w G (List.replicate (xs.length + m) 0)) :
    ∃ v w', (Builtin.copy_ #[24, 24] ty #[.slice (some ⟨G, 0, none⟩) (xs.length + m) (xs.length + m), .slice a xs.length c]).run Try.prog w = .ok v w' ∧
      Lies w' G (xs ++ List.replicate m 0) ∧ Below B w w' := by
  have hsz : (Try.prog.info? 5).map (·.size) = some 1 := by kernel_rfl
  rcases h with rfl | ⟨g, o', rfl, _, hc⟩
  · exact ⟨_, w, run_copy_none (P := Try.prog) w 24 24 ty 5 (some ⟨G, 0, none⟩) a _ _ _ c Try.underlying24 hsz (by simp), by simpa using o, Below.refl _ _⟩
  · have hr := run_copy_row (P := Try.prog) w 24 24 ty 5 G 0 (xs.length + m) (xs.length + m) ⟨g, o', none⟩ xs.length c _ 5 (bc xs) Try.underlying24 hsz o (by simp [bc]) (fun j u hj => by
      have hjl : j < xs.length := by have := (List.getElem?_eq_some_iff.1 hj).1; simpa [bc] using this
      rw [Go.WideShapes.add_plain, hc j hjl]
      simp only [bc, List.getElem?_map, List.getElem?_eq_getElem hjl, Option.map_some, Option.some.injEq] at hj
      rw [← hj]
      simp [List.getD, hjl]) (by simp [bc]) (bc_one xs)
    refine ⟨_, _, hr, ?_, below_setRow (Below.refl _ _) hB _⟩
    unfold Lies
    rw [setRow_heap w G _ _ 5 _ o]
    congr 2
    simp [bc]

/-- The room behind a list, filled up to a place. -/
def fl (xs : List Int) (k : Nat) : List Int := xs ++ (List.replicate k 90 ++ List.replicate (200 - k) 0)
theorem fl_len (xs : List Int) (k : Nat) (h : k ≤ 200) : (fl xs k).length = xs.length + 200 := by simp [fl]; omega
theorem set_mid2 {α : Type} (L R : List α) (x y : α) : (L ++ x :: R).set L.length y = L ++ y :: R := by
  rw [List.set_append_right _ _ (Nat.le_refl _), Nat.sub_self]; rfl
theorem fl_set (xs : List Int) (k : Nat) (h : k < 200) : (fl xs k).set (xs.length + k) 90 = fl xs (k + 1) := by
  obtain ⟨m, hm⟩ : ∃ m, 200 - k = m + 1 := ⟨200 - k - 1, by omega⟩
  have e1 : fl xs k = (xs ++ List.replicate k 90) ++ 0 :: List.replicate m 0 := by
    unfold fl
    rw [hm, List.replicate_succ]
    simp
  have e2 : fl xs (k + 1) = (xs ++ List.replicate k 90) ++ 90 :: List.replicate m 0 := by
    unfold fl
    rw [show 200 - (k + 1) = m by omega, List.replicate_succ']
    simp
  rw [e1, e2, show xs.length + k = (xs ++ List.replicate k (90 : Int)).length by simp]
  exact set_mid2 _ _ _ _

set_option maxHeartbeats 2000000 in
set_option maxRecDepth 100000 in
theorem lend_any (a : Option Addr) (c : Nat) (xs : List Int) (w : World) (h : Im w a xs) (hn : xs.length ≤ 16777216) :
    Calls Try.prog 6 #[.slice a xs.length c] w fun r w' => ∃ G, r = .returned (ln G xs.length) ∧ w.heap.size ≤ G ∧ Lies w' G (xs ++ List.replicate 200 90) ∧ Below w.heap.size w w' := by
  obtain ⟨i0, hi, hz0, hz1, hz2⟩ := info_parts info5
  have hb0 : Below w.heap.size w (w.alloc (.cells #[.slice none 0 0, .int .i64 0] 29)) := (Below.refl _ _).alloc (Nat.le_refl _) _
  obtain ⟨w2, r2, o2, g2⟩ := run_make_full (P := Try.prog) (w.alloc (.cells #[.slice none 0 0, .int .i64 0] 29)) (w.heap.size + 1) 24 5 i0 _ 1 Try.underlying24 hi hz0 hz1 .i64 .i64 (xs.length + 200) (by rw [hz2]; omega) (by unfold maxLen; omega) (by simp)
  have e : (madeCells (Value.int IntKind.u8 0).cells ((xs.length + 200) * 1)).toList = bc (List.replicate (xs.length + 200) 0) := by
    rw [Nat.mul_one]
    have := toList_madeCells_one (.int .u8 0) (xs.length + 200)
    simp only [bc, List.map_replicate]
    exact this
  have hsz : (w.alloc (.cells #[.slice none 0 0, .int .i64 0] 29)).heap.size = w.heap.size + 1 := by simp
  rw [e, hsz] at o2
  rw [hsz] at r2
  have hb2 : Below (w.heap.size + 1) (w.alloc (.cells #[.slice none 0 0, .int .i64 0] 29)) w2 := (Below.refl _ _).grown g2 (by rw [hsz]; exact Nat.le_refl _) (fun k hk => by cases hk)
  have l2 : Lies w2 (w.heap.size + 1) (List.replicate (xs.length + 200) 0) := by
    refine lies_of_owns (B := w.heap.size + 1) ?_
    rw [List.length_replicate]
    exact o2
  have hb2' := hb0.trans (hb2.mono (Nat.le_succ _))
  obtain ⟨v3, w3, r3, l3, b3⟩ := copy_in 200 w2 (w.heap.size + 1) (w.heap.size + 1) xs a c 3 (h.below hb2') (Nat.le_refl _) l2
  have hb3 : Below (w.heap.size + 1) (w.alloc (.cells #[.slice none 0 0, .int .i64 0] 29)) w3 := hb2.trans b3
  have r2' : (Instr.makeSlice 24 (.int .i64 ((xs.length : Int) + 200)) (.int .i64 ((xs.length : Int) + 200))).run Try.prog (w.alloc (.cells #[.slice none 0 0, .int .i64 0] 29)) = .ok (.slice (some ⟨w.heap.size + 1, 0, none⟩) (xs.length + 200) (xs.length + 200)) w2 := by
    rw [show ((xs.length : Int) + 200) = ((xs.length + 200 : Nat) : Int) by omega]
    exact r2
  have HL3 : Hid (Lies w3 (w.heap.size + 1) (fl xs 0)) := l3
  have HE : Hid (fl xs 200 = xs ++ List.replicate 200 90) := by show _ = _; simp [fl]
  have HS : Hid (∀ k, k < 200 → (fl xs k).set (xs.length + k) 90 = fl xs (k + 1)) := fl_set xs
  have HN : Hid (∀ k, k ≤ 200 → (fl xs k).length = xs.length + 200) := fl_len xs
  clear r2 o2 g2 l2 l3 hi hz0 hz1 hz2 e h b3 hb2 hb2' hsz
  rw [← HE.out]
  generalize fl xs = F at *
  generalize xs.length = n at *
  have hni : (n : Int) ≤ 16777216 := by omega
  go_enter Try.func6, Try.ntmps6
  go_wp2_with (first | (at_builtin; refine wp_copy_run rfl (.tmp 9) (.tmp 10) 24 24 rfl _ _ rfl rfl r3 ?_) | fail)
  clear r3 r2'
  go_loopw [4] (fun t w' => ∃ k J : Nat, t = .int .i64 (J : Int) ∧ Hid (J = n + k) ∧ k ≤ 200 ∧ Hid (Lies w' (w.heap.size + 1) (F k)) ∧ Below (w.heap.size + 1) (w.alloc (.cells #[.slice none 0 0, .int .i64 0] 29)) w') (fun t _ => n + 200 - (RowKit.intOf t).toNat)
  case atStart => exact ⟨0, n, rfl, rfl, by omega, HL3, hb3⟩
  case round =>
    obtain ⟨k, J, rfl, hJ, hk, ho, hbw⟩ := hrel
    have hJe := hJ.out
    by_cases hlt : k < 200
    · have hc := ho.out.cell J (by rw [HN.out k hk]; omega)
      have hf : wr.frozen? ⟨w.heap.size + 1, J, none⟩ = false := ho.out.froz J
      have HS1 : Hid (Lies (wr.setCell ⟨w.heap.size + 1, J, none⟩ (.int .u8 90)) (w.heap.size + 1) (F (k + 1))) := by
        have := ho.out.set J 90
        rw [hJe, HS.out k hlt, ← hJe] at this
        exact this
      have hJl : (J : Int) < (n : Int) + 200 := by omega
      have hJn : (J : Int) ≤ 16777500 := by omega
      clear hJe
      generalize (F k).getD J 0 = old at *
      go_wp2
      go_roundw
      case rel => exact ⟨k + 1, J + 1, by go_num, (by have := hJ.out; omega : _ = _), by omega, HS1, hbw.setCell (p := ⟨w.heap.size + 1, J, none⟩) (Nat.le_refl _) _⟩
      case measure => simp [RowKit.intOf]; have := hJ.out; omega
    · obtain rfl : k = 200 := by omega
      have hJl : ¬ (J : Int) < (n : Int) + 200 := by omega
      clear hJe
      have hB : wr.heap[w.heap.size]? = some (.cells #[.slice none 0 0, .int .i64 0] 29) := (hbw.block w.heap.size (by omega)).trans (heap_alloc_new w _)
      have c0 : wr.cell? ⟨w.heap.size, 0, none⟩ = some (.slice none 0 0) := by rw [cell_of_row wr _ 0 _ 29 (0, 0) hB]; rfl
      have c1 : wr.cell? ⟨w.heap.size, 1, none⟩ = some (.int .i64 0) := by rw [cell_of_row wr _ 1 _ 29 (0, 0) hB]; rfl
      have f0 : wr.frozen? ⟨w.heap.size, 0, none⟩ = false := frozen_of_row wr _ 0 _ 29 hB
      have f1 : wr.frozen? ⟨w.heap.size, 1, none⟩ = false := frozen_of_row wr _ 1 _ 29 hB
      have HBk : Hid (wr.heap[w.heap.size]? = some (.cells #[.slice none 0 0, .int .i64 0] 29)) := hB
      clear hB
      go_wp2
      refine bodyPost_ret (v := ln (w.heap.size + 1) n) ?_ rfl ⟨w.heap.size + 1, rfl, Nat.le_succ _, ?_, ?_⟩
      · simp [results, Try.results6, go_sem, c0, c1]
      · unfold Lies
        rw [heap_setCell_other _ _ _ _ (by simp), heap_setCell_other _ _ _ _ (by simp)]
        exact ho.out
      · exact ((hb0.trans (hbw.mono (Nat.le_succ _))).setCell (p := ⟨w.heap.size, 0, none⟩) (Nat.le_refl _) _).setCell (p := ⟨w.heap.size, 1, none⟩) (Nat.le_refl _) _

set_option maxHeartbeats 1000000 in
theorem in_any (G n : Nat) (w : World) (hn : n ≤ 16777216) :
    Calls Try.prog 7 #[ln G n] w fun r w' => r = .returned (.slice (some ⟨G, 0, none⟩) n (n + 200)) ∧ Below w.heap.size w w' := by
  have hni : (n : Int) ≤ 16777216 := by omega
  have hni' : (n : Int) ≤ (n : Int) + 200 := by omega
  go_enter Try.func7, Try.ntmps7
  go_wp2
  go_ret
  exact ⟨rfl, (Below.refl _ _).alloc (Nat.le_refl _) _⟩
end Go.Proofs.Ytnoicgjjckgpmaa
