/- The program's Pack. -/
import Derived.Test.YtljnllenpdkccaaUn
namespace Go.Proofs.Ytljnllenpdkccaa
open Go.RowKit

/-- What Pack answers: the payload (none beside an error), the error. -/
def pkL (x : Int) (p : ByteArray) : List Int := if 1024 < p.size then [] else eb (un x) 8 ++ nm p
def pkE (p : ByteArray) : Int := if 1024 < p.size then 1 else 0

/-- A block of bytes. -/
def Lies (w : World) (G : Nat) (xs : List Int) : Prop := w.heap[G]? = some (.cells (bc xs).toArray 5)
theorem Lies.below {w w' : World} {G : Nat} {xs : List Int} (h : Lies w G xs) (hb : Below w.heap.size w w') : Lies w' G xs :=
  (hb.block G (Array.getElem?_eq_some_iff.1 h).1).trans h
theorem Lies.lt {w : World} {G : Nat} {xs : List Int} (h : Lies w G xs) : G < w.heap.size := (Array.getElem?_eq_some_iff.1 h).1
theorem Lies.cell {w : World} {G : Nat} {xs : List Int} (h : Lies w G xs) (j : Nat) (hj : j < xs.length) : w.cell? ⟨G, j, none⟩ = some (.int .u8 (xs.getD j 0)) := by
  rw [cell_of_row w G j _ 5 (0, 0) h]
  simp [bc, List.getD, hj]
theorem Lies.froz {w : World} {G : Nat} {xs : List Int} (h : Lies w G xs) (j : Nat) : w.frozen? ⟨G, j, none⟩ = false := frozen_of_row w G j _ 5 h
theorem Lies.set {w : World} {G : Nat} {xs : List Int} (h : Lies w G xs) (j : Nat) (x : Int) : Lies (w.setCell ⟨G, j, none⟩ (.int .u8 x)) G (xs.set j x) := by
  unfold Lies
  rw [heap_setCell_same w G j _ 5 _ h]
  congr 2
  rw [List.setIfInBounds_toArray]
  simp [bc]
theorem Lies.im {w : World} {G : Nat} {xs : List Int} (h : Lies w G xs) (n : Nat) : Im w (some ⟨G, 0, none⟩) (xs.take n) :=
  .inr ⟨G, 0, rfl, h.lt, fun j hj => by
    rw [List.length_take] at hj
    rw [Nat.zero_add, h.cell j (by omega)]
    have e : (xs.take n).getD j 0 = xs.getD j 0 := by
      simp only [List.getD]
      rw [List.getElem?_take_of_lt (by omega)]
    rw [e]⟩

theorem lies_of_owns {w : World} {B G : Nat} {xs : List Int} (o : w.ownsRow B 5 1 (.slice (some ⟨G, 0, none⟩) xs.length xs.length) xs.length (bc xs)) : Lies w G xs := by
  rcases o.2 with ⟨h0, _⟩ | ⟨g, cap, cur, hv, hb, hg, hnc, hcm, hcs, htake⟩
  · simp at h0
  · simp only [Value.slice.injEq, Option.some.injEq, Addr.mk.injEq, and_true, true_and] at hv
    obtain ⟨rfl, rfl⟩ := hv
    rw [Nat.mul_one] at hcs htake
    have hcur : cur.toList = bc xs := by
      rw [← htake, List.take_of_length_le (by simp [hcs])]
    unfold Lies
    rw [hg, ← hcur]


theorem str_cells (s : ByteArray) : List.take s.size (List.map (fun b : UInt8 => Value.int IntKind.u8 (b.toNat : Int)) s.data.toList) = bc (nm s) := by
  rw [List.take_of_length_le (by simp)]
  simp [bc, nm]
/-- A text copied into a row. -/
theorem run_copy_text (w : World) (ty : TypeId) (g o dCap : Nat) (s : ByteArray) (cur : Array Value) (t : TypeId)
    (hg : w.heap[g]? = some (.cells cur t (0, 0))) (hfit : o + s.size ≤ cur.size) :
    (Builtin.copy_ #[24, 9] ty #[.slice (some ⟨g, o, none⟩) s.size dCap, .string s]).run Try.prog w =
      .ok (goInt s.size) (w.setRow g (cur.toList.take o ++ bc (nm s) ++ cur.toList.drop (o + s.size)).toArray) := by
  have hst := run_storeCells_at Try.prog g o t (bc (nm s)) 0 cur w hg (by simp [bc, nm_len]; omega) (bc_one _)
  rw [Nat.add_zero, bc_len, nm_len] at hst
  obtain ⟨i0, hi, hz0, hz1, hz2⟩ := info_parts info5
  have hm : Nat.min s.size s.size = s.size := Nat.min_self _
  simp [Builtin.copy_, run_underlying Try.underlying24, Builtin.lenOf, Builtin.firstCells, sizeOf, typeInfo, hi, hm]
  rw [str_cells, hst]
  simp

/-- Eight bytes copied to the head of a row of noughts. -/
theorem copy8 (w : World) (B G E m : Nat) (ys : List Int) (hy : ys.length = 8) (hB : B ≤ G) (o : Lies w G (List.replicate (8 + m) 0)) (hA : Ar w E ys) :
    ∃ w', (Builtin.copy_ #[24, 24] 3 #[.slice (some ⟨G, 0, none⟩) (8 + m) (8 + m), .slice (some ⟨E, 0, none⟩) 8 8]).run Try.prog w = .ok (.int .i64 8) w' ∧ Lies w' G (ys ++ List.replicate m 0) ∧ Below B w w' := by
  have hr := run_copy_row (P := Try.prog) w 24 24 3 5 G 0 (8 + m) (8 + m) ⟨E, 0, none⟩ 8 8 _ 5 (bc ys) Try.underlying24 sz5 o (by simp [bc, hy]) (fun j u hj => by
    have hj8 : j < ys.length := by have := (List.getElem?_eq_some_iff.1 hj).1; simpa [bc] using this
    rw [Go.WideShapes.add_plain, Nat.zero_add, hA.cell j hj8]
    simp only [bc, List.getElem?_map, List.getElem?_eq_getElem hj8, Option.map_some, Option.some.injEq] at hj
    rw [← hj]
    simp [List.getD, hj8]) (by simp [bc, hy]) (bc_one ys)
  rw [bc_len, hy] at hr
  refine ⟨_, hr, ?_, below_setRow (Below.refl _ _) hB _⟩
  unfold Lies
  rw [setRow_heap w G _ _ 5 _ o]
  congr 2
  simp [bc]
/-- A text copied behind them. -/
theorem copyT (w : World) (B G : Nat) (s : ByteArray) (ys : List Int) (hy : ys.length = 8) (hB : B ≤ G) (o : Lies w G (ys ++ List.replicate s.size 0)) :
    ∃ w', (Builtin.copy_ #[24, 9] 3 #[.slice (some ⟨G, 8, none⟩) s.size s.size, .string s]).run Try.prog w = .ok (.int .i64 (s.size : Int)) w' ∧ Lies w' G (ys ++ nm s) ∧ Below B w w' := by
  have hr := run_copy_text w 3 G 8 s.size s _ 5 o (by simp [bc, hy])
  refine ⟨_, hr, ?_, below_setRow (Below.refl _ _) hB _⟩
  unfold Lies
  rw [setRow_heap w G _ _ 5 _ o]
  congr 2
  simp [bc, hy]
theorem copyN (w : World) (G : Nat) (s : ByteArray) (h : s.size = 0) : (Builtin.copy_ #[24, 9] 3 #[.slice (some ⟨G, 0, none⟩) 0 0, .string s]).run Try.prog w = .ok (.int .i64 0) w := by
  obtain ⟨i0, hi, hz0, hz1, hz2⟩ := info_parts info5
  simp [Builtin.copy_, run_underlying Try.underlying24, Builtin.lenOf, Builtin.firstCells, sizeOf, typeInfo, hi, storeCells, h]
  rfl

/-- The first copy, behind expiryBytes. -/
theorem pack_mid {w w2 w3 : World} {x : Int} {p : ByteArray} {m : Nat} (y0 y1 y2 y3 y4 y5 y6 y7 : Int) (hB2 : w2.heap[w.heap.size]? = some (.cells #[.int .i64 x, .string p] 23)) (l2 : Lies w2 (w.heap.size + 1) (List.replicate (8 + m) 0)) (hb2 : Below w.heap.size w w2) (b3 : Below w2.heap.size w2 w3) :
    ∃ w5, (Builtin.copy_ #[24, 24] 3 #[.slice (some ⟨w.heap.size + 1, 0, none⟩) (8 + m) (8 + m), .slice (some ⟨w3.heap.size, 0, none⟩) 8 8]).run Try.prog (w3.alloc (.cells #[.int .u8 y0, .int .u8 y1, .int .u8 y2, .int .u8 y3, .int .u8 y4, .int .u8 y5, .int .u8 y6, .int .u8 y7] 43)) = .ok (.int .i64 8) w5 ∧
      Lies w5 (w.heap.size + 1) ([y0, y1, y2, y3, y4, y5, y6, y7] ++ List.replicate m 0) ∧ w5.cell? ⟨w.heap.size, 1, none⟩ = some (.string p) ∧ Below w.heap.size w w5 := by
  have hbl : Below w2.heap.size w2 (w3.alloc (.cells #[.int .u8 y0, .int .u8 y1, .int .u8 y2, .int .u8 y3, .int .u8 y4, .int .u8 y5, .int .u8 y6, .int .u8 y7] 43)) := b3.alloc b3.size _
  obtain ⟨w5, r5, l5, b5⟩ := copy8 (w3.alloc (.cells #[.int .u8 y0, .int .u8 y1, .int .u8 y2, .int .u8 y3, .int .u8 y4, .int .u8 y5, .int .u8 y6, .int .u8 y7] 43)) (w.heap.size + 1) (w.heap.size + 1) w3.heap.size m [y0, y1, y2, y3, y4, y5, y6, y7] rfl (Nat.le_refl _) (l2.below hbl) (heap_alloc_new w3 _)
  refine ⟨w5, r5, l5, ?_, ?_⟩
  · have h1 := (hbl.block w.heap.size (Array.getElem?_eq_some_iff.1 hB2).1).trans hB2
    have h2 := (b5.block w.heap.size (Nat.lt_succ_self _)).trans h1
    rw [cell_of_row w5 _ 1 _ 23 (0, 0) h2]; rfl
  · exact (hb2.trans (hbl.mono hb2.size)).trans (b5.mono (Nat.le_succ _))

set_option maxHeartbeats 2000000 in
set_option maxRecDepth 100000 in
theorem pack_any (x : Int) (p : ByteArray) (w : World) (hp : p.size ≤ 9223372036854775807) :
    Calls Try.prog 6 #[.agg #[.int .i64 x, .string p]] w fun r w' => ∃ av, r = .returned (.tuple #[.slice av (pkL x p).length (pkL x p).length, .int .i64 (pkE p)]) ∧ Im w' av (pkL x p) ∧ Below w.heap.size w w' := by
  have hpi : (p.size : Int) ≤ 9223372036854775807 := by omega
  have hW : Below w.heap.size w (w.alloc (.cells #[.int .i64 x, .string p] 23)) := (Below.refl _ _).alloc (Nat.le_refl _) _
  by_cases h0 : 1024 < p.size
  · have e1 : pkL x p = [] := if_pos h0
    have e2 : pkE p = 1 := if_pos h0
    rw [e1, e2]
    have h0' : (1024 : Int) < (p.size : Int) := by omega
    go_enter Try.func6, Try.ntmps6
    go_wp2
    go_ret2
    exact ⟨none, rfl, .inl rfl, hW⟩
  · have e1 : pkL x p = eb (un x) 8 ++ nm p := if_neg h0
    have e2 : pkE p = 0 := if_neg h0
    rw [e1, e2]
    have h0' : ¬ (1024 : Int) < (p.size : Int) := by omega
    have h0b : (p.size : Int) ≤ 1024 := by omega
    obtain ⟨i0, hi, hz0, hz1, hz2⟩ := info_parts info5
    obtain ⟨w2, r2, o2, g2⟩ := run_make_full (P := Try.prog) (w.alloc (.cells #[.int .i64 x, .string p] 23)) (w.heap.size + 1) 24 5 i0 _ 1 Try.underlying24 hi hz0 hz1 .i64 .i64 (8 + p.size) (by rw [hz2]; omega) (by unfold maxLen; omega) (by simp)
    have e : (madeCells (Value.int IntKind.u8 0).cells ((8 + p.size) * 1)).toList = bc (List.replicate (8 + p.size) 0) := by
      rw [Nat.mul_one]
      have := toList_madeCells_one (.int .u8 0) (8 + p.size)
      simp only [bc, List.map_replicate]
      exact this
    have hsz : (w.alloc (.cells #[.int .i64 x, .string p] 23)).heap.size = w.heap.size + 1 := by simp
    rw [e, hsz] at o2
    rw [hsz] at r2
    have l2 : Lies w2 (w.heap.size + 1) (List.replicate (8 + p.size) 0) := by
      refine lies_of_owns (B := w.heap.size + 1) ?_
      rw [List.length_replicate]
      exact o2
    have hb2 : Below (w.heap.size + 1) (w.alloc (.cells #[.int .i64 x, .string p] 23)) w2 := (Below.refl _ _).grown g2 (by rw [hsz]; exact Nat.le_refl _) (fun k hk => by cases hk)
    have r2' : (Instr.makeSlice 24 (.int .i64 (8 + (p.size : Int))) (.int .i64 (8 + (p.size : Int)))).run Try.prog (w.alloc (.cells #[.int .i64 x, .string p] 23)) = .ok (.slice (some ⟨w.heap.size + 1, 0, none⟩) (8 + p.size) (8 + p.size)) w2 := by
      rw [show (8 + (p.size : Int)) = ((8 + p.size : Nat) : Int) by omega]
      exact r2
    have hB2 : w2.heap[w.heap.size]? = some (.cells #[.int .i64 x, .string p] 23) := (hb2.block w.heap.size (by omega)).trans (heap_alloc_new w _)
    have k0 : w2.cell? ⟨w.heap.size, 0, none⟩ = some (.int .i64 x) := by rw [cell_of_row w2 _ 0 _ 23 (0, 0) hB2]; rfl
    have ke := expiryBytes_any x w2
    have HL2 : Hid _ := l2
    have HB2 : Hid _ := hB2
    have hlt2 : w.heap.size + 1 < w2.heap.size := l2.lt
    clear r2 o2 g2 hi hz0 hz1 hz2 e hsz l2 hB2
    generalize eb (un x) 8 = Y at *
    have hbb := hW.trans (hb2.mono (Nat.le_succ _))
    by_cases hp0 : p.size = 0
    · have r2z : (Instr.makeSlice 24 (.int .i64 8) (.int .i64 8)).run Try.prog (w.alloc (.cells #[.int .i64 x, .string p] 23)) = .ok (.slice (some ⟨w.heap.size + 1, 0, none⟩) 8 8) w2 := by
        have := r2'
        rw [hp0] at this
        exact this
      have HLz : Hid (Lies w2 (w.heap.size + 1) (List.replicate (8 + 0) 0)) := by rw [hp0] at HL2; exact HL2
      have cz := fun W => copyN W (w.heap.size + 1) p hp0
      have HNz : Hid (nm p = []) := List.eq_nil_of_length_eq_zero (by rw [nm_len]; exact hp0)
      clear r2' HL2
      go_enter Try.func6, Try.ntmps6
      go_wp2_with (go_at_call 15; go_fit ke; rintro x' w3 ⟨y0, y1, y2, y3, y4, y5, y6, y7, hY, rfl, b3⟩; obtain ⟨w5, r5, l5, k5, b5⟩ := pack_mid (m := 0) y0 y1 y2 y3 y4 y5 y6 y7 HB2.out HLz.out hbb b3; replace r5 : (Builtin.copy_ #[24, 24] 3 #[.slice (some ⟨w.heap.size + 1, 0, none⟩) 8 8, .slice (some ⟨w3.heap.size, 0, none⟩) 8 8]).run Try.prog (w3.alloc (.cells #[.int .u8 y0, .int .u8 y1, .int .u8 y2, .int .u8 y3, .int .u8 y4, .int .u8 y5, .int .u8 y6, .int .u8 y7] 43)) = .ok (.int .i64 8) w5 := r5)
      go_region_law (refine step_copy_run rfl (.tmp 24) (.tmp 26) 24 9 rfl _ _ rfl rfl (cz _) ?_)
      all_goals go_wp2
      all_goals go_ret2
      all_goals
        rw [hY, HNz.out]
        exact ⟨some ⟨w.heap.size + 1, 0, none⟩, rfl, l5.im 8, b5.drew⟩
    · have hp0' : (8 : Int) ≤ 8 + (p.size : Int) := by omega
      go_enter Try.func6, Try.ntmps6
      go_wp2_with (go_at_call 15; go_fit ke; rintro x' w3 ⟨y0, y1, y2, y3, y4, y5, y6, y7, hY, rfl, b3⟩; obtain ⟨w5, r5, l5, k5, b5⟩ := pack_mid y0 y1 y2 y3 y4 y5 y6 y7 HB2.out HL2.out hbb b3)
      obtain ⟨w6, r6, l6, b6⟩ := copyT w5.drew w.heap.size (w.heap.size + 1) p [y0, y1, y2, y3, y4, y5, y6, y7] rfl (Nat.le_succ _) l5
      go_region_law (refine step_copy_run rfl (.tmp 24) (.tmp 26) 24 9 rfl _ _ rfl rfl r6 ?_)
      all_goals go_wp2
      all_goals go_ret2
      all_goals
        rw [hY]
        have hl : ([y0, y1, y2, y3, y4, y5, y6, y7] ++ nm p).length = 8 + p.size := by rw [List.length_append, nm_len]; rfl
        have hi6 := l6.im (8 + p.size)
        rw [List.take_of_length_le (by rw [hl]; exact Nat.le_refl _)] at hi6
        exact ⟨some ⟨w.heap.size + 1, 0, none⟩, by rw [hl]; rfl, hi6, b5.drew.trans b6⟩
end Go.Proofs.Ytljnllenpdkccaa
