/- The program's parts. -/
import Derived.Test.YtljnllenpdkccaaXb
namespace Go.Proofs.Ytljnllenpdkccaa
open Go.RowKit

/-- A copy whose run is known; at a step of a region that draws. -/
theorem wp_copy_run {P : Program} {ops : Array Oper} {rest : List Oper} {o : Oper} {a : Act} {w w' : World} {v' : Value} {Q : Exit → Act → World → Prop} (hw : Region.wanted o (yielded ops a.tmps) = true) (s x : Operand) (t tx : TypeId)
    (ho : o.op = .call { callee := .builtin .copy, args := #[s, x], argTypes := #[t, tx] }) (vs vx : Value) (hs : a.eval s = vs) (hx : a.eval x = vx)
    (hr : (Builtin.copy_ #[t, tx] o.type #[vs, vx]).run P w = .ok v' w') (h : wpList P ops Q rest (a.put o.dst v') w') : wpList P ops Q (o :: rest) a w := by
  unfold wpList
  rw [if_pos hw]
  left
  unfold Oper.wp execOp
  simp only [ho, resolve, invoke, builtin, Sem.run_bind, Sem.run_pure, Result.andThen_ok, List.map_toArray, List.map_cons, List.map_nil, hs, hx, hr]
  exact h
theorem step_copy_run {P : Program} {ops : Array Oper} {o : Oper} {a : Act} {w w' : World} {v' : Value} {K : Act → World → Prop} {Q : Exit → Act → World → Prop} {E : Prop} (hgd : o.guard = none) (s x : Operand) (t tx : TypeId)
    (ho : o.op = .call { callee := .builtin .copy, args := #[s, x], argTypes := #[t, tx] }) (vs vx : Value) (hs : a.eval s = vs) (hx : a.eval x = vx)
    (hr : (Builtin.copy_ #[t, tx] o.type #[vs, vx]).run P w = .ok v' w') (h : K (a.put o.dst v') w') : if Region.wanted o (yielded ops a.tmps) = true then Oper.wp P o a w K Q else E := by
  have hw : Region.wanted o (yielded ops a.tmps) = true := by simp [Region.wanted, hgd]
  rw [if_pos hw]
  unfold Oper.wp execOp
  simp only [ho, resolve, invoke, builtin, Sem.run_bind, Sem.run_pure, Result.andThen_ok, List.map_toArray, List.map_cons, List.map_nil, hs, hx, hr]
  exact h
theorem sz5 : (Try.prog.info? 5).map (·.size) = some 1 := by kernel_rfl

set_option maxHeartbeats 2000000 in
set_option maxRecDepth 100000 in
theorem parts_any (a : Option Addr) (c : Nat) (xs : List Int) (w : World) (hI : Im w a xs) (hl : 8 ≤ xs.length) (hc : xs.length ≤ c) (hcb : c ≤ 9223372036854775807) :
    Calls Try.prog 16 #[.slice a xs.length c] w fun r w' => ∃ y0 y1 y2 y3 y4 y5 y6 y7 a', xs.take 8 = [y0, y1, y2, y3, y4, y5, y6, y7] ∧
      r = .returned (.tuple #[.agg #[.int .u8 y0, .int .u8 y1, .int .u8 y2, .int .u8 y3, .int .u8 y4, .int .u8 y5, .int .u8 y6, .int .u8 y7], .slice a' (xs.length - 8) (xs.length - 8)]) ∧ Im w' a' (xs.drop 8) ∧ Below w.heap.size w w' := by
  obtain ⟨g, o, rfl, hg, hat⟩ : ∃ g o, a = some ⟨g, o, none⟩ ∧ g < w.heap.size ∧ At w g o xs := by
    rcases hI with h1 | h1
    · rw [h1] at hl; simp at hl
    · exact h1
  obtain ⟨y0, y1, y2, y3, y4, y5, y6, y7, hy⟩ := eight (xs.take 8) (by simp; omega)
  have r3 := run_copy_row (P := Try.prog) (w.alloc (.cells #[.int .u8 0, .int .u8 0, .int .u8 0, .int .u8 0, .int .u8 0, .int .u8 0, .int .u8 0, .int .u8 0] 43)).drew 24 24 3 5 w.heap.size 0 8 8 ⟨g, o, none⟩ 8 8 _ 43 (bc [y0, y1, y2, y3, y4, y5, y6, y7]) Try.underlying24 sz5 (heap_alloc_new w _) (by simp [bc]) (fun j u hj => by
    have hj8 : j < 8 := by have := (List.getElem?_eq_some_iff.1 hj).1; simpa [bc] using this
    have h1 := hat j (by omega)
    rw [← hy] at hj
    simp only [bc, List.getElem?_map, List.getElem?_take_of_lt hj8, List.getElem?_eq_getElem (show j < xs.length by omega), Option.map_some, Option.some.injEq] at hj
    rw [Go.WideShapes.add_plain]
    have h2 : (w.alloc (.cells #[.int .u8 0, .int .u8 0, .int .u8 0, .int .u8 0, .int .u8 0, .int .u8 0, .int .u8 0, .int .u8 0] 43)).drew.cell? ⟨g, o + j, none⟩ = w.cell? ⟨g, o + j, none⟩ :=
      (((Below.refl w.heap.size w).alloc (Nat.le_refl _) _).drew).cell (p := ⟨g, o + j, none⟩) hg
    rw [h2, h1, ← hj]
    simp [List.getD, List.getElem?_eq_getElem (show j < xs.length by omega)]) (by simp [bc]) (bc_one _)
  obtain ⟨w3, r3', A3, b3⟩ : ∃ w3, (Builtin.copy_ #[24, 24] 3 #[.slice (some ⟨w.heap.size, 0, none⟩) 8 8, .slice (some ⟨g, o, none⟩) 8 8]).run Try.prog (w.alloc (.cells #[.int .u8 0, .int .u8 0, .int .u8 0, .int .u8 0, .int .u8 0, .int .u8 0, .int .u8 0, .int .u8 0] 43)).drew = .ok (.int .i64 8) w3 ∧ Ar w3 w.heap.size [y0, y1, y2, y3, y4, y5, y6, y7] ∧ Below w.heap.size w w3 := by
    refine ⟨_, r3, ?_, ?_⟩
    · unfold Ar
      refine (setRow_heap (w.alloc _).drew w.heap.size _ _ 43 (0, 0) (heap_alloc_new w _)).trans ?_
      simp [bc]
    · exact below_setRow (((Below.refl w.heap.size w).alloc (Nat.le_refl _) _).drew) (Nat.le_refl _) _
  clear r3
  have c0 := A3.cell 0 (by simp)
  have c1 := A3.cell 1 (by simp)
  have c2 := A3.cell 2 (by simp)
  have c3 := A3.cell 3 (by simp)
  have c4 := A3.cell 4 (by simp)
  have c5 := A3.cell 5 (by simp)
  have c6 := A3.cell 6 (by simp)
  have c7 := A3.cell 7 (by simp)
  have f0 := A3.froz
  simp only [List.getD, List.getElem?_cons_zero, List.getElem?_cons_succ, Option.getD_some] at c0 c1 c2 c3 c4 c5 c6 c7
  have hni : (8 : Int) ≤ (xs.length : Int) := by omega
  have hci : (xs.length : Int) ≤ (c : Int) := by omega
  have hcb' : (c : Int) ≤ 9223372036854775807 := by omega
  have hc8 : (8 : Int) ≤ (c : Int) := by omega
  have HIm : Hid (∀ w', Below w.heap.size w w' → ∀ a', (8 < xs.length → a' = some ⟨g, o + 8, none⟩) → Im w' a' (xs.drop 8)) := fun w' hb a' ha => by
    by_cases h8 : xs.length = 8
    · exact .inl (List.drop_eq_nil_of_le (by omega))
    · right
      refine ⟨g, o + 8, ha (by omega), Nat.lt_of_lt_of_le hg hb.size, fun j hj => ?_⟩
      rw [List.length_drop] at hj
      have h1 := hat (8 + j) (by omega)
      rw [Nat.add_assoc, (hb.cell (p := ⟨g, o + (8 + j), none⟩) hg), h1]
      congr 2
      simp [List.getD]
  have hb9 := ((((((((b3.setCell (p := ⟨w.heap.size, 0, none⟩) (Nat.le_refl _) (.int .u8 y0)).setCell (p := ⟨w.heap.size, 1, none⟩) (Nat.le_refl _) (.int .u8 y1)).setCell (p := ⟨w.heap.size, 2, none⟩) (Nat.le_refl _) (.int .u8 y2)).setCell (p := ⟨w.heap.size, 3, none⟩) (Nat.le_refl _) (.int .u8 y3)).setCell (p := ⟨w.heap.size, 4, none⟩) (Nat.le_refl _) (.int .u8 y4)).setCell (p := ⟨w.heap.size, 5, none⟩) (Nat.le_refl _) (.int .u8 y5)).setCell (p := ⟨w.heap.size, 6, none⟩) (Nat.le_refl _) (.int .u8 y6)).setCell (p := ⟨w.heap.size, 7, none⟩) (Nat.le_refl _) (.int .u8 y7)).drew
  clear hat hI A3
  generalize xs.length = n at *
  by_cases hn8 : n = 8
  · subst hn8
    go_enter Try.func16, Try.ntmps16
    go_wp2
    go_region_law (refine step_copy_run rfl (.tmp 4) (.tmp 6) 24 24 rfl _ _ rfl rfl r3' ?_)
    go_wp2
    go_region
    go_wp2
    refine bodyPost_ret (v := .tuple #[.agg #[.int .u8 y0, .int .u8 y1, .int .u8 y2, .int .u8 y3, .int .u8 y4, .int .u8 y5, .int .u8 y6, .int .u8 y7], .slice (some ⟨g, o, none⟩) 0 0]) (by simp [results, Try.results16, go_sem, c0, c1, c2, c3, c4, c5, c6, c7]) rfl ⟨y0, y1, y2, y3, y4, y5, y6, y7, _, hy, rfl, HIm.out _ hb9 _ ?_, hb9⟩
    intro h8
    omega
  · have hn8' : (8 : Int) < (n : Int) := by omega
    have hne : n ≠ 8 := hn8
    go_enter Try.func16, Try.ntmps16
    go_wp2
    go_region_law (refine step_copy_run rfl (.tmp 4) (.tmp 6) 24 24 rfl _ _ rfl rfl r3' ?_)
    go_wp2
    go_region
    go_wp2
    refine bodyPost_ret (v := .tuple #[.agg #[.int .u8 y0, .int .u8 y1, .int .u8 y2, .int .u8 y3, .int .u8 y4, .int .u8 y5, .int .u8 y6, .int .u8 y7], .slice (some ⟨g, o + 8, none⟩) (n - 8) (n - 8)]) (by simp [results, Try.results16, go_sem, c0, c1, c2, c3, c4, c5, c6, c7]) rfl ⟨y0, y1, y2, y3, y4, y5, y6, y7, _, hy, rfl, HIm.out _ hb9 _ ?_, hb9⟩
    intro h8
    rfl
end Go.Proofs.Ytljnllenpdkccaa
