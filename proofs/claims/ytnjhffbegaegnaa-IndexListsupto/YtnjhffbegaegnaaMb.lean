/- Rows of whole numbers in memory. -/
import Derived.Test.YtnjhffbegaegnaaRows
import Derived.WalkKit
import Derived.WalkSpells
import Derived.WalkLawsBesides
import Derived.Below
import Derived.Deep.DeepFit
import Derived.OwnWalk
import Derived.Laws.CopyOwn
import Derived.Laws.IdiomCopy
import Derived.Laws.Closers25b
import Derived.Maps.AppendAt
import Derived.Deep.QuietTactic
import Derived.BigQuiet
import Derived.BigRegion
import Derived.Laws.OwnMore
import Derived.Laws.MakeOwn
import Derived.Laws.AppendOwn
import Derived.Deep.RegionLaw
import Derived.Deep.RegionHeld3
import Derived.Lib.QuietBelow
namespace Go.Proofs.Ytnjhffbegaegnaa
open Go.RowKit

def zc (l : List Int) : List Value := l.map (Value.int .i64)
theorem zc_len (l : List Int) : (zc l).length = l.length := by simp [zc]
theorem zc_app (l m : List Int) : zc (l ++ m) = zc l ++ zc m := by simp [zc]
theorem info3 : (Try.prog.info? 3).map (fun i => (i.zero, i.size, i.bytes)) = some (some (.int .i64 0), 1, 8) := by kernel_rfl

/-- What a slice shows. -/
def Zm (w : World) (a : Option Addr) (zs : List Int) : Prop := zs = [] ∨ ∃ g o, a = some ⟨g, o, none⟩ ∧ g < w.heap.size ∧ ∀ j, j < zs.length → w.cell? ⟨g, o + j, none⟩ = some (.int .i64 (zs.getD j 0))
theorem Zm.below {w w' : World} {a : Option Addr} {xs : List Int} (h : Zm w a xs) (hb : Below w.heap.size w w') : Zm w' a xs := by
  rcases h with h | ⟨g, o, ha, hg, hc⟩
  · exact .inl h
  · exact .inr ⟨g, o, ha, Nat.lt_of_lt_of_le hg hb.size, fun j hj => (hb.cell (p := ⟨g, o + j, none⟩) hg).trans (hc j hj)⟩
theorem Zm.drew {w : World} {a : Option Addr} {xs : List Int} (h : Zm w a xs) (k : Nat) : Zm (w.drewN k) a xs := h
theorem Zm.at {w : World} {a : Option Addr} {xs : List Int} (h : Zm w a xs) {i : Nat} (hi : i < xs.length) : ∃ g o, a = some ⟨g, o, none⟩ ∧ g < w.heap.size ∧ ∀ j, j < xs.length → w.cell? ⟨g, o + j, none⟩ = some (.int .i64 (xs.getD j 0)) := by
  rcases h with h | h
  · rw [h] at hi; simp at hi
  · exact h

/-- A row of the call's own. -/
def Zr (w : World) (S : Nat) (v : Value) (ys : List Int) : Prop := w.ownsRow S 3 1 v ys.length (zc ys)
theorem Zr.nil (w : World) (S : Nat) : Zr w S (.slice none 0 0) [] := World.ownsRow_nil w S 3 1
theorem Zr.drew {w : World} {S : Nat} {v : Value} {ys : List Int} (h : Zr w S v ys) (k : Nat) : Zr (w.drewN k) S v ys := h
theorem Zr.below {w w' : World} {S : Nat} {v : Value} {ys : List Int} (h : Zr w S v ys) (hb : Below w.heap.size w w') : Zr w' S v ys := by
  refine ⟨h.1, ?_⟩
  rcases h.2 with h0 | ⟨g, cap, cur, hv, hB, hg, r⟩
  · exact .inl h0
  · exact .inr ⟨g, cap, cur, hv, hB, (hb.block g (Array.getElem?_eq_some_iff.1 hg).1).trans hg, r⟩
theorem Zr.mono {w : World} {S S' : Nat} {v : Value} {ys : List Int} (h : Zr w S v ys) (hS : S' ≤ S) : Zr w S' v ys := by
  refine ⟨h.1, ?_⟩
  rcases h.2 with h0 | ⟨g, cap, cur, hv, hB, r⟩
  · exact .inl h0
  · exact .inr ⟨g, cap, cur, hv, Nat.le_trans hS hB, r⟩
/-- .. as a slice. -/
theorem Zr.zm {w : World} {S : Nat} {v : Value} {ys : List Int} (h : Zr w S v ys) : ∃ a c, v = .slice a ys.length c ∧ Zm w a ys := by
  have hc := fun g => h.cells (g := g)
  rcases h.2 with ⟨rfl, h0⟩ | ⟨g, c, cur, rfl, _, hg, _⟩
  · have hl : ys = [] := List.eq_nil_of_length_eq_zero h0
    subst hl
    exact ⟨none, 0, rfl, .inl rfl⟩
  · refine ⟨_, c, rfl, .inr ⟨g, 0, rfl, (Array.getElem?_eq_some_iff.1 hg).1, fun j hj => ?_⟩⟩
    have := hc g rfl j (.int .i64 (ys.getD j 0)) (by simp [zc, List.getD, hj])
    rw [Go.WideShapes.add_plain] at this
    exact this

theorem append_z (w : World) (S : Nat) (v : Value) (ys : List Int) (x : Int) (hS : S ≤ w.heap.size) (hn : (ys.length + 1) * 8 ≤ 140737488355328) (o : Zr w S v ys) :
    ∃ v' w', (Builtin.append_ #[22, 22] 22 #[v, .slice (some ⟨w.heap.size, 0, none⟩) 1 1]).run Try.prog (w.alloc (.cells #[.int .i64 x] 3)) = .ok v' w' ∧ Zr w' S v' (ys ++ [x]) ∧ Below S w w' := by
  obtain ⟨i0, hi, hz0, hz1, hz2⟩ := info_parts info3
  have o0 := World.ownsRow.alloc o (.cells #[.int .i64 x] 3)
  obtain ⟨v', w', r, o', g, _⟩ := run_append_own (P := Try.prog) (w.alloc (.cells #[.int .i64 x] 3)) S 22 22 3 i0 (.int .i64 0) 1 8 Try.underlying22 hi hz0 hz1 hz2 rfl (by decide) _ ys.length (zc ys) o0 ⟨w.heap.size, 0, none⟩ 1 1 [.int .i64 x] (by simp)
    (fun j u hj => by
      rw [Go.WideShapes.add_plain]
      unfold World.cell?
      rw [show (w.alloc (.cells #[.int .i64 x] 3)).heap[w.heap.size]? = some (.cells #[.int .i64 x] 3) from heap_alloc_new w _]
      simpa using hj) (by intro u hu; simp at hu; subst hu; rfl) (by unfold maxLen; omega) hn (by simp; omega)
  refine ⟨v', w', r, ?_, ?_⟩
  · unfold Zr
    rw [List.length_append, zc_app]; exact o'
  · exact ((Below.refl S w).alloc hS _).grown g (by simp; omega) (fun k hk => (World.ownsRow.lt o k hk).1)

theorem append_none {P : Program} (w : World) (S : Nat) (t ty e : TypeId) (i : TypeInfo) (size : Nat) (ht : P.underlying t = some (.slice e)) (hi : P.info? e = some i) (v : Value) (n c : Nat) (xs : List Value) (hown : w.ownsRow S e size v n xs) :
    (Builtin.append_ #[t, t] ty #[v, .slice none 0 c]).run P w = .ok v w := by
  rcases hown.2 with ⟨rfl, rfl⟩ | ⟨g, cap, cur, rfl, _, _, hnc, _⟩
  · simp [Builtin.append_, run_underlying ht, sizeOf, typeInfo, hi, Builtin.lenOf, Builtin.firstCells]
  · simp [Builtin.append_, run_underlying ht, sizeOf, typeInfo, hi, Builtin.lenOf, Builtin.firstCells, hnc, storeCells]
theorem zc_one (l : List Int) : ∀ u ∈ zc l, u.oneCell' = true := by
  intro u hu
  obtain ⟨x, _, rfl⟩ := List.mem_map.1 hu
  rfl
theorem Zm.cells {w : World} {x : Addr} {xs : List Int} (h : Zm w (some x) xs) : ∀ j u, (zc xs)[j]? = some u → w.cell? (x.add j) = some u := by
  intro j u hj
  have hjl : j < xs.length := by
    have := (List.getElem?_eq_some_iff.1 hj).1
    simpa [zc] using this
  rcases h with h | ⟨g, o, ha, hg, hc⟩
  · rw [h] at hjl; simp at hjl
  · cases ha
    rw [Go.WideShapes.add_plain, hc j hjl]
    simpa [zc, List.getD, hjl] using hj
/-- A row behind which another slice's numbers are laid. -/
theorem append_zs (w : World) (S : Nat) (v : Value) (ys xs : List Int) (a : Option Addr) (c : Nat) (hS : S ≤ w.heap.size) (hn : (ys.length + xs.length) * 8 ≤ 140737488355328) (o : Zr w S v ys) (hx : Zm w a xs) :
    ∃ v' w', (Builtin.append_ #[22, 22] 22 #[v, .slice a xs.length c]).run Try.prog w = .ok v' w' ∧ Zr w' S v' (ys ++ xs) ∧ Below S w w' := by
  obtain ⟨i0, hi, hz0, hz1, hz2⟩ := info_parts info3
  cases a with
  | none =>
    have h0 : xs = [] := by
      rcases hx with h | ⟨g, o, ha, _⟩
      · exact h
      · cases ha
    subst h0
    exact ⟨v, w, append_none w S 22 22 3 i0 1 Try.underlying22 hi v ys.length c (zc ys) o, by rw [List.append_nil]; exact o, Below.refl _ _⟩
  | some x =>
    obtain ⟨v', w', r, o', g, _⟩ := run_append_own (P := Try.prog) w S 22 22 3 i0 (.int .i64 0) 1 8 Try.underlying22 hi hz0 hz1 hz2 rfl (by decide) v ys.length (zc ys) o x xs.length c (zc xs) (by simp [zc])
      hx.cells (zc_one xs) (by unfold maxLen; omega) hn hS
    refine ⟨v', w', r, ?_, (Below.refl S w).grown g hS (fun k hk => (World.ownsRow.lt o k hk).1)⟩
    unfold Zr
    rw [List.length_append, zc_app]; exact o'

theorem wpList_append_run {P : Program} {ops : Array Oper} {rest : List Oper} {o : Oper} {a : Act} {w w' : World} {v' : Value} {Q : Exit → Act → World → Prop} (hw : Region.wanted o (yielded ops a.tmps) = true) (s x : Operand) (t tx : TypeId)
    (ho : o.op = .call { callee := .builtin .append, args := #[s, x], argTypes := #[t, tx] }) (vs vx : Value) (hs : a.eval s = vs) (hx : a.eval x = vx)
    (hr : (Builtin.append_ #[t, tx] o.type #[vs, vx]).run P w = .ok v' w') (h : wpList P ops Q rest (a.put o.dst v') w') : wpList P ops Q (o :: rest) a w := by
  unfold wpList
  rw [if_pos hw]
  left
  unfold Oper.wp execOp
  simp only [ho, resolve, invoke, builtin, Sem.run_bind, Sem.run_pure, Result.andThen_ok, List.map_toArray, List.map_cons, List.map_nil, hs, hx, hr]
  exact h

/-- make([]int, n) -/
theorem make_z (w : World) (n : Nat) (hn : 8 * n ≤ 281474976710656) :
    ∃ w', (Instr.makeSlice 22 (.int .i64 (n : Int)) (.int .i64 (n : Int))).run Try.prog w = .ok (.slice (some ⟨w.heap.size, 0, none⟩) n n) w' ∧ Zr w' w.heap.size (.slice (some ⟨w.heap.size, 0, none⟩) n n) (List.replicate n 0) ∧ Below w.heap.size w w' := by
  obtain ⟨i0, hi, hz0, hz1, hz2⟩ := info_parts info3
  obtain ⟨w', r, o, g⟩ := run_make_full (P := Try.prog) w w.heap.size 22 3 i0 (.int .i64 0) 1 Try.underlying22 hi hz0 hz1 .i64 .i64 n (by rw [hz2]; exact hn) (by unfold maxLen; omega) (Nat.le_refl _)
  refine ⟨w', r, ?_, (Below.refl _ w).grown g (Nat.le_refl _) (fun k hk => by cases hk)⟩
  unfold Zr
  have e : (madeCells (Value.int .i64 0).cells (n * 1)).toList = zc (List.replicate n 0) := by
    rw [show (Value.int .i64 0).cells = #[.int .i64 0] from rfl, toList_madeCells_one]
    simp [zc]
  rw [e] at o
  rw [List.length_replicate]
  exact o

/-- A store into such a row. -/
theorem Zr.set {w : World} {S g c : Nat} {ys : List Int} (h : Zr w S (.slice (some ⟨g, 0, none⟩) ys.length c) ys) (j : Nat) (x : Int) : Zr (w.setCell ⟨g, j, none⟩ (.int .i64 x)) S (.slice (some ⟨g, 0, none⟩) ys.length c) (ys.set j x) := by
  have := (World.ownsRow.stored h j (.int .i64 x)).1
  unfold Zr
  rw [List.length_set, show zc (ys.set j x) = (zc ys).set j (.int .i64 x) by simp [zc, List.map_set]]
  exact this
theorem Zr.cell {w : World} {S g c : Nat} {ys : List Int} (h : Zr w S (.slice (some ⟨g, 0, none⟩) ys.length c) ys) (j : Nat) (hj : j < ys.length) : w.cell? ⟨g, j, none⟩ = some (.int .i64 (ys.getD j 0)) := by
  rw [World.ownsRow.cellAt h j (by omega)]
  simp [zc, List.getD, hj]
theorem Zr.froz {w : World} {S g c : Nat} {ys : List Int} (h : Zr w S (.slice (some ⟨g, 0, none⟩) ys.length c) ys) (j : Nat) : w.frozen? ⟨g, j, none⟩ = false := World.ownsRow.frozenAt h j
theorem Zr.ge {w : World} {S g c : Nat} {ys : List Int} (h : Zr w S (.slice (some ⟨g, 0, none⟩) ys.length c) ys) : S ≤ g := (World.ownsRow.lt h g rfl).1
end Go.Proofs.Ytnjhffbegaegnaa
