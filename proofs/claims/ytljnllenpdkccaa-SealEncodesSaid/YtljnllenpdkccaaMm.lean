/- Lists of bytes in memory. -/
import Derived.Test.YtljnllenpdkccaaSh
import Derived.WalkKit
import Derived.WalkSpells
import Derived.WalkLawsBesides
import Derived.Below
import Derived.Deep.DeepFit
import Derived.Laws.BytesArg
import Derived.OwnWalk
import Derived.Laws.CopyOwn
import Derived.Laws.IdiomCopy
import Derived.Laws.OwnMore
import Derived.Laws.MakeOwn
import Derived.Laws.BitsLemmas
import Derived.Laws.Closers25b
import Derived.Deep.RegionLaw
namespace Go.Proofs.Ytljnllenpdkccaa
open Go.RowKit

/-- The cells of a list of bytes. -/
def bc (l : List Int) : List Value := l.map (Value.int .u8)
theorem bc_len (l : List Int) : (bc l).length = l.length := by simp [bc]
theorem bc_app (l m : List Int) : bc (l ++ m) = bc l ++ bc m := by simp [bc]
theorem bc_one (l : List Int) : ∀ u ∈ bc l, u.oneCell' = true := by
  intro u hu
  obtain ⟨x, _, rfl⟩ := List.mem_map.1 hu
  rfl
theorem info5 : (Try.prog.info? 5).map (fun i => (i.zero, i.size, i.bytes)) = some (some (.int .u8 0), 1, 1) := by kernel_rfl

/-- Bytes in memory from a place on. -/
def At (w : World) (g o : Nat) (xs : List Int) : Prop := ∀ j, j < xs.length → w.cell? ⟨g, o + j, none⟩ = some (.int .u8 (xs.getD j 0))
/-- A slice's bytes. -/
def Im (w : World) (a : Option Addr) (xs : List Int) : Prop := xs = [] ∨ ∃ g o, a = some ⟨g, o, none⟩ ∧ g < w.heap.size ∧ At w g o xs
/-- They are bytes. -/
def By (xs : List Int) : Prop := ∀ j, j < xs.length → 0 ≤ xs.getD j 0 ∧ xs.getD j 0 ≤ 255

theorem Im.below {w w' : World} {a : Option Addr} {xs : List Int} (h : Im w a xs) (hb : Below w.heap.size w w') : Im w' a xs := by
  rcases h with h | ⟨g, o, rfl, hg, h⟩
  · exact .inl h
  · exact .inr ⟨g, o, rfl, Nat.lt_of_lt_of_le hg hb.size, fun j hj => (hb.cell (p := ⟨g, o + j, none⟩) hg).trans (h j hj)⟩

theorem conv_im (w : World) (a : Option Addr) (c : Nat) (xs : List Int) (h : Im w a xs) : (convert 24 9 (.slice a xs.length c)).run Try.prog w = .ok (.string (strOfNums xs)) w := by
  rcases h with rfl | ⟨g, o, rfl, _, h⟩
  · cases a with
    | none => 
      rw [show ([] : List Int).length = 0 from rfl]
      have := run_convert_bytes_nil (P := Try.prog) w 24 5 Try.underlying24 Try.underlying5 0 c 9 Try.underlying9
      rw [this]
      rfl
    | some x =>
      rw [run_convert_bytes_string w 24 9 5 _ _ c Try.underlying24 Try.underlying5 Try.underlying9]
      simp [Conv.bytesToString, loadCells, strOfNums]
      rfl
  · exact run_convert_bytes_arg (P := Try.prog) w 24 5 Try.underlying24 Try.underlying5 g o xs.length c xs rfl h 9 Try.underlying9

theorem son_inj (xs ys : List Int) (hx : By xs) (hy : By ys) (h : strOfNums xs = strOfNums ys) : xs = ys := by
  have h1 : xs.map (fun n => UInt8.ofNat n.toNat) = ys.map fun n => UInt8.ofNat n.toNat := by
    have := congrArg (fun b : ByteArray => b.data.toList) h
    simpa [strOfNums] using this
  have hl : xs.length = ys.length := by simpa using congrArg List.length h1
  refine List.ext_getElem hl fun i h2 h3 => ?_
  have h4 := congrArg (fun l : List UInt8 => l[i]?) h1
  simp only [List.getElem?_map, List.getElem?_eq_getElem h2, List.getElem?_eq_getElem h3, Option.map_some, Option.some.injEq] at h4
  have h5 := hx i h2
  have h6 := hy i h3
  simp only [List.getD, List.getElem?_eq_getElem h2, List.getElem?_eq_getElem h3, Option.getD_some] at h5 h6
  have h7 := congrArg UInt8.toNat h4
  simp only [UInt8.toNat_ofNat'] at h7
  omega

/-- An append whose run is known, at a step of a region that draws. -/
theorem step_append_run {P : Program} {ops : Array Oper} {o : Oper} {a : Act} {w w' : World} {v' : Value} {K : Act → World → Prop} {Q : Exit → Act → World → Prop} {E : Prop} (hgd : o.guard = none) (s x : Operand) (t tx : TypeId)
    (ho : o.op = .call { callee := .builtin .append, args := #[s, x], argTypes := #[t, tx] }) (vs vx : Value) (hs : a.eval s = vs) (hx : a.eval x = vx)
    (hr : (Builtin.append_ #[t, tx] o.type #[vs, vx]).run P w = .ok v' w') (h : K (a.put o.dst v') w') : if Region.wanted o (yielded ops a.tmps) = true then Oper.wp P o a w K Q else E := by
  have hw : Region.wanted o (yielded ops a.tmps) = true := by simp [Region.wanted, hgd]
  rw [if_pos hw]
  unfold Oper.wp execOp
  simp only [ho, resolve, invoke, builtin, Sem.run_bind, Sem.run_pure, Result.andThen_ok, List.map_toArray, List.map_cons, List.map_nil, hs, hx, hr]
  exact h

/-- An append whose run is known. -/
theorem wpList_append_run {P : Program} {ops : Array Oper} {rest : List Oper} {o : Oper} {a : Act} {w w' : World} {v' : Value} {Q : Exit → Act → World → Prop} (hw : Region.wanted o (yielded ops a.tmps) = true) (s x : Operand) (t tx : TypeId)
    (ho : o.op = .call { callee := .builtin .append, args := #[s, x], argTypes := #[t, tx] }) (vs vx : Value) (hs : a.eval s = vs) (hx : a.eval x = vx)
    (hr : (Builtin.append_ #[t, tx] o.type #[vs, vx]).run P w = .ok v' w') (h : wpList P ops Q rest (a.put o.dst v') w') : wpList P ops Q (o :: rest) a w := by
  unfold wpList
  rw [if_pos hw]
  left
  unfold Oper.wp execOp
  simp only [ho, resolve, invoke, builtin, Sem.run_bind, Sem.run_pure, Result.andThen_ok, List.map_toArray, List.map_cons, List.map_nil, hs, hx, hr]
  exact h

/-- One byte put behind a row that has room for it. -/
theorem append_room (w : World) (S g q C : Nat) (l : List Int) (x : Int) (hS : S ≤ w.heap.size) (hq : q + 1 ≤ C) (o : w.ownsRow S 5 1 (.slice (some ⟨g, 0, none⟩) q C) q (bc l)) :
    ∃ w', (Builtin.append_ #[24, 24] 24 #[.slice (some ⟨g, 0, none⟩) q C, .slice (some ⟨w.heap.size, 0, none⟩) 1 1]).run Try.prog (w.alloc (.cells #[.int .u8 x] 5)) = .ok (.slice (some ⟨g, 0, none⟩) (q + 1) C) w' ∧
      w'.ownsRow S 5 1 (.slice (some ⟨g, 0, none⟩) (q + 1) C) (q + 1) (bc (l ++ [x])) ∧ Below S w w' := by
  obtain ⟨i0, hi, hz0, hz1, hz2⟩ := info_parts info5
  have o0 := o.alloc (.cells #[.int .u8 x] 5)
  obtain ⟨w', r, o', g'⟩ := run_append_fits (P := Try.prog) (w.alloc (.cells #[.int .u8 x] 5)) S 24 24 5 i0 1 Try.underlying24 hi hz1 g q C (bc l) o0 ⟨w.heap.size, 0, none⟩ 1 1 [.int .u8 x] (by simp)
    (fun j u hj => by
      rw [Go.WideShapes.add_plain]
      unfold World.cell?
      rw [show (w.alloc (.cells #[.int .u8 x] 5)).heap[w.heap.size]? = some (.cells #[.int .u8 x] 5) from heap_alloc_new w _]
      simpa using hj) (by simp; rfl) hq
  refine ⟨w', r, ?_, ?_⟩
  · rw [bc_app]; exact o'
  · exact ((Below.refl S w).alloc hS _).grown g' (by simp; omega) (fun k hk => by
      obtain rfl := Option.some.inj hk
      exact (o.lt _ rfl).1)

theorem owns_below {w w' : World} {S : Nat} {v : Value} {n : Nat} {xs : List Value} (h : w.ownsRow S 5 1 v n xs) (hb : Below w.heap.size w w') : w'.ownsRow S 5 1 v n xs := by
  refine ⟨h.1, ?_⟩
  rcases h.2 with h0 | ⟨g, cap, cur, hv, hB, hg, r⟩
  · exact .inl h0
  · exact .inr ⟨g, cap, cur, hv, hB, (hb.block g (Array.getElem?_eq_some_iff.1 hg).1).trans hg, r⟩

theorem conv_owned (w : World) (S : Nat) (v : Value) (l : List Int) (o : w.ownsRow S 5 1 v l.length (bc l)) : (convert 24 9 v).run Try.prog w = .ok (.string (strOfNums l)) w := by
  have hc := fun g => o.cells (g := g)
  rcases o.2 with ⟨rfl, h0⟩ | ⟨g, c, cur, rfl, _⟩
  · have hl : l = [] := List.eq_nil_of_length_eq_zero h0
    subst hl
    have := run_convert_bytes_nil (P := Try.prog) w 24 5 Try.underlying24 Try.underlying5 0 0 9 Try.underlying9
    rw [this]
    rfl
  · exact run_convert_bytes_arg (P := Try.prog) w 24 5 Try.underlying24 Try.underlying5 g 0 l.length c l rfl (fun i hi => by
      have := hc g rfl i (.int .u8 (l.getD i 0)) (by simp [bc, List.getD, hi])
      rw [Go.WideShapes.add_plain] at this
      exact this) 9 Try.underlying9

end Go.Proofs.Ytljnllenpdkccaa
