/- What a call keeps; rows of tasks and of blocks of them. -/
import Derived.Test.YtnpgkiidpeaapaaDoorRows
import Derived.Test.YtnpgkiidpeaapaaDoorQa
import Derived.WalkKit
import Derived.Below
import Derived.Laws.OwnMore
import Derived.Laws.MakeOwn
import Derived.Laws.AppendOwn
import Derived.Deep.RegionLaw
import Derived.BigRegion
import Derived.Lib.QuietBelow
import Derived.BigQuiet
import Derived.Maps.AppendAt
namespace Go.Proofs.YtnpgkiidpeaapaaDoor
open Go.RowKit

abbrev It := Int × Int
abbrev iv (x : It) : Value := .agg #[.int .i64 x.1, .int .i64 x.2]
abbrev iX (x : It) : Obj := .cells #[.int .i64 x.1, .int .i64 x.2] 88
def up {α : Type} (f : Nat → α) (j : Nat) (u : α) : Nat → α := fun i => if i = j then u else f i
theorem up_same {α : Type} (f : Nat → α) (j : Nat) (u : α) : up f j u j = u := if_pos rfl
theorem up_other {α : Type} (f : Nat → α) (j : Nat) (u : α) (i : Nat) (h : i ≠ j) : up f j u i = f i := if_neg h
theorem below_drewN {B : Nat} {a w : World} (h : Below B a w) (k : Nat) : Below B a (w.drewN k) := ⟨h.os, h.tape, h.output, h.size, h.block⟩
/-- But for the blocks of M all is as it was. -/
structure Kp (M : Nat → Prop) (w w' : World) : Prop where
  os : w'.os = w.os
  tape : w'.tape = w.tape
  output : w'.output = w.output
  size : w.heap.size ≤ w'.heap.size
  block : ∀ k, k < w.heap.size → ¬ M k → w'.heap[k]? = w.heap[k]?
namespace Kp
variable {M N : Nat → Prop} {a b c w w' : World}
theorem refl (M : Nat → Prop) (w : World) : Kp M w w := ⟨rfl, rfl, rfl, Nat.le_refl _, fun _ _ _ => rfl⟩
theorem trans (h : Kp M a b) (k : Kp M b c) : Kp M a c := ⟨k.os.trans h.os, k.tape.trans h.tape, k.output.trans h.output, Nat.le_trans h.size k.size, fun i hi hm => (k.block i (Nat.lt_of_lt_of_le hi h.size) hm).trans (h.block i hi hm)⟩
/-- .. where the second may change new blocks besides. -/
theorem trans' (h : Kp M a b) (k : Kp N b c) (hn : ∀ i, i < a.heap.size → N i → M i) : Kp M a c := ⟨k.os.trans h.os, k.tape.trans h.tape, k.output.trans h.output, Nat.le_trans h.size k.size, fun i hi hm => (k.block i (Nat.lt_of_lt_of_le hi h.size) (fun x => hm (hn i hi x))).trans (h.block i hi hm)⟩
theorem mono (h : Kp M a b) (hn : ∀ i, i < a.heap.size → M i → N i) : Kp N a b := ⟨h.os, h.tape, h.output, h.size, fun i hi hm => h.block i hi (fun x => hm (hn i hi x))⟩
theorem of (h : Below w.heap.size w w') : Kp M w w' := ⟨h.os, h.tape, h.output, h.size, fun k hk _ => h.block k hk⟩
theorem below {B : Nat} (h : Kp M w w') (hB : B ≤ w.heap.size) (hm : ∀ k, k < B → ¬ M k) : Below B w w' := ⟨h.os, h.tape, h.output, h.size, fun k hk => h.block k (by omega) (hm k hk)⟩
theorem drew (h : Kp M a w) : Kp M a w.drew := ⟨h.os, h.tape, h.output, h.size, h.block⟩
theorem alloc (h : Kp M a w) (o : Obj) : Kp M a (w.alloc o) := h.trans (of ((Below.refl _ _).alloc (Nat.le_refl _) o))
theorem setCell (h : Kp M a w) {p : Addr} (hp : M p.block) (u : Value) : Kp M a (w.setCell p u) :=
  h.trans ⟨rfl, rfl, rfl, by simp [World.setCell], fun k hk hm => Below.heap_setCell _ _ _ _ (fun e => hm (e ▸ hp))⟩
theorem grown {row : Option Nat} (h : Kp M a w) (hg : w.grownBy w' row) (hr : ∀ k, row = some k → k < w.heap.size → M k) : Kp M a w' :=
  h.trans ⟨hg.os, hg.tape, hg.output, hg.size, fun k hk hm => hg.block k hk (fun e => hm (hr k e.symm hk))⟩
theorem cell {p : Addr} {v : Value} (h : Kp M w w') (hc : w.cell? p = some v) (hm : ¬ M p.block) : w'.cell? p = some v := by
  rw [World.cell?_of_block (w := w) (h.block p.block (World.block_lt_of_cell? w p hc) hm)]
  exact hc
theorem frozen {p : Addr} {v : Value} {r : Bool} (h : Kp M w w') (hc : w.cell? p = some v) (hf : w.frozen? p = r) (hm : ¬ M p.block) : w'.frozen? p = r := by
  rw [World.frozen?_of_block (w := w) (h.block p.block (World.block_lt_of_cell? w p hc) hm)]
  exact hf
theorem row {S e s n : Nat} {v : Value} {xs : List Value} (h : Kp M w w') (o : w.ownsRow S e s v n xs) (hm : ∀ k, v.ownBlock = some k → ¬ M k) : w'.ownsRow S e s v n xs := by
  refine ⟨o.1, ?_⟩
  rcases o.2 with h0 | ⟨g, cap, cur, hv, hB, hg, r⟩
  · exact .inl h0
  · exact .inr ⟨g, cap, cur, hv, hB, (h.block g (Array.getElem?_eq_some_iff.1 hg).1 (hm g (by rw [hv]; rfl))).trans hg, r⟩
end Kp
theorem cell_al {w : World} {a : Addr} {v : Value} (o : Obj) (h : w.cell? a = some v) : (w.alloc o).cell? a = some v := (Kp.alloc (Kp.refl (fun _ => False) w) o).cell h id
theorem froz_al {w : World} {a : Addr} {v : Value} {r : Bool} (o : Obj) (h : w.cell? a = some v) (hf : w.frozen? a = r) : (w.alloc o).frozen? a = r := (Kp.alloc (Kp.refl (fun _ => False) w) o).frozen h hf id

def i2 (x : It) : List Value := [.int .i64 x.1, .int .i64 x.2]
def tc (f : Nat → It) (n : Nat) : List Value := (List.range n).flatMap fun j => i2 (f j)
theorem tc_succ (f : Nat → It) (n : Nat) : tc f (n + 1) = tc f n ++ i2 (f n) := by
  unfold tc
  rw [List.range_succ, List.flatMap_append]
  simp
theorem tc_len (f : Nat → It) (n : Nat) : (tc f n).length = n * 2 := by
  induction n with
  | zero => rfl
  | succ n ih => rw [tc_succ, List.length_append, ih]; simp [i2]; omega
theorem tc_get (f : Nat → It) : ∀ (n j k : Nat), j < n → k < 2 → (tc f n)[j * 2 + k]? = (i2 (f j))[k]?
  | 0, j, k, h, _ => by omega
  | n + 1, j, k, h, hk => by
    rw [tc_succ]
    by_cases hj : j < n
    · rw [List.getElem?_append_left (by rw [tc_len]; omega)]
      exact tc_get f n j k hj hk
    · obtain rfl : j = n := by omega
      rw [List.getElem?_append_right (by rw [tc_len]; omega), tc_len]
      congr 1
      omega
theorem tc_congr (f g : Nat → It) (n : Nat) (h : ∀ j, j < n → f j = g j) : tc f n = tc g n := by
  induction n with
  | zero => rfl
  | succ n ih => rw [tc_succ, tc_succ, ih fun j hj => h j (by omega), h n (by omega)]
theorem tc_take (f : Nat → It) (n m : Nat) (h : m ≤ n) : (tc f n).take (m * 2) = tc f m := by
  induction n with
  | zero => obtain rfl : m = 0 := by omega
            rfl
  | succ n ih =>
    by_cases hm : m = n + 1
    · subst hm
      rw [List.take_of_length_le (by rw [tc_len]; exact Nat.le_refl _)]
    · rw [tc_succ, List.take_append_of_le_length (by rw [tc_len]; omega)]
      exact ih (by omega)
theorem tc_push (f : Nat → It) (n : Nat) (x : It) : tc (up f n x) (n + 1) = tc f n ++ i2 x := by
  rw [tc_succ, up_same]
  congr 1
  exact tc_congr _ _ _ fun j hj => up_other f n x j (by omega)
theorem infT : (Tryd.prog.info? 88).map (fun i => (i.zero, i.size, i.bytes)) = some (some (.agg #[.int .i64 0, .int .i64 0]), 2, 16) := by kernel_rfl
theorem infF : (Tryd.prog.info? 72).map (fun i => (i.zero, i.size, i.bytes)) = some (some (.slice none 0 0), 1, 24) := by kernel_rfl
/-- A row of tasks of one's own. -/
def Tr (w : World) (S : Nat) (v : Value) (n : Nat) (f : Nat → It) : Prop := w.ownsRow S 88 2 v n (tc f n)
theorem Tr.congr {w : World} {S n : Nat} {v : Value} {f g : Nat → It} (h : Tr w S v n f) (e : ∀ j, j < n → f j = g j) : Tr w S v n g := by
  unfold Tr
  rw [← tc_congr f g n e]
  exact h
theorem iX_cell (w : World) (x : It) (j : Nat) (u : Value) (h : (i2 x)[j]? = some u) : (w.alloc (iX x)).cell? ⟨w.heap.size, j, none⟩ = some u := by
  unfold World.cell?
  rw [show (w.alloc (iX x)).heap[w.heap.size]? = some (iX x) from heap_alloc_new w _]
  simpa [i2] using h
theorem append_t (w : World) (S : Nat) (v : Value) (n : Nat) (f : Nat → It) (x : It) (hS : S ≤ w.heap.size) (hn : (n + 1) * 16 ≤ 140737488355328) (o : Tr w S v n f) :
    ∃ g c w', (Builtin.append_ #[72, 72] 72 #[v, .slice (some ⟨w.heap.size, 0, none⟩) 1 1]).run Tryd.prog (w.alloc (iX x)) = .ok (.slice (some ⟨g, 0, none⟩) (n + 1) c) w' ∧ Tr w' S (.slice (some ⟨g, 0, none⟩) (n + 1) c) (n + 1) (up f n x) ∧ Kp (fun k => v.ownBlock = some k) w w' ∧ (v.ownBlock = some g ∨ w.heap.size ≤ g) := by
  obtain ⟨i0, hi, hz0, hz1, hz2⟩ := info_parts infT
  have o0 := World.ownsRow.alloc o (iX x)
  obtain ⟨v', w', r, o', g, _, h5⟩ := run_append_own_at (P := Tryd.prog) (w.alloc (iX x)) S 72 72 88 i0 (.agg #[.int .i64 0, .int .i64 0]) 2 16 Tryd.underlying72 hi hz0 hz1 hz2 rfl (by decide) _ n (tc f n) o0 ⟨w.heap.size, 0, none⟩ 1 1 (i2 x) (by rfl)
    (fun j u hj => by
      rw [Go.WideShapes.add_plain, Nat.zero_add]
      exact iX_cell w x j u hj) (by intro u hu; simp [i2] at hu; rcases hu with rfl | rfl <;> rfl) (by unfold maxLen; omega) hn (by simp; omega)
  rw [← tc_push] at o'
  rcases o'.2 with ⟨_, h0⟩ | ⟨G, C, cur, rfl, _⟩
  · omega
  · refine ⟨G, C, w', r, o', ((Kp.refl _ w).alloc _).grown g (fun k hk _ => hk), ?_⟩
    rcases h5 with h5 | h5
    · exact .inl (h5.symm.trans rfl)
    · have h6 : G = (w.alloc (iX x)).heap.size := Option.some.inj h5
      rw [World.size_alloc] at h6
      exact .inr (by omega)
/-- A row of slices. -/
def sc (f : Nat → Value) (n : Nat) : List Value := (List.range n).map f
theorem sc_succ (f : Nat → Value) (n : Nat) : sc f (n + 1) = sc f n ++ [f n] := by
  unfold sc
  rw [List.range_succ, List.map_append]
  rfl
theorem sc_len (f : Nat → Value) (n : Nat) : (sc f n).length = n := by simp [sc]
theorem sc_congr (f g : Nat → Value) (n : Nat) (h : ∀ j, j < n → f j = g j) : sc f n = sc g n := by
  unfold sc
  exact List.map_congr_left fun j hj => h j (List.mem_range.1 hj)
theorem sc_get (f : Nat → Value) (n j : Nat) (h : j < n) : (sc f n)[j]? = some (f j) := by
  unfold sc
  simp [h]
theorem sc_take (f : Nat → Value) (n m : Nat) (h : m ≤ n) : (sc f n).take m = sc f m := by
  unfold sc
  rw [← List.map_take, List.take_range]
  congr 2
  omega
theorem sc_push (f : Nat → Value) (n : Nat) (x : Value) : sc (up f n x) (n + 1) = sc f n ++ [x] := by
  rw [sc_succ, up_same]
  congr 1
  exact sc_congr _ _ _ fun j hj => up_other f n x j (by omega)
theorem append_f (w : World) (S : Nat) (v : Value) (n : Nat) (f : Nat → Value) (x : Value) (hx2 : x.oneCell' = true) (hS : S ≤ w.heap.size) (hn : (n + 1) * 24 ≤ 140737488355328) (o : w.ownsRow S 72 1 v n (sc f n)) :
    ∃ g c w', (Builtin.append_ #[71, 71] 71 #[v, .slice (some ⟨w.heap.size, 0, none⟩) 1 1]).run Tryd.prog (w.alloc (.cells #[x] 72)) = .ok (.slice (some ⟨g, 0, none⟩) (n + 1) c) w' ∧ w'.ownsRow S 72 1 (.slice (some ⟨g, 0, none⟩) (n + 1) c) (n + 1) (sc (up f n x) (n + 1)) ∧ Kp (fun k => v.ownBlock = some k) w w' ∧ (v.ownBlock = some g ∨ w.heap.size ≤ g) := by
  obtain ⟨i0, hi, hz0, hz1, hz2⟩ := info_parts infF
  have o0 := World.ownsRow.alloc o (.cells #[x] 72)
  obtain ⟨v', w', r, o', g, _, h5⟩ := run_append_own_at (P := Tryd.prog) (w.alloc (.cells #[x] 72)) S 71 71 72 i0 (.slice none 0 0) 1 24 Tryd.underlying71 hi hz0 hz1 hz2 rfl (by decide) _ n (sc f n) o0 ⟨w.heap.size, 0, none⟩ 1 1 [x] (by rfl)
    (fun j u hj => by
      rw [Go.WideShapes.add_plain, Nat.zero_add]
      unfold World.cell?
      rw [show (w.alloc (.cells #[x] 72)).heap[w.heap.size]? = some (.cells #[x] 72) from heap_alloc_new w _]
      simpa using hj) (by intro u hu; simp at hu; subst hu; exact hx2) (by unfold maxLen; omega) hn (by simp; omega)
  rw [← sc_push] at o'
  rcases o'.2 with ⟨_, h0⟩ | ⟨G, C, cur, rfl, _⟩
  · omega
  · refine ⟨G, C, w', r, o', ((Kp.refl _ w).alloc _).grown g (fun k hk _ => hk), ?_⟩
    rcases h5 with h5 | h5
    · exact .inl (h5.symm.trans rfl)
    · have h6 : G = (w.alloc (.cells #[x] 72)).heap.size := Option.some.inj h5
      rw [World.size_alloc] at h6
      exact .inr (by omega)
theorem step_append_run {P : Program} {ops : Array Oper} {o : Oper} {a : Act} {w w' : World} {v' : Value} {K : Act → World → Prop} {Q : Exit → Act → World → Prop} {E : Prop} (hgd : o.guard = none) (s x : Operand) (t tx : TypeId)
    (ho : o.op = .call { callee := .builtin .append, args := #[s, x], argTypes := #[t, tx] }) (vs vx : Value) (hs : a.eval s = vs) (hx : a.eval x = vx)
    (hr : (Builtin.append_ #[t, tx] o.type #[vs, vx]).run P w = .ok v' w') (h : K (a.put o.dst v') w') : if Region.wanted o (yielded ops a.tmps) = true then Oper.wp P o a w K Q else E := by
  have hw : Region.wanted o (yielded ops a.tmps) = true := by simp [Region.wanted, hgd]
  rw [if_pos hw]
  unfold Oper.wp execOp
  simp only [ho, resolve, invoke, builtin, Sem.run_bind, Sem.run_pure, Result.andThen_ok, List.map_toArray, List.map_cons, List.map_nil, hs, hx, hr]
  exact h
end Go.Proofs.YtnpgkiidpeaapaaDoor
