/- Rows of bytes in memory; a stream. -/
import Derived.Test.YtedlmjieclaojaaDoorMc
import Derived.Test.YtedlmjieclaojaaDoorRows
import Derived.WalkKit
import Derived.WalkSpells
import Derived.WalkLawsBesides
import Derived.Below
import Derived.Deep.DeepFit
import Derived.Laws.BytesArg
import Derived.OwnWalk
import Derived.Laws.CopyOwn
import Derived.Laws.IdiomCopy
import Derived.Laws.OwnMore
import Derived.Laws.MakeOwn
import Derived.Laws.BitsLemmas
import Derived.Laws.Closers25b
import Derived.Deep.RegionLaw
import Derived.Maps.AppendAt
import Derived.Deep.RegionHeld3
import Derived.Deep.QuietTactic
import Derived.BigQuiet
import Derived.BigRegion
import Derived.Laws.ShiftsVar
import Derived.Deep.Cut
import Derived.Deep.LoopGhost
namespace Go.Proofs.YtedlmjieclaojaaDoor
open Go.RowKit

/-- But for the blocks of M all is as it was. -/
structure Kp (M : Nat → Prop) (w w' : World) : Prop where
  os : w'.os = w.os
  tape : w'.tape = w.tape
  output : w'.output = w.output
  size : w.heap.size ≤ w'.heap.size
  block : ∀ k, k < w.heap.size → ¬ M k → w'.heap[k]? = w.heap[k]?
namespace Kp
variable {M N : Nat → Prop} {a b c w w' : World}
theorem refl (M : Nat → Prop) (w : World) : Kp M w w := ⟨rfl, rfl, rfl, Nat.le_refl _, fun _ _ _ => rfl⟩
theorem trans (h : Kp M a b) (k : Kp M b c) : Kp M a c := ⟨k.os.trans h.os, k.tape.trans h.tape, k.output.trans h.output, Nat.le_trans h.size k.size, fun i hi hm => (k.block i (Nat.lt_of_lt_of_le hi h.size) hm).trans (h.block i hi hm)⟩
/-- .. where the second may change new blocks besides. -/
theorem trans' (h : Kp M a b) (k : Kp N b c) (hn : ∀ i, i < a.heap.size → N i → M i) : Kp M a c := ⟨k.os.trans h.os, k.tape.trans h.tape, k.output.trans h.output, Nat.le_trans h.size k.size, fun i hi hm => (k.block i (Nat.lt_of_lt_of_le hi h.size) (fun x => hm (hn i hi x))).trans (h.block i hi hm)⟩
theorem mono (h : Kp M a b) (hn : ∀ i, i < a.heap.size → M i → N i) : Kp N a b := ⟨h.os, h.tape, h.output, h.size, fun i hi hm => h.block i hi (fun x => hm (hn i hi x))⟩
theorem of (h : Below w.heap.size w w') : Kp M w w' := ⟨h.os, h.tape, h.output, h.size, fun k hk _ => h.block k hk⟩
theorem below {B : Nat} (h : Kp M w w') (hB : B ≤ w.heap.size) (hm : ∀ k, k < B → ¬ M k) : Below B w w' := ⟨h.os, h.tape, h.output, h.size, fun k hk => h.block k (by omega) (hm k hk)⟩
theorem drew (h : Kp M a w) : Kp M a w.drew := ⟨h.os, h.tape, h.output, h.size, h.block⟩
theorem alloc (h : Kp M a w) (o : Obj) : Kp M a (w.alloc o) := h.trans (of ((Below.refl _ _).alloc (Nat.le_refl _) o))
theorem setCell (h : Kp M a w) {p : Addr} (hp : M p.block) (u : Value) : Kp M a (w.setCell p u) :=
  h.trans ⟨rfl, rfl, rfl, by simp [World.setCell], fun k hk hm => Below.heap_setCell _ _ _ _ (fun e => hm (e ▸ hp))⟩
theorem grown {row : Option Nat} (h : Kp M a w) (hg : w.grownBy w' row) (hr : ∀ k, row = some k → k < w.heap.size → M k) : Kp M a w' :=
  h.trans ⟨hg.os, hg.tape, hg.output, hg.size, fun k hk hm => hg.block k hk (fun e => hm (hr k e.symm hk))⟩
theorem cell {p : Addr} {v : Value} (h : Kp M w w') (hc : w.cell? p = some v) (hm : ¬ M p.block) : w'.cell? p = some v := by
  rw [World.cell?_of_block (w := w) (h.block p.block (World.block_lt_of_cell? w p hc) hm)]
  exact hc
theorem frozen {p : Addr} {v : Value} {r : Bool} (h : Kp M w w') (hc : w.cell? p = some v) (hf : w.frozen? p = r) (hm : ¬ M p.block) : w'.frozen? p = r := by
  rw [World.frozen?_of_block (w := w) (h.block p.block (World.block_lt_of_cell? w p hc) hm)]
  exact hf
theorem row {S e s n : Nat} {v : Value} {xs : List Value} (h : Kp M w w') (o : w.ownsRow S e s v n xs) (hm : ∀ k, v.ownBlock = some k → ¬ M k) : w'.ownsRow S e s v n xs := by
  refine ⟨o.1, ?_⟩
  rcases o.2 with h0 | ⟨g, cap, cur, hv, hB, hg, r⟩
  · exact .inl h0
  · exact .inr ⟨g, cap, cur, hv, hB, (h.block g (Array.getElem?_eq_some_iff.1 hg).1 (hm g (by rw [hv]; rfl))).trans hg, r⟩
end Kp


/-- An append whose run is known. -/
theorem wpList_append_run {P : Program} {ops : Array Oper} {rest : List Oper} {o : Oper} {a : Act} {w w' : World} {v' : Value} {Q : Exit → Act → World → Prop} (hw : Region.wanted o (yielded ops a.tmps) = true) (s x : Operand) (t tx : TypeId)
    (ho : o.op = .call { callee := .builtin .append, args := #[s, x], argTypes := #[t, tx] }) (vs vx : Value) (hs : a.eval s = vs) (hx : a.eval x = vx)
    (hr : (Builtin.append_ #[t, tx] o.type #[vs, vx]).run P w = .ok v' w') (h : wpList P ops Q rest (a.put o.dst v') w') : wpList P ops Q (o :: rest) a w := by
  unfold wpList
  rw [if_pos hw]
  left
  unfold Oper.wp execOp
  simp only [ho, resolve, invoke, builtin, Sem.run_bind, Sem.run_pure, Result.andThen_ok, List.map_toArray, List.map_cons, List.map_nil, hs, hx, hr]
  exact h
theorem step_append_run {P : Program} {ops : Array Oper} {o : Oper} {a : Act} {w w' : World} {v' : Value} {K : Act → World → Prop} {Q : Exit → Act → World → Prop} {E : Prop} (hgd : o.guard = none) (s x : Operand) (t tx : TypeId)
    (ho : o.op = .call { callee := .builtin .append, args := #[s, x], argTypes := #[t, tx] }) (vs vx : Value) (hs : a.eval s = vs) (hx : a.eval x = vx)
    (hr : (Builtin.append_ #[t, tx] o.type #[vs, vx]).run P w = .ok v' w') (h : K (a.put o.dst v') w') : if Region.wanted o (yielded ops a.tmps) = true then Oper.wp P o a w K Q else E := by
  have hw : Region.wanted o (yielded ops a.tmps) = true := by simp [Region.wanted, hgd]
  rw [if_pos hw]
  unfold Oper.wp execOp
  simp only [ho, resolve, invoke, builtin, Sem.run_bind, Sem.run_pure, Result.andThen_ok, List.map_toArray, List.map_cons, List.map_nil, hs, hx, hr]
  exact h

theorem info_parts {P : Program} {e : TypeId} {z : Value} {size bytes : Nat} (h : (P.info? e).map (fun i => (i.zero, i.size, i.bytes)) = some (some z, size, bytes)) : ∃ i, P.info? e = some i ∧ i.zero = some z ∧ i.size = size ∧ i.bytes = bytes := by
  cases hi : P.info? e with
  | none => rw [hi] at h; cases h
  | some i =>
    rw [hi] at h
    simp at h
    exact ⟨i, rfl, h.1, h.2.1, h.2.2⟩
theorem bcell2 {W w1 : World} (hb : Below W.heap.size W w1) {p : Addr} {v : Value} (h : W.cell? p = some v) : w1.cell? p = some v := (hb.cell (World.block_lt_of_cell? W p h)).trans h
/-- append([]T{}, a...). -/
theorem fresh_copy {P : Program} (w : World) (t e : TypeId) (z : Value) (size bytes : Nat) (ht : P.underlying t = some (.slice e)) (hin : (P.info? e).map (fun i => (i.zero, i.size, i.bytes)) = some (some z, size, bytes)) (hzs : z.cells.size = size) (hsz : 0 < size)
    (a : Option Addr) (m c : Nat) (news : List Value) (ha : a = none → m = 0 ∧ c = 0) (hl : news.length = m * size) (hnews : ∀ p, a = some p → ∀ j u, news[j]? = some u → w.cell? (p.add j) = some u) (h1 : ∀ u ∈ news, u.oneCell' = true) (hm : m ≤ maxLen) (hby : m * bytes ≤ 140737488355328) :
    ∃ g cap w', (Builtin.append_ #[t, t] t #[.slice (some ⟨w.heap.size, 0, none⟩) 0 0, .slice a m c]).run P (w.alloc (.cells #[] e)) = .ok (.slice (some ⟨g, 0, none⟩) m cap) w' ∧ w'.ownsRow w.heap.size e size (.slice (some ⟨g, 0, none⟩) m cap) m news ∧ Below w.heap.size w w' ∧ w.heap.size ≤ g ∧ g < w'.heap.size := by
  obtain ⟨i, hi, hz, hs, hb⟩ := info_parts hin
  have o0 : (w.alloc (.cells #[] e)).ownsRow w.heap.size e size (.slice (some ⟨w.heap.size, 0, none⟩) 0 0) 0 [] := World.ownsRow_lit w #[] 0 (Nat.le_refl _) (Nat.zero_le _) (by simp)
  have b0 : Below w.heap.size w (w.alloc (.cells #[] e)) := (Below.refl _ w).alloc (Nat.le_refl _) _
  cases a with
  | none =>
    obtain ⟨rfl, rfl⟩ := ha rfl
    have hn : news = [] := List.eq_nil_of_length_eq_zero (by simpa using hl)
    subst hn
    exact ⟨w.heap.size, 0, _, run_append_owned_none _ w.heap.size t t e i size ht hi _ 0 [] o0, o0, b0, Nat.le_refl _, by simp⟩
  | some p =>
    obtain ⟨v', w', r, o', gb, hv, _⟩ := run_append_own_at (P := P) (w.alloc (.cells #[] e)) w.heap.size t t e i z size bytes ht hi hz hs hb hzs hsz _ 0 [] o0 p m c news hl (fun j u hj => bcell2 b0 (hnews p rfl j u hj)) h1 (by omega) (by rw [Nat.zero_add]; exact hby) b0.size
    rw [Nat.zero_add, List.nil_append] at o'
    have hB : Below w.heap.size w w' := b0.trans ⟨gb.os, gb.tape, gb.output, gb.size, fun k hk => gb.block k (Nat.lt_of_lt_of_le hk b0.size) (fun e => by
      have e' : k = w.heap.size := Option.some.inj e
      omega)⟩
    rcases o'.2 with ⟨h0, _⟩ | ⟨g, cap, cur, rfl, hg, hh, _⟩
    · have := (hv.1 h0).1
      cases this
    · exact ⟨g, cap, w', r, o', hB, hg, (Array.getElem?_eq_some_iff.1 hh).1⟩
def up {α : Type} (f : Nat → α) (j : Nat) (u : α) : Nat → α := fun i => if i = j then u else f i
theorem up_same {α : Type} (f : Nat → α) (j : Nat) (u : α) : up f j u j = u := if_pos rfl
theorem up_other {α : Type} (f : Nat → α) (j : Nat) (u : α) (i : Nat) (h : i ≠ j) : up f j u i = f i := if_neg h
/-- The blocks that a stream writes to. -/
def Mv (B : Nat) (v : Value) (k : Nat) : Prop := k = B ∨ v.ownBlock = some k
/-- A row that was there, or a new one. -/
def Sub (w : World) (v v' : Value) : Prop := ∀ k, v'.ownBlock = some k → k < w.heap.size → v.ownBlock = some k
theorem Sub.refl (w : World) (v : Value) : Sub w v v := fun _ h _ => h
theorem Sub.trans {w w' : World} {v v1 v2 : Value} (h : Sub w v v1) (k : Sub w' v1 v2) (hs : w.heap.size ≤ w'.heap.size) : Sub w v v2 := fun i hi hl => h i (k i hi (by omega)) hl
theorem Kp.next {w w1 w2 : World} {B : Nat} {v v1 : Value} (h : Kp (Mv B v) w w1) (hs : Sub w v v1) (k : Kp (Mv B v1) w1 w2) : Kp (Mv B v) w w2 := h.trans' k (fun i hi e => e.imp id (fun e => hs i e hi))

/-- The cells of a list of bytes. -/
def bc (l : List Int) : List Value := l.map (Value.int .u8)
theorem bc_len (l : List Int) : (bc l).length = l.length := by simp [bc]
theorem bc_app (l m : List Int) : bc (l ++ m) = bc l ++ bc m := by simp [bc]
theorem bc_set (l : List Int) (j : Nat) (x : Int) : bc (l.set j x) = (bc l).set j (.int .u8 x) := by simp [bc, List.map_set]
theorem info5 : (Tryd.prog.info? 5).map (fun i => (i.zero, i.size, i.bytes)) = some (some (.int .u8 0), 1, 1) := by kernel_rfl

/-- One byte behind a row. -/
theorem append_b (w : World) (S : Nat) (v : Value) (l : List Int) (x : Int) (hS : S ≤ w.heap.size) (hn : l.length + 1 ≤ 140737488355328) (o : w.ownsRow S 5 1 v l.length (bc l)) :
    ∃ g c w', (Builtin.append_ #[25, 25] 25 #[v, .slice (some ⟨w.heap.size, 0, none⟩) 1 1]).run Tryd.prog (w.alloc (.cells #[.int .u8 x] 5)) = .ok (.slice (some ⟨g, 0, none⟩) (l.length + 1) c) w' ∧
      w'.ownsRow S 5 1 (.slice (some ⟨g, 0, none⟩) (l.length + 1) c) (l.length + 1) (bc (l ++ [x])) ∧ Kp (fun k => v.ownBlock = some k) w w' ∧ (v.ownBlock = some g ∨ w.heap.size ≤ g) := by
  obtain ⟨i0, hi, hz0, hz1, hz2⟩ := info_parts info5
  have o0 := World.ownsRow.alloc o (.cells #[.int .u8 x] 5)
  obtain ⟨v', w', r, o', g, _, h5⟩ := run_append_own_at (P := Tryd.prog) (w.alloc (.cells #[.int .u8 x] 5)) S 25 25 5 i0 (.int .u8 0) 1 1 Tryd.underlying25 hi hz0 hz1 hz2 rfl (by decide) _ l.length (bc l) o0 ⟨w.heap.size, 0, none⟩ 1 1 [.int .u8 x] (by rfl)
    (fun j u hj => by
      rw [Go.WideShapes.add_plain]
      unfold World.cell?
      rw [show (w.alloc (.cells #[.int .u8 x] 5)).heap[w.heap.size]? = some (.cells #[.int .u8 x] 5) from heap_alloc_new w _]
      simpa using hj) (by intro u hu; simp at hu; subst hu; rfl) (by unfold maxLen; omega) (by omega) (by simp; omega)
  rw [show bc l ++ [.int .u8 x] = bc (l ++ [x]) by rw [bc_app]; rfl] at o'
  rcases o'.2 with ⟨_, h0⟩ | ⟨G, C, cur, rfl, _⟩
  · omega
  · refine ⟨G, C, w', r, o', ((Kp.refl _ w).alloc _).grown g (fun k hk _ => hk), ?_⟩
    rcases h5 with h5 | h5
    · exact .inl (h5.symm.trans rfl)
    · have h6 : G = (w.alloc (.cells #[.int .u8 x] 5)).heap.size := Option.some.inj h5
      rw [World.size_alloc] at h6
      exact .inr (by omega)

/-- How many bytes a row of bits takes, and how many bits are left over. -/
def qb (L : List Int) : Nat := (L.length + 7) / 8
def lf (L : List Int) : Nat := 8 * ((L.length + 7) / 8) - L.length
/-- A stream in the block B, its bytes in a row of its own. -/
structure Stm (S : Nat) (w : World) (B : Nat) (v : Value) (L : List Int) : Prop where
  c0 : w.cell? ⟨B, 0, none⟩ = some v
  c1 : w.cell? ⟨B, 1, none⟩ = some (.int .i64 (lf L : Nat))
  fz : ∀ i, w.frozen? ⟨B, i, none⟩ = false
  row : w.ownsRow S 5 1 v (qb L) (bc (gr (fb L) 8 (qb L)))
  gb : v.ownBlock ≠ some B
  bin : Bin L
  SS : S ≤ w.heap.size
namespace Stm
variable {S : Nat} {w w' : World} {B : Nat} {v : Value} {L : List Int}
theorem lt (h : Stm S w B v L) : B < w.heap.size := World.block_lt_of_cell? w _ h.c0
theorem kp {M : Nat → Prop} (h : Stm S w B v L) (k : Kp M w w') (hB : ¬ M B) (hg : ∀ g, v.ownBlock = some g → ¬ M g) : Stm S w' B v L :=
  ⟨k.cell h.c0 hB, k.cell h.c1 hB, fun o => by rw [World.frozen?_of_block (w := w) (k.block B h.lt hB)]; exact h.fz o, k.row h.row hg, h.gb, h.bin, Nat.le_trans h.SS k.size⟩
theorem below (h : Stm S w B v L) (k : Below w.heap.size w w') : Stm S w' B v L := h.kp (M := fun _ => False) (Kp.of k) id (fun _ _ => id)
theorem form (h : Stm S w B v L) : ∃ a c, v = .slice a (qb L) c := by
  rcases h.row.2 with ⟨e, e2⟩ | ⟨g, c, cur, e, _, hg, _⟩
  · exact ⟨none, 0, by rw [e, e2]⟩
  · exact ⟨_, c, e⟩
theorem base (h : Stm S w B v L) : ∀ k, v.ownBlock = some k → S ≤ k ∧ k < w.heap.size := by
  intro k hk
  rcases h.row.2 with ⟨e', _⟩ | ⟨G, _, _, e', hG, hh, _⟩
  · rw [e'] at hk; cases hk
  · rw [e'] at hk
    have : G = k := Option.some.inj hk
    subst this
    exact ⟨hG, (Array.getElem?_eq_some_iff.1 hh).1⟩
end Stm
end Go.Proofs.YtedlmjieclaojaaDoor
