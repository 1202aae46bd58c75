/- A bundle of texts. -/
import Derived.Test.YtajaadagejhllaaGreatDoorRows
import Derived.WalkKit
import Derived.Below
import Derived.Laws.OwnMore
import Derived.Laws.MakeOwn
import Derived.Laws.AppendOwn
import Derived.Laws.StructEq
import Derived.Maps.AppendAt
import Derived.Deep.RegionLaw
import Derived.Deep.RegionHeld3
import Derived.BigRegion
import Derived.Lib.QuietBelow
import Derived.BigQuiet
import Derived.Deep.DeepFit
/- RxprogSounds: an instruction as data; where it is sound; rows of ranges and of instructions in memory. -/
namespace Go.Proofs.YtajaadagejhllaaGreatDoor
open Go.RowKit

abbrev Rg := Int × Int
structure In where
  op : Int
  out : Int
  alt : Int
  arg : Int
  ra : Option Addr
  rn : Nat
  rc : Nat
  rf : Nat → Rg
abbrev inV (op out alt arg : Int) (a : Option Addr) (n c : Nat) : Value := .agg #[.int .i64 op, .int .i64 out, .int .i64 alt, .int .i64 arg, .slice a n c]
theorem ret_bool {a b : Bool} (h : a = b) : Ending.returned (.bool a) = .returned (.bool b) := by rw [h]

/-- Is a place within? -/
def plB (i n : Int) : Bool := decide (0 ≤ i ∧ i < n)
def spB (op out alt n : Int) : Bool := if op = 1 ∨ op = 11 then decide (out = 0 ∧ alt = 0) else if op = 3 then plB out n && plB alt n else plB out n && decide (alt = 0)
def saB (op arg g : Int) : Bool := if op = 4 then decide (2 ≤ arg ∧ arg ≤ 2 * g + 1) else if op = 9 then decide (arg = 0 ∨ arg = 1) else decide (arg = 0)
/-- A range fits behind those ahead of it. -/
def okB (f : Nat → Rg) (i : Nat) : Bool := decide (0 ≤ (f i).1 ∧ (f i).1 ≤ (f i).2 ∧ (f i).2 ≤ 1114111 ∧ (0 < i → (f (i - 1)).2 < (f i).1))
def rgB (f : Nat → Rg) : Nat → Bool
  | 0 => true
  | n + 1 => rgB f n && okB f n
def srB (op : Int) (n : Nat) (f : Nat → Rg) : Bool := if op = 2 then rgB f n && decide (0 < n) else decide (n = 0)
def sdB (op out alt arg : Int) (n : Nat) (f : Nat → Rg) (m g : Int) : Bool := decide (1 ≤ op ∧ op ≤ 11) && spB op out alt m && saB op arg g && srB op n f
def leF (f : Nat → Rg) (i : Nat) : Int := if i = 0 then 0 else (f (i - 1)).2 + 1

theorem rgB_le {f : Nat → Rg} {m n : Nat} (h : m ≤ n) (hr : rgB f n = true) : rgB f m = true := by
  induction n with
  | zero => obtain rfl : m = 0 := by omega
            exact hr
  | succ n ih =>
    by_cases e : m = n + 1
    · rw [e]; exact hr
    · exact ih (by omega) (by unfold rgB at hr; simp at hr; exact hr.1)
theorem rgB_bad {f : Nat → Rg} {i n : Nat} (h : i < n) (hb : okB f i = false) : rgB f n = false := by
  cases hr : rgB f n with
  | false => rfl
  | true =>
    have := rgB_le (m := i + 1) h hr
    unfold rgB at this
    rw [hb] at this
    simp at this
theorem rgB_succ {f : Nat → Rg} {i : Nat} (h : rgB f i = true) (hb : okB f i = true) : rgB f (i + 1) = true := by
  unfold rgB
  rw [h, hb]
  rfl
theorem rgB_lo {f : Nat → Rg} {i : Nat} (h : rgB f i = true) (h0 : 0 < i) : 0 ≤ (f (i - 1)).2 ∧ (f (i - 1)).2 ≤ 1114111 := by
  obtain ⟨j, rfl⟩ : ∃ j, i = j + 1 := ⟨i - 1, by omega⟩
  unfold rgB okB at h
  simp at h
  simp
  omega
theorem okB_iff {f : Nat → Rg} {i : Nat} (h : rgB f i = true) : okB f i = true ↔ (leF f i ≤ (f i).1 ∧ (f i).1 ≤ (f i).2 ∧ (f i).2 ≤ 1114111) := by
  unfold okB leF
  by_cases h0 : i = 0
  · subst h0; simp
  · have := rgB_lo h (by omega)
    rw [if_neg h0, decide_eq_true_iff]
    omega
theorem leF_bd {f : Nat → Rg} {i : Nat} (h : rgB f i = true) : 0 ≤ leF f i ∧ leF f i ≤ 1114112 := by
  unfold leF
  by_cases h0 : i = 0
  · rw [if_pos h0]; omega
  · have := rgB_lo h (by omega)
    rw [if_neg h0]; omega
theorem leF_succ (f : Nat → Rg) (i : Nat) : leF f (i + 1) = (f i).2 + 1 := by
  unfold leF
  rw [if_neg (by omega)]
  rfl
theorem rgB_congr {f g : Nat → Rg} {n : Nat} (h : ∀ j, j < n → f j = g j) : rgB f n = rgB g n := by
  induction n with
  | zero => rfl
  | succ n ih =>
    unfold rgB
    rw [ih fun j hj => h j (by omega)]
    unfold okB
    rw [h n (by omega), h (n - 1) (by omega)]
theorem sdB_congr (op out alt arg : Int) (n : Nat) {f g : Nat → Rg} (m gr : Int) (h : ∀ j, j < n → f j = g j) : sdB op out alt arg n f m gr = sdB op out alt arg n g m gr := by
  unfold sdB srB
  rw [rgB_congr h]

/-- Ranges that a slice shows. -/
def Rml (w : World) (a : Option Addr) (f : Nat → Rg) (n : Nat) : Prop := n = 0 ∨ ∃ g o, a = some ⟨g, o, none⟩ ∧ g < w.heap.size ∧ ∀ j, j < n → w.cell? ⟨g, o + j * 2, none⟩ = some (.int .i32 (f j).1) ∧ w.cell? ⟨g, o + j * 2 + 1, none⟩ = some (.int .i32 (f j).2)
theorem Rml.below {w w' : World} {a : Option Addr} {f : Nat → Rg} {n : Nat} (h : Rml w a f n) (hb : Below w.heap.size w w') : Rml w' a f n := by
  rcases h with h | ⟨g, o, rfl, hg, hc⟩
  · exact .inl h
  · exact .inr ⟨g, o, rfl, Nat.lt_of_lt_of_le hg hb.size, fun j hj => ⟨(hb.cell (p := ⟨g, o + j * 2, none⟩) hg).trans (hc j hj).1, (hb.cell (p := ⟨g, o + j * 2 + 1, none⟩) hg).trans (hc j hj).2⟩⟩
theorem Rml.at {w : World} {a : Option Addr} {f : Nat → Rg} {n : Nat} (h : Rml w a f n) (j : Nat) (hj : j < n) : ∃ g o, a = some ⟨g, o, none⟩ ∧ g < w.heap.size ∧ w.cell? ⟨g, o + j * 2, none⟩ = some (.int .i32 (f j).1) ∧ w.cell? ⟨g, o + j * 2 + 1, none⟩ = some (.int .i32 (f j).2) := by
  rcases h with h | ⟨g, o, rfl, hg, hat⟩
  · omega
  · exact ⟨g, o, rfl, hg, (hat j hj).1, (hat j hj).2⟩
/-- Instructions that a slice shows, their ranges with them. -/
def Nml (w : World) (a : Option Addr) (x : Nat → In) (n : Nat) : Prop := n = 0 ∨ ∃ g o, a = some ⟨g, o, none⟩ ∧ g < w.heap.size ∧ ∀ j, j < n → w.cell? ⟨g, o + j * 5, none⟩ = some (.int .i64 (x j).op) ∧ w.cell? ⟨g, o + j * 5 + 1, none⟩ = some (.int .i64 (x j).out) ∧ w.cell? ⟨g, o + j * 5 + 2, none⟩ = some (.int .i64 (x j).alt) ∧ w.cell? ⟨g, o + j * 5 + 3, none⟩ = some (.int .i64 (x j).arg) ∧ w.cell? ⟨g, o + j * 5 + 4, none⟩ = some (.slice (x j).ra (x j).rn (x j).rc) ∧ Rml w (x j).ra (x j).rf (x j).rn ∧ (x j).rn * 8 ≤ 140737488351232
theorem Nml.below {w w' : World} {a : Option Addr} {x : Nat → In} {n : Nat} (h : Nml w a x n) (hb : Below w.heap.size w w') : Nml w' a x n := by
  rcases h with h | ⟨g, o, rfl, hg, hc⟩
  · exact .inl h
  · refine .inr ⟨g, o, rfl, Nat.lt_of_lt_of_le hg hb.size, fun j hj => ?_⟩
    obtain ⟨h0, h1, h2, h3, h4, h5, h6⟩ := hc j hj
    exact ⟨(hb.cell (p := ⟨g, o + j * 5, none⟩) hg).trans h0, (hb.cell (p := ⟨g, o + j * 5 + 1, none⟩) hg).trans h1, (hb.cell (p := ⟨g, o + j * 5 + 2, none⟩) hg).trans h2, (hb.cell (p := ⟨g, o + j * 5 + 3, none⟩) hg).trans h3, (hb.cell (p := ⟨g, o + j * 5 + 4, none⟩) hg).trans h4, h5.below hb, h6⟩
theorem Nml.at {w : World} {a : Option Addr} {x : Nat → In} {n : Nat} (h : Nml w a x n) (j : Nat) (hj : j < n) : ∃ g o, a = some ⟨g, o, none⟩ ∧ g < w.heap.size ∧ w.cell? ⟨g, o + j * 5, none⟩ = some (.int .i64 (x j).op) ∧ w.cell? ⟨g, o + j * 5 + 1, none⟩ = some (.int .i64 (x j).out) ∧ w.cell? ⟨g, o + j * 5 + 2, none⟩ = some (.int .i64 (x j).alt) ∧ w.cell? ⟨g, o + j * 5 + 3, none⟩ = some (.int .i64 (x j).arg) ∧ w.cell? ⟨g, o + j * 5 + 4, none⟩ = some (.slice (x j).ra (x j).rn (x j).rc) ∧ Rml w (x j).ra (x j).rf (x j).rn ∧ (x j).rn * 8 ≤ 140737488351232 := by
  rcases h with h | ⟨g, o, rfl, hg, hat⟩
  · omega
  · exact ⟨g, o, rfl, hg, hat j hj⟩
/-- Are all instructions sound? -/
def allB (x : Nat → In) (m g : Int) : Nat → Bool
  | 0 => true
  | n + 1 => allB x m g n && sdB (x n).op (x n).out (x n).alt (x n).arg (x n).rn (x n).rf m g
theorem allB_bad {x : Nat → In} {m g : Int} {i : Nat} : ∀ {n : Nat}, i < n → sdB (x i).op (x i).out (x i).alt (x i).arg (x i).rn (x i).rf m g = false → allB x m g n = false
  | 0, h, _ => by omega
  | n + 1, h, hb => by
    unfold allB
    by_cases e : i = n
    · subst e; rw [hb]; simp
    · rw [allB_bad (n := n) (by omega) hb]; rfl
theorem allB_succ {x : Nat → In} {m g : Int} {i : Nat} (h : allB x m g i = true) (hb : sdB (x i).op (x i).out (x i).alt (x i).arg (x i).rn (x i).rf m g = true) : allB x m g (i + 1) = true := by
  unfold allB
  rw [h, hb]
  rfl
/-- May a program be run? -/
def SdB (x : Nat → In) (n : Nat) (st gr : Int) (nn : Nat) : Bool := decide (n ≤ 10000) && plB st n && decide (gr ≤ 100) && decide ((nn : Int) = gr) && allB x n gr n

theorem bcell2 {w w' : World} {p : Addr} {v : Value} (hb : Below w.heap.size w w') (h : w.cell? p = some v) : w'.cell? p = some v := (hb.cell (World.block_lt_of_cell? w _ h)).trans h
end Go.Proofs.YtajaadagejhllaaGreatDoor
/- RxprogSounds: same ranges, same texts. -/
namespace Go.Proofs.YtajaadagejhllaaGreatDoor
open Go.RowKit

/-- Texts that a slice shows. -/
def Sml (w : World) (a : Option Addr) (f : Nat → ByteArray) (n : Nat) : Prop := n = 0 ∨ ∃ g o, a = some ⟨g, o, none⟩ ∧ g < w.heap.size ∧ ∀ j, j < n → w.cell? ⟨g, o + j, none⟩ = some (.string (f j))
theorem Sml.below {w w' : World} {a : Option Addr} {f : Nat → ByteArray} {n : Nat} (h : Sml w a f n) (hb : Below w.heap.size w w') : Sml w' a f n := by
  rcases h with h | ⟨g, o, rfl, hg, hc⟩
  · exact .inl h
  · exact .inr ⟨g, o, rfl, Nat.lt_of_lt_of_le hg hb.size, fun j hj => (hb.cell (p := ⟨g, o + j, none⟩) hg).trans (hc j hj)⟩
theorem Sml.at {w : World} {a : Option Addr} {f : Nat → ByteArray} {n : Nat} (h : Sml w a f n) (j : Nat) (hj : j < n) : ∃ g o, a = some ⟨g, o, none⟩ ∧ g < w.heap.size ∧ w.cell? ⟨g, o + j, none⟩ = some (.string (f j)) := by
  rcases h with h | ⟨g, o, rfl, hg, hat⟩
  · omega
  · exact ⟨g, o, rfl, hg, hat j hj⟩
end Go.Proofs.YtajaadagejhllaaGreatDoor
/- RxprogSounds: rows of instructions of one's own; fresh copies. -/
namespace Go.Proofs.YtajaadagejhllaaGreatDoor
open Go.RowKit

/-- But for the blocks of M all is as it was. -/
structure Kp (M : Nat → Prop) (w w' : World) : Prop where
  os : w'.os = w.os
  tape : w'.tape = w.tape
  output : w'.output = w.output
  size : w.heap.size ≤ w'.heap.size
  block : ∀ k, k < w.heap.size → ¬ M k → w'.heap[k]? = w.heap[k]?
namespace Kp
variable {M N : Nat → Prop} {a b c w w' : World}
theorem refl (M : Nat → Prop) (w : World) : Kp M w w := ⟨rfl, rfl, rfl, Nat.le_refl _, fun _ _ _ => rfl⟩
theorem trans (h : Kp M a b) (k : Kp M b c) : Kp M a c := ⟨k.os.trans h.os, k.tape.trans h.tape, k.output.trans h.output, Nat.le_trans h.size k.size, fun i hi hm => (k.block i (Nat.lt_of_lt_of_le hi h.size) hm).trans (h.block i hi hm)⟩
/-- .. where the second may change new blocks besides. -/
theorem trans' (h : Kp M a b) (k : Kp N b c) (hn : ∀ i, i < a.heap.size → N i → M i) : Kp M a c := ⟨k.os.trans h.os, k.tape.trans h.tape, k.output.trans h.output, Nat.le_trans h.size k.size, fun i hi hm => (k.block i (Nat.lt_of_lt_of_le hi h.size) (fun x => hm (hn i hi x))).trans (h.block i hi hm)⟩
theorem mono (h : Kp M a b) (hn : ∀ i, i < a.heap.size → M i → N i) : Kp N a b := ⟨h.os, h.tape, h.output, h.size, fun i hi hm => h.block i hi (fun x => hm (hn i hi x))⟩
theorem of (h : Below w.heap.size w w') : Kp M w w' := ⟨h.os, h.tape, h.output, h.size, fun k hk _ => h.block k hk⟩
theorem below {B : Nat} (h : Kp M w w') (hB : B ≤ w.heap.size) (hm : ∀ k, k < B → ¬ M k) : Below B w w' := ⟨h.os, h.tape, h.output, h.size, fun k hk => h.block k (by omega) (hm k hk)⟩
theorem drew (h : Kp M a w) : Kp M a w.drew := ⟨h.os, h.tape, h.output, h.size, h.block⟩
theorem alloc (h : Kp M a w) (o : Obj) : Kp M a (w.alloc o) := h.trans (of ((Below.refl _ _).alloc (Nat.le_refl _) o))
theorem setCell (h : Kp M a w) {p : Addr} (hp : M p.block) (u : Value) : Kp M a (w.setCell p u) :=
  h.trans ⟨rfl, rfl, rfl, by simp [World.setCell], fun k hk hm => Below.heap_setCell _ _ _ _ (fun e => hm (e ▸ hp))⟩
theorem grown {row : Option Nat} (h : Kp M a w) (hg : w.grownBy w' row) (hr : ∀ k, row = some k → k < w.heap.size → M k) : Kp M a w' :=
  h.trans ⟨hg.os, hg.tape, hg.output, hg.size, fun k hk hm => hg.block k hk (fun e => hm (hr k e.symm hk))⟩
theorem cell {p : Addr} {v : Value} (h : Kp M w w') (hc : w.cell? p = some v) (hm : ¬ M p.block) : w'.cell? p = some v := by
  rw [World.cell?_of_block (w := w) (h.block p.block (World.block_lt_of_cell? w p hc) hm)]
  exact hc
theorem frozen {p : Addr} {v : Value} {r : Bool} (h : Kp M w w') (hc : w.cell? p = some v) (hf : w.frozen? p = r) (hm : ¬ M p.block) : w'.frozen? p = r := by
  rw [World.frozen?_of_block (w := w) (h.block p.block (World.block_lt_of_cell? w p hc) hm)]
  exact hf
theorem row {S e s n : Nat} {v : Value} {xs : List Value} (h : Kp M w w') (o : w.ownsRow S e s v n xs) (hm : ∀ k, v.ownBlock = some k → ¬ M k) : w'.ownsRow S e s v n xs := by
  refine ⟨o.1, ?_⟩
  rcases o.2 with h0 | ⟨g, cap, cur, hv, hB, hg, r⟩
  · exact .inl h0
  · exact .inr ⟨g, cap, cur, hv, hB, (h.block g (Array.getElem?_eq_some_iff.1 hg).1 (hm g (by rw [hv]; rfl))).trans hg, r⟩
end Kp


/-- An append whose run is known. -/
theorem wpList_append_run {P : Program} {ops : Array Oper} {rest : List Oper} {o : Oper} {a : Act} {w w' : World} {v' : Value} {Q : Exit → Act → World → Prop} (hw : Region.wanted o (yielded ops a.tmps) = true) (s x : Operand) (t tx : TypeId)
    (ho : o.op = .call { callee := .builtin .append, args := #[s, x], argTypes := #[t, tx] }) (vs vx : Value) (hs : a.eval s = vs) (hx : a.eval x = vx)
    (hr : (Builtin.append_ #[t, tx] o.type #[vs, vx]).run P w = .ok v' w') (h : wpList P ops Q rest (a.put o.dst v') w') : wpList P ops Q (o :: rest) a w := by
  unfold wpList
  rw [if_pos hw]
  left
  unfold Oper.wp execOp
  simp only [ho, resolve, invoke, builtin, Sem.run_bind, Sem.run_pure, Result.andThen_ok, List.map_toArray, List.map_cons, List.map_nil, hs, hx, hr]
  exact h
theorem step_append_run {P : Program} {ops : Array Oper} {o : Oper} {a : Act} {w w' : World} {v' : Value} {K : Act → World → Prop} {Q : Exit → Act → World → Prop} {E : Prop} (hgd : o.guard = none) (s x : Operand) (t tx : TypeId)
    (ho : o.op = .call { callee := .builtin .append, args := #[s, x], argTypes := #[t, tx] }) (vs vx : Value) (hs : a.eval s = vs) (hx : a.eval x = vx)
    (hr : (Builtin.append_ #[t, tx] o.type #[vs, vx]).run P w = .ok v' w') (h : K (a.put o.dst v') w') : if Region.wanted o (yielded ops a.tmps) = true then Oper.wp P o a w K Q else E := by
  have hw : Region.wanted o (yielded ops a.tmps) = true := by simp [Region.wanted, hgd]
  rw [if_pos hw]
  unfold Oper.wp execOp
  simp only [ho, resolve, invoke, builtin, Sem.run_bind, Sem.run_pure, Result.andThen_ok, List.map_toArray, List.map_cons, List.map_nil, hs, hx, hr]
  exact h

theorem info_parts {P : Program} {e : TypeId} {z : Value} {size bytes : Nat} (h : (P.info? e).map (fun i => (i.zero, i.size, i.bytes)) = some (some z, size, bytes)) : ∃ i, P.info? e = some i ∧ i.zero = some z ∧ i.size = size ∧ i.bytes = bytes := by
  cases hi : P.info? e with
  | none => rw [hi] at h; cases h
  | some i =>
    rw [hi] at h
    simp at h
    exact ⟨i, rfl, h.1, h.2.1, h.2.2⟩
/-- append([]T{}, a...). -/
theorem fresh_copy {P : Program} (w : World) (t e : TypeId) (z : Value) (size bytes : Nat) (ht : P.underlying t = some (.slice e)) (hin : (P.info? e).map (fun i => (i.zero, i.size, i.bytes)) = some (some z, size, bytes)) (hzs : z.cells.size = size) (hsz : 0 < size)
    (a : Option Addr) (m c : Nat) (news : List Value) (ha : a = none → m = 0 ∧ c = 0) (hl : news.length = m * size) (hnews : ∀ p, a = some p → ∀ j u, news[j]? = some u → w.cell? (p.add j) = some u) (h1 : ∀ u ∈ news, u.oneCell' = true) (hm : m ≤ maxLen) (hby : m * bytes ≤ 140737488355328) :
    ∃ g cap w', (Builtin.append_ #[t, t] t #[.slice (some ⟨w.heap.size, 0, none⟩) 0 0, .slice a m c]).run P (w.alloc (.cells #[] e)) = .ok (.slice (some ⟨g, 0, none⟩) m cap) w' ∧ w'.ownsRow w.heap.size e size (.slice (some ⟨g, 0, none⟩) m cap) m news ∧ Below w.heap.size w w' ∧ w.heap.size ≤ g ∧ g < w'.heap.size := by
  obtain ⟨i, hi, hz, hs, hb⟩ := info_parts hin
  have o0 : (w.alloc (.cells #[] e)).ownsRow w.heap.size e size (.slice (some ⟨w.heap.size, 0, none⟩) 0 0) 0 [] := World.ownsRow_lit w #[] 0 (Nat.le_refl _) (Nat.zero_le _) (by simp)
  have b0 : Below w.heap.size w (w.alloc (.cells #[] e)) := (Below.refl _ w).alloc (Nat.le_refl _) _
  cases a with
  | none =>
    obtain ⟨rfl, rfl⟩ := ha rfl
    have hn : news = [] := List.eq_nil_of_length_eq_zero (by simpa using hl)
    subst hn
    exact ⟨w.heap.size, 0, _, run_append_owned_none _ w.heap.size t t e i size ht hi _ 0 [] o0, o0, b0, Nat.le_refl _, by simp⟩
  | some p =>
    obtain ⟨v', w', r, o', gb, hv, _⟩ := run_append_own_at (P := P) (w.alloc (.cells #[] e)) w.heap.size t t e i z size bytes ht hi hz hs hb hzs hsz _ 0 [] o0 p m c news hl (fun j u hj => bcell2 b0 (hnews p rfl j u hj)) h1 (by omega) (by rw [Nat.zero_add]; exact hby) b0.size
    rw [Nat.zero_add, List.nil_append] at o'
    have hB : Below w.heap.size w w' := b0.trans ⟨gb.os, gb.tape, gb.output, gb.size, fun k hk => gb.block k (Nat.lt_of_lt_of_le hk b0.size) (fun e => by
      have e' : k = w.heap.size := Option.some.inj e
      omega)⟩
    rcases o'.2 with ⟨h0, _⟩ | ⟨g, cap, cur, rfl, hg, hh, _⟩
    · have := (hv.1 h0).1
      cases this
    · exact ⟨g, cap, w', r, o', hB, hg, (Array.getElem?_eq_some_iff.1 hh).1⟩

def i5 (x : In) : List Value := [.int .i64 x.op, .int .i64 x.out, .int .i64 x.alt, .int .i64 x.arg, .slice x.ra x.rn x.rc]
def n5 (f : Nat → In) (n : Nat) : List Value := (List.range n).flatMap fun j => i5 (f j)
def up {α : Type} (f : Nat → α) (j : Nat) (u : α) : Nat → α := fun i => if i = j then u else f i
theorem up_same {α : Type} (f : Nat → α) (j : Nat) (u : α) : up f j u j = u := if_pos rfl
theorem up_other {α : Type} (f : Nat → α) (j : Nat) (u : α) (i : Nat) (h : i ≠ j) : up f j u i = f i := if_neg h
theorem n5_succ (f : Nat → In) (n : Nat) : n5 f (n + 1) = n5 f n ++ i5 (f n) := by
  unfold n5
  rw [List.range_succ, List.flatMap_append]
  simp
theorem n5_len (f : Nat → In) (n : Nat) : (n5 f n).length = n * 5 := by
  induction n with
  | zero => rfl
  | succ n ih => rw [n5_succ, List.length_append, ih]; simp [i5]; omega
theorem n5_get (f : Nat → In) : ∀ (n j k : Nat), j < n → k < 5 → (n5 f n)[j * 5 + k]? = (i5 (f j))[k]?
  | 0, j, k, h, _ => by omega
  | n + 1, j, k, h, hk => by
    rw [n5_succ]
    by_cases hj : j < n
    · rw [List.getElem?_append_left (by rw [n5_len]; omega)]
      exact n5_get f n j k hj hk
    · obtain rfl : j = n := by omega
      rw [List.getElem?_append_right (by rw [n5_len]; omega), n5_len]
      congr 1
      omega
theorem n5_congr (f g : Nat → In) (n : Nat) (h : ∀ j, j < n → f j = g j) : n5 f n = n5 g n := by
  induction n with
  | zero => rfl
  | succ n ih => rw [n5_succ, n5_succ, ih fun j hj => h j (by omega), h n (by omega)]
theorem n5_set (f : Nat → In) (j : Nat) (a : Option Addr) (c : Nat) : ∀ n, j < n → (n5 f n).set (j * 5 + 4) (.slice a (f j).rn c) = n5 (up f j { f j with ra := a, rc := c }) n
  | 0, h => by omega
  | n + 1, h => by
    rw [n5_succ, n5_succ]
    by_cases hj : j < n
    · rw [List.set_append_left _ _ (by rw [n5_len]; omega), n5_set f j a c n hj, up_other _ _ _ n (by omega)]
    · obtain rfl : j = n := by omega
      rw [List.set_append_right _ _ (by rw [n5_len]; omega), n5_len, up_same, n5_congr f _ j (fun k hk => (up_other f j _ k (by omega)).symm)]
      congr 1
      rw [show j * 5 + 4 - j * 5 = 4 by omega]
      rfl
/-- Ranges as cells. -/
def r2 (x : Rg) : List Value := [.int .i32 x.1, .int .i32 x.2]
def rc2 (f : Nat → Rg) (n : Nat) : List Value := (List.range n).flatMap fun j => r2 (f j)
theorem rc2_succ (f : Nat → Rg) (n : Nat) : rc2 f (n + 1) = rc2 f n ++ r2 (f n) := by
  unfold rc2
  rw [List.range_succ, List.flatMap_append]
  simp
theorem rc2_len (f : Nat → Rg) (n : Nat) : (rc2 f n).length = n * 2 := by
  induction n with
  | zero => rfl
  | succ n ih => rw [rc2_succ, List.length_append, ih]; simp [r2]; omega
theorem rc2_get (f : Nat → Rg) : ∀ (n j k : Nat), j < n → k < 2 → (rc2 f n)[j * 2 + k]? = (r2 (f j))[k]?
  | 0, j, k, h, _ => by omega
  | n + 1, j, k, h, hk => by
    rw [rc2_succ]
    by_cases hj : j < n
    · rw [List.getElem?_append_left (by rw [rc2_len]; omega)]
      exact rc2_get f n j k hj hk
    · obtain rfl : j = n := by omega
      rw [List.getElem?_append_right (by rw [rc2_len]; omega), rc2_len]
      congr 1
      omega
theorem Rml.cells {w : World} {p : Addr} {f : Nat → Rg} {n : Nat} (h : Rml w (some p) f n) : ∀ j u, (rc2 f n)[j]? = some u → w.cell? (p.add j) = some u := by
  intro j u hj
  have hjl : j < n * 2 := by
    have := (List.getElem?_eq_some_iff.1 hj).1
    rw [rc2_len] at this
    exact this
  rcases h with h | ⟨g, o, e, _, hc⟩
  · omega
  · cases e
    have hj2 : j / 2 * 2 + j % 2 = j := by omega
    rw [← hj2, rc2_get f n (j / 2) (j % 2) (by omega) (by omega)] at hj
    obtain ⟨c0, c1⟩ := hc (j / 2) (by omega)
    rw [Go.WideShapes.add_plain]
    rcases Nat.mod_two_eq_zero_or_one j with h0 | h0
    · rw [h0] at hj
      simp [r2] at hj
      rw [show o + j = o + j / 2 * 2 by omega, c0, hj]
    · rw [h0] at hj
      simp [r2] at hj
      rw [show o + j = o + j / 2 * 2 + 1 by omega, c1, hj]
theorem Rml.of_row {w : World} {S g c n : Nat} {f : Nat → Rg} (h : w.ownsRow S 58 2 (.slice (some ⟨g, 0, none⟩) n c) n (rc2 f n)) (hg : g < w.heap.size) : Rml w (some ⟨g, 0, none⟩) f n := by
  refine .inr ⟨g, 0, rfl, hg, fun j hj => ?_⟩
  rw [Nat.zero_add]
  have h0 := World.ownsRow.cellAt h (j * 2) (by omega)
  have h1 := World.ownsRow.cellAt h (j * 2 + 1) (by omega)
  have e0 := rc2_get f n j 0 hj (by omega)
  have e1 := rc2_get f n j 1 hj (by omega)
  rw [Nat.add_zero] at e0
  exact ⟨h0.trans e0, h1.trans e1⟩
theorem Nml.cells {w : World} {p : Addr} {x : Nat → In} {n : Nat} (h : Nml w (some p) x n) : ∀ j u, (n5 x n)[j]? = some u → w.cell? (p.add j) = some u := by
  intro j u hj
  have hjl : j < n * 5 := by
    have := (List.getElem?_eq_some_iff.1 hj).1
    rw [n5_len] at this
    exact this
  rcases h with h | ⟨g, o, e, _, hc⟩
  · omega
  · cases e
    have hj2 : j / 5 * 5 + j % 5 = j := by omega
    rw [← hj2, n5_get x n (j / 5) (j % 5) (by omega) (by omega)] at hj
    obtain ⟨c0, c1, c2, c3, c4, _⟩ := hc (j / 5) (by omega)
    rw [Go.WideShapes.add_plain]
    have h5 : j % 5 < 5 := by omega
    rcases (by omega : j % 5 = 0 ∨ j % 5 = 1 ∨ j % 5 = 2 ∨ j % 5 = 3 ∨ j % 5 = 4) with h0 | h0 | h0 | h0 | h0
    · rw [h0] at hj; simp [i5] at hj; rw [show o + j = o + j / 5 * 5 by omega, c0, hj]
    · rw [h0] at hj; simp [i5] at hj; rw [show o + j = o + j / 5 * 5 + 1 by omega, c1, hj]
    · rw [h0] at hj; simp [i5] at hj; rw [show o + j = o + j / 5 * 5 + 2 by omega, c2, hj]
    · rw [h0] at hj; simp [i5] at hj; rw [show o + j = o + j / 5 * 5 + 3 by omega, c3, hj]
    · rw [h0] at hj; simp [i5] at hj; rw [show o + j = o + j / 5 * 5 + 4 by omega, c4, hj]
theorem n5_one (f : Nat → In) (n : Nat) : ∀ u ∈ n5 f n, u.oneCell' = true := by
  intro u hu
  unfold n5 at hu
  rw [List.mem_flatMap] at hu
  obtain ⟨j, _, hu⟩ := hu
  simp [i5] at hu
  rcases hu with rfl | rfl | rfl | rfl | rfl <;> rfl
theorem rc2_one (f : Nat → Rg) (n : Nat) : ∀ u ∈ rc2 f n, u.oneCell' = true := by
  intro u hu
  unfold rc2 at hu
  rw [List.mem_flatMap] at hu
  obtain ⟨j, _, hu⟩ := hu
  simp [r2] at hu
  rcases hu with rfl | rfl <;> rfl
def sc (f : Nat → ByteArray) (n : Nat) : List Value := (List.range n).map fun j => .string (f j)
theorem sc_len (f : Nat → ByteArray) (n : Nat) : (sc f n).length = n := by simp [sc]
theorem sc_one (f : Nat → ByteArray) (n : Nat) : ∀ u ∈ sc f n, u.oneCell' = true := by
  intro u hu
  unfold sc at hu
  rw [List.mem_map] at hu
  obtain ⟨j, _, rfl⟩ := hu
  rfl
theorem Sml.cells {w : World} {p : Addr} {f : Nat → ByteArray} {n : Nat} (h : Sml w (some p) f n) : ∀ j u, (sc f n)[j]? = some u → w.cell? (p.add j) = some u := by
  intro j u hj
  have hjl : j < n := by
    have := (List.getElem?_eq_some_iff.1 hj).1
    rw [sc_len] at this
    exact this
  rcases h with h | ⟨g, o, e, _, hc⟩
  · omega
  · cases e
    rw [Go.WideShapes.add_plain, hc j hjl]
    simp [sc, List.getElem?_range hjl] at hj
    rw [hj]
theorem Sml.of_row {w : World} {S g c n : Nat} {f : Nat → ByteArray} (h : w.ownsRow S 9 1 (.slice (some ⟨g, 0, none⟩) n c) n (sc f n)) (hg : g < w.heap.size) : Sml w (some ⟨g, 0, none⟩) f n := by
  refine .inr ⟨g, 0, rfl, hg, fun j hj => ?_⟩
  rw [Nat.zero_add, World.ownsRow.cellAt h j (by omega)]
  simp [sc, List.getElem?_range hj]
theorem infS : (Tryz.prog.info? 9).map (fun i => (i.zero, i.size, i.bytes)) = some (some (.string ⟨#[]⟩), 1, 16) := by kernel_rfl
theorem infG : (Tryz.prog.info? 58).map (fun i => (i.zero, i.size, i.bytes)) = some (some (.agg #[.int .i32 0, .int .i32 0]), 2, 8) := by kernel_rfl
end Go.Proofs.YtajaadagejhllaaGreatDoor
