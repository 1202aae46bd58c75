/- Rows of bytes that a call owns. -/
import Derived.Test.YtdnbkgbgpfmipabDoorNum
import Derived.Test.YtdnbkgbgpfmipabDoorShelfC
import Derived.Test.YtdnbkgbgpfmipabDoorRef
import Derived.Deep.AppendSrc
namespace Go.Proofs.YtdnbkgbgpfmipabDoor
open Go.RowKit Go.Lib

/-- The cells of a list of bytes. -/
def bc (l : List Int) : List Value := l.map (Value.int .u8)
theorem bc_len (l : List Int) : (bc l).length = l.length := by simp [bc]
theorem bc_app (l m : List Int) : bc (l ++ m) = bc l ++ bc m := by simp [bc]
theorem bc_one (l : List Int) : ∀ u ∈ bc l, u.oneCell' = true := by
  intro u hu
  obtain ⟨x, _, rfl⟩ := List.mem_map.1 hu
  rfl
theorem info5 : (Tryd.prog.info? 5).map (fun i => (i.zero, i.size, i.bytes)) = some (some (.int .u8 0), 1, 1) := by kernel_rfl

/-- An append whose run is known, guarded or not. -/
theorem wpList_append_run {P : Program} {ops : Array Oper} {rest : List Oper} {o : Oper} {a : Act} {w w' : World} {v' : Value} {Q : Exit → Act → World → Prop} (hw : Region.wanted o (yielded ops a.tmps) = true) (s x : Operand) (t tx : TypeId)
    (ho : o.op = .call { callee := .builtin .append, args := #[s, x], argTypes := #[t, tx] }) (vs vx : Value) (hs : a.eval s = vs) (hx : a.eval x = vx)
    (hr : (Builtin.append_ #[t, tx] o.type #[vs, vx]).run P w = .ok v' w') (h : wpList P ops Q rest (a.put o.dst v') w') : wpList P ops Q (o :: rest) a w := by
  unfold wpList
  rw [if_pos hw]
  left
  unfold Oper.wp execOp
  simp only [ho, resolve, invoke, builtin, Sem.run_bind, Sem.run_pure, Result.andThen_ok, List.map_toArray, List.map_cons, List.map_nil, hs, hx, hr]
  exact h

theorem owns_below {w w' : World} {S : Nat} {v : Value} {n : Nat} {xs : List Value} (h : w.ownsRow S 5 1 v n xs) (hb : Below w.heap.size w w') : w'.ownsRow S 5 1 v n xs := by
  refine ⟨h.1, ?_⟩
  rcases h.2 with h0 | ⟨g, cap, cur, hv, hB, hg, r⟩
  · exact .inl h0
  · exact .inr ⟨g, cap, cur, hv, hB, (hb.block g (Array.getElem?_eq_some_iff.1 hg).1).trans hg, r⟩

/-- Bytes just built put behind a row of the call's own. -/
theorem append_built (w : World) (S : Nat) (v : Value) (l xs : List Int) (hS : S ≤ w.heap.size) (hn : l.length + xs.length ≤ 140737488355328) (o : w.ownsRow S 5 1 v l.length (bc l)) :
    ∃ v' w', (Builtin.append_ #[29, 29] 29 #[v, .slice (some ⟨w.heap.size, 0, none⟩) xs.length xs.length]).run Tryd.prog (w.alloc (.cells (bc xs).toArray 5)) = .ok v' w' ∧
      w'.ownsRow S 5 1 v' (l ++ xs).length (bc (l ++ xs)) ∧ Below S w w' := by
  obtain ⟨i0, hi, hz0, hz1, hz2⟩ := info_parts info5
  have o0 := o.alloc (.cells (bc xs).toArray 5)
  obtain ⟨v', w', r, o', g, _⟩ := run_append_own (P := Tryd.prog) (w.alloc (.cells (bc xs).toArray 5)) S 29 29 5 i0 (.int .u8 0) 1 1 Tryd.underlying29 hi hz0 hz1 hz2 rfl (by decide) _ l.length (bc l) o0 ⟨w.heap.size, 0, none⟩ xs.length xs.length (bc xs) (by simp [bc])
    (fun j u hj => by
      rw [Go.WideShapes.add_plain]
      unfold World.cell?
      rw [show (w.alloc (.cells (bc xs).toArray 5)).heap[w.heap.size]? = some (.cells (bc xs).toArray 5) from heap_alloc_new w _]
      simpa using hj) (bc_one xs) (by unfold maxLen; omega) (by omega) (by simp; omega)
  refine ⟨v', w', r, ?_, ?_⟩
  · rw [List.length_append, bc_app]; exact o'
  · exact ((Below.refl S w).alloc hS _).grown g (by simp; omega) (fun k hk => (o.lt k hk).1)

theorem append_one (w : World) (S : Nat) (v : Value) (l : List Int) (x : Int) (hS : S ≤ w.heap.size) (hn : l.length + 1 ≤ 140737488355328) (o : w.ownsRow S 5 1 v l.length (bc l)) :
    ∃ v' w', (Builtin.append_ #[29, 29] 29 #[v, .slice (some ⟨w.heap.size, 0, none⟩) 1 1]).run Tryd.prog (w.alloc (.cells #[.int .u8 x] 5)) = .ok v' w' ∧
      w'.ownsRow S 5 1 v' (l ++ [x]).length (bc (l ++ [x])) ∧ Below S w w' := append_built w S v l [x] hS hn o

/-- A byte's escape: the number that k digits of a base from a place on tell. -/
def byteS (e : ByteArray) (p k : Nat) (base : Int) : Option (List Int × Nat) :=
  match num (e.extract p e.size) k base with
  | some n => if n ≤ 255 then some ([n], p + k) else none
  | none => none
/-- A rune's escape. -/
def runeS (e : ByteArray) (k : Nat) : Option (List Int × Nat) :=
  match num (e.extract 1 e.size) k 16 with
  | some n => if isRune n then some (formL n, 1 + k) else none
  | none => none

set_option maxHeartbeats 1000000 in
theorem readByte_none (v : Value) (e : ByteArray) (p k : Nat) (base : Int) (w : World) (hb : base = 8 ∨ base = 16) (hk : k ≤ 8) (hp : p ≤ e.size) (h : byteS e p k base = none) :
    Calls Tryd.prog 58 #[v, .string e, .int .i64 p, .int .i64 k, .int .u32 base] w fun r w' => r = .returned (.tuple #[v, .int .i64 0]) ∧ Below w.heap.size w w' := by
  have kn := number_any (e.extract p e.size) k base w hb hk
  have hpi : (p : Int) ≤ e.size := by omega
  unfold byteS at h
  cases hn : num (e.extract p e.size) k base with
  | none =>
    rw [hn] at kn
    clear h hn hb
    go_enter Tryd.func58, Tryd.ntmps58
    go_wp2_with (go_at_call 72; go_fit kn; rintro x w1 ⟨rfl, hb1⟩)
    go_ret2
    exact ⟨rfl, hb1⟩
  | some n =>
    rw [hn] at kn h
    have hbd := num_bd _ k base hb hk n hn
    have hn2 : 255 < n := by
      by_cases hc : n ≤ 255
      · simp [hc] at h
      · omega
    have kn' : Calls Tryd.prog 72 #[.string (e.extract p e.size), .int .i64 k, .int .u32 base] w fun r w' => r = .returned (.tuple #[.int .u32 n, .bool true]) ∧ Below w.heap.size w w' := kn
    clear h hn hb kn
    go_enter Tryd.func58, Tryd.ntmps58
    go_wp2_with (go_at_call 72; go_fit kn'; rintro x w1 ⟨rfl, hb1⟩)
    go_ret2
    exact ⟨rfl, hb1⟩

set_option maxHeartbeats 1000000 in
set_option maxRecDepth 100000 in
theorem readByte_some (S : Nat) (v : Value) (l xs : List Int) (c : Nat) (e : ByteArray) (p k : Nat) (base : Int) (w : World) (hb : base = 8 ∨ base = 16) (hk : k ≤ 8) (hp : p ≤ 8) (hpe : p ≤ e.size)
    (hS : S ≤ w.heap.size) (hn : l.length + 1 ≤ 140737488355328) (o : w.ownsRow S 5 1 v l.length (bc l)) (h : byteS e p k base = some (xs, c)) :
    Calls Tryd.prog 58 #[v, .string e, .int .i64 p, .int .i64 k, .int .u32 base] w fun r w' => ∃ v', r = .returned (.tuple #[v', .int .i64 c]) ∧ w'.ownsRow S 5 1 v' (l ++ xs).length (bc (l ++ xs)) ∧ Below S w w' := by
  have kn := number_any (e.extract p e.size) k base w hb hk
  have hpi : (p : Int) ≤ e.size := by omega
  unfold byteS at h
  cases hn2 : num (e.extract p e.size) k base with
  | none => rw [hn2] at h; cases h
  | some n =>
    rw [hn2] at kn h
    have hbd := num_bd _ k base hb hk n hn2
    have hc : n ≤ 255 := by
      by_cases hc : n ≤ 255
      · exact hc
      · simp [hc] at h
    simp only [hc, if_true, Option.some.injEq, Prod.mk.injEq] at h
    obtain ⟨rfl, rfl⟩ := h
    have kn' : Calls Tryd.prog 72 #[.string (e.extract p e.size), .int .i64 k, .int .u32 base] w fun r w' => r = .returned (.tuple #[.int .u32 n, .bool true]) ∧ Below w.heap.size w w' := kn
    have HA : Hid (∀ w1, Below w.heap.size w w1 → ∃ v' w', (Builtin.append_ #[29, 29] 29 #[v, .slice (some ⟨w1.heap.size, 0, none⟩) 1 1]).run Tryd.prog (w1.alloc (.cells #[.int .u8 n] 5)) = .ok v' w' ∧
      w'.ownsRow S 5 1 v' (l ++ [n]).length (bc (l ++ [n])) ∧ Below S w1 w') := fun w1 hb1 => append_one w1 S v l n (Nat.le_trans hS hb1.size) hn (owns_below o hb1)
    clear hn2 hb kn o
    go_enter Tryd.func58, Tryd.ntmps58
    go_wp2_with fail
    go_fit kn'
    rintro x w1 ⟨rfl, hb1⟩
    obtain ⟨v', w', r1, o1, b1⟩ := HA.out w1 hb1
    go_wp2_with (at_builtin; refine wpList_append_run rfl (.tmp 30) (.tmp 33) 29 29 rfl _ _ rfl rfl r1 ?_)
    go_ret2
    exact ⟨v', by go_num, o1, (hb1.mono hS).trans b1⟩
end Go.Proofs.YtdnbkgbgpfmipabDoor
