/- Rows of things; it; equal things. -/
import Derived.Test.YtcgpjmpppajfdaaHi
import Derived.Test.YtcgpjmpppajfdaaHj
import Derived.Test.YtcgpjmpppajfdaaHm
import Derived.Laws.StructEq
namespace Go.Proofs.Ytcgpjmpppajfdaa
open Go.RowKit

theorem eqIt (a b c d : Int) (w : World) : (Op.equalIn 10000 24 (.agg #[.int .i64 a, .int .i64 b]) (.agg #[.int .i64 c, .int .i64 d])).run Try.prog w = .ok (a == c && b == d) w := by
  have u3 := Try.underlying3
  have a3 := Try.isAgg3
  have z3 := Try.sizeOf3
  have hS : Try.prog.underlying 24 = some (.struct (Try.prog.fieldsOf 24)) := by kernel_rfl
  rw [show (10000 : Nat) = 9999 + 1 from rfl, run_equalIn_agg w 9999 24 _ _ hS (by kernel_rfl)]
  simp only [Program.fieldsOf, Try.underlying24]
  go_simp
  by_cases h1 : a = c <;> by_cases h2 : b = d <;> simp [h1, h2]
def eqB (x y : It) : Bool := x.1 == y.1 && x.2 == y.2
theorem eqB_iff (x y : It) : eqB x y = true ↔ x = y := by
  obtain ⟨a, b⟩ := x
  obtain ⟨c, d⟩ := y
  simp [eqB]
theorem eq_it (a b c d : Int) (w : World) : (binOp .eql 24 (.agg #[.int .i64 a, .int .i64 b]) (.agg #[.int .i64 c, .int .i64 d])).run Try.prog w = .ok (.bool (eqB (a, b) (c, d))) w := by
  rw [run_eql_struct, eqIt]
  rfl
theorem ne_it (a b c d : Int) (w : World) : (binOp .neq 24 (.agg #[.int .i64 a, .int .i64 b]) (.agg #[.int .i64 c, .int .i64 d])).run Try.prog w = .ok (.bool (!eqB (a, b) (c, d))) w := by
  rw [run_neq_struct, eqIt]
  rfl
theorem it_any (a b : Int) (w : World) : Calls Try.prog 9 #[.int .i64 a, .int .i64 b] w fun r w' => r = .returned (.agg #[.int .i64 a, .int .i64 b]) ∧ Below w.heap.size w w' := by
  have HG : Hid ((w.alloc (.cells #[.int .i64 a, .int .i64 b] 24)).heap[w.heap.size]? = some (.cells #[.int .i64 a, .int .i64 b] 24)) := heap_alloc_new w _
  have HB : Hid (Below w.heap.size w (w.alloc (.cells #[.int .i64 a, .int .i64 b] 24))) := (Below.refl _ w).alloc (Nat.le_refl _) _
  go_enter Try.func9, Try.ntmps9
  go_wp2
  refine bodyPost_ret (results_cell_row rfl _ _ w.heap.size 24 #[.int .i64 a, .int .i64 b] (0, 0) _ rfl HG.out Try.underlying24 rfl infIs) rfl ?_
  exact ⟨rfl, HB.out⟩

def i2 (x : It) : List Value := [.int .i64 x.1, .int .i64 x.2]
def ic (f : Nat → It) (n : Nat) : List Value := (List.range n).flatMap fun j => i2 (f j)
theorem ic_succ (f : Nat → It) (n : Nat) : ic f (n + 1) = ic f n ++ i2 (f n) := by
  unfold ic
  rw [List.range_succ, List.flatMap_append]
  simp
theorem ic_len (f : Nat → It) (n : Nat) : (ic f n).length = n * 2 := by
  induction n with
  | zero => rfl
  | succ n ih => rw [ic_succ, List.length_append, ih]; simp [i2]; omega
theorem ic_get (f : Nat → It) : ∀ (n j k : Nat), j < n → k < 2 → (ic f n)[j * 2 + k]? = (i2 (f j))[k]?
  | 0, j, k, h, _ => by omega
  | n + 1, j, k, h, hk => by
    rw [ic_succ]
    by_cases hj : j < n
    · rw [List.getElem?_append_left (by rw [ic_len]; omega)]
      exact ic_get f n j k hj hk
    · obtain rfl : j = n := by omega
      rw [List.getElem?_append_right (by rw [ic_len]; omega), ic_len]
      congr 1
      omega
theorem ic_congr (f g : Nat → It) (n : Nat) (h : ∀ j, j < n → f j = g j) : ic f n = ic g n := by
  induction n with
  | zero => rfl
  | succ n ih => rw [ic_succ, ic_succ, ih fun j hj => h j (by omega), h n (by omega)]
theorem ic_push (f : Nat → It) (n : Nat) (x : It) : ic (up f n x) (n + 1) = ic f n ++ i2 x := by
  rw [ic_succ, up_same]
  congr 1
  exact ic_congr _ _ _ fun j hj => up_other f n x j (by omega)
theorem infI : (Try.prog.info? 24).map (fun i => (i.zero, i.size, i.bytes)) = some (some (.agg #[.int .i64 0, .int .i64 0]), 2, 16) := by kernel_rfl
/-- Things that a slice shows. -/
def Iml (w : World) (a : Option Addr) (f : Nat → It) (n : Nat) : Prop := n = 0 ∨ ∃ g o, a = some ⟨g, o, none⟩ ∧ g < w.heap.size ∧ ∀ j, j < n → w.cell? ⟨g, o + j * 2, none⟩ = some (.int .i64 (f j).1) ∧ w.cell? ⟨g, o + j * 2 + 1, none⟩ = some (.int .i64 (f j).2)
theorem Iml.below {w w' : World} {a : Option Addr} {f : Nat → It} {n : Nat} (h : Iml w a f n) (hb : Below w.heap.size w w') : Iml w' a f n := by
  rcases h with h | ⟨g, o, rfl, hg, hc⟩
  · exact .inl h
  · exact .inr ⟨g, o, rfl, Nat.lt_of_lt_of_le hg hb.size, fun j hj => ⟨(hb.cell (p := ⟨g, o + j * 2, none⟩) hg).trans (hc j hj).1, (hb.cell (p := ⟨g, o + j * 2 + 1, none⟩) hg).trans (hc j hj).2⟩⟩
theorem Iml.kp {w w' : World} {a : Option Addr} {f : Nat → It} {n : Nat} {M : Nat → Prop} (h : Iml w a f n) (k : Kp M w w') (hm : ∀ g o, a = some ⟨g, o, none⟩ → ¬ M g) : Iml w' a f n := by
  rcases h with h | ⟨g, o, rfl, hg, hc⟩
  · exact .inl h
  · exact .inr ⟨g, o, rfl, Nat.lt_of_lt_of_le hg k.size, fun j hj => ⟨k.cell (hc j hj).1 (hm g o rfl), k.cell (hc j hj).2 (hm g o rfl)⟩⟩
/-- A row of things of one's own. -/
def Ir (w : World) (S : Nat) (v : Value) (n : Nat) (f : Nat → It) : Prop := w.ownsRow S 24 2 v n (ic f n)
theorem Ir.below {w w' : World} {S n : Nat} {v : Value} {f : Nat → It} (h : Ir w S v n f) (hb : Below w.heap.size w w') : Ir w' S v n f := (Kp.of (M := fun _ => False) hb).row h (fun _ _ => id)
theorem Ir.congr {w : World} {S n : Nat} {v : Value} {f g : Nat → It} (h : Ir w S v n f) (e : ∀ j, j < n → f j = g j) : Ir w S v n g := by
  unfold Ir
  rw [← ic_congr f g n e]
  exact h
theorem Ir.iml {w : World} {S n : Nat} {v : Value} {f : Nat → It} (h : Ir w S v n f) : ∃ a c, v = .slice a n c ∧ Iml w a f n ∧ n ≤ c := by
  have hc := fun g => h.cells (g := g)
  rcases h.2 with ⟨rfl, h0⟩ | ⟨g, c, cur, rfl, _, hg, hnc, _⟩
  · subst h0
    exact ⟨none, 0, rfl, .inl rfl, Nat.le_refl _⟩
  · refine ⟨_, c, rfl, .inr ⟨g, 0, rfl, (Array.getElem?_eq_some_iff.1 hg).1, fun j hj => ?_⟩, hnc⟩
    have h1 := hc g rfl (j * 2 + 0) _ (by rw [ic_get f n j 0 hj (by omega)]; rfl)
    have h2 := hc g rfl (j * 2 + 1) _ (by rw [ic_get f n j 1 hj (by omega)]; rfl)
    rw [Go.WideShapes.add_plain] at h1 h2
    exact ⟨h1, by rw [Nat.add_assoc]; exact h2⟩
theorem iX_cell (w : World) (x : It) (j : Nat) (u : Value) (h : (i2 x)[j]? = some u) : (w.alloc (iX x)).cell? ⟨w.heap.size, j, none⟩ = some u := by
  unfold World.cell?
  rw [show (w.alloc (iX x)).heap[w.heap.size]? = some (iX x) from heap_alloc_new w _]
  simpa [i2] using h
theorem append_i (w : World) (S : Nat) (v : Value) (n : Nat) (f : Nat → It) (x : It) (hS : S ≤ w.heap.size) (hn : (n + 1) * 16 ≤ 140737488355328) (o : Ir w S v n f) :
    ∃ g c w', (Builtin.append_ #[22, 22] 22 #[v, .slice (some ⟨w.heap.size, 0, none⟩) 1 1]).run Try.prog (w.alloc (iX x)) = .ok (.slice (some ⟨g, 0, none⟩) (n + 1) c) w' ∧ Ir w' S (.slice (some ⟨g, 0, none⟩) (n + 1) c) (n + 1) (up f n x) ∧ Kp (fun k => v.ownBlock = some k) w w' ∧ (v.ownBlock = some g ∨ w.heap.size ≤ g) := by
  obtain ⟨i0, hi, hz0, hz1, hz2⟩ := info_parts infI
  have o0 := World.ownsRow.alloc o (iX x)
  obtain ⟨v', w', r, o', g, _, h5⟩ := run_append_own_at (P := Try.prog) (w.alloc (iX x)) S 22 22 24 i0 (.agg #[.int .i64 0, .int .i64 0]) 2 16 Try.underlying22 hi hz0 hz1 hz2 rfl (by decide) _ n (ic f n) o0 ⟨w.heap.size, 0, none⟩ 1 1 (i2 x) (by rfl)
    (fun j u hj => by
      rw [Go.WideShapes.add_plain, Nat.zero_add]
      exact iX_cell w x j u hj) (by intro u hu; simp [i2] at hu; rcases hu with rfl | rfl <;> rfl) (by unfold maxLen; omega) hn (by simp; omega)
  rw [← ic_push] at o'
  rcases o'.2 with ⟨_, h0⟩ | ⟨G, C, cur, rfl, _⟩
  · omega
  · refine ⟨G, C, w', r, o', ((Kp.refl _ w).alloc _).grown g (fun k hk _ => hk), ?_⟩
    rcases h5 with h5 | h5
    · exact .inl (h5.symm.trans rfl)
    · have h6 : G = (w.alloc (iX x)).heap.size := Option.some.inj h5
      rw [World.size_alloc] at h6
      exact .inr (by omega)
theorem wpList_append_run {P : Program} {ops : Array Oper} {rest : List Oper} {o : Oper} {a : Act} {w w' : World} {v' : Value} {Q : Exit → Act → World → Prop} (hw : Region.wanted o (yielded ops a.tmps) = true) (s x : Operand) (t tx : TypeId)
    (ho : o.op = .call { callee := .builtin .append, args := #[s, x], argTypes := #[t, tx] }) (vs vx : Value) (hs : a.eval s = vs) (hx : a.eval x = vx)
    (hr : (Builtin.append_ #[t, tx] o.type #[vs, vx]).run P w = .ok v' w') (h : wpList P ops Q rest (a.put o.dst v') w') : wpList P ops Q (o :: rest) a w := by
  unfold wpList
  rw [if_pos hw]
  left
  unfold Oper.wp execOp
  simp only [ho, resolve, invoke, builtin, Sem.run_bind, Sem.run_pure, Result.andThen_ok, List.map_toArray, List.map_cons, List.map_nil, hs, hx, hr]
  exact h

theorem isK : Is (fun x => x.1) (inO lsK) := fun x y => by
  unfold inO lsK Lx
  split <;> simp <;> omega
theorem isN : Is (fun _ => 0) (inO lsN) := fun x y => by
  unfold inO lsN Lx
  split <;> simp <;> omega
end Go.Proofs.Ytcgpjmpppajfdaa
