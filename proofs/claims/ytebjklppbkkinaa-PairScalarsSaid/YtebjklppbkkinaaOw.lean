/- Rows of floats that a call makes: append, make, store. -/
import Derived.Test.YtebjklppbkkinaaSu
import Derived.Laws.OwnMore
import Derived.Laws.MakeOwn
import Derived.Laws.AppendOwn
import Derived.Deep.RegionLaw
namespace Go.Proofs.Ytebjklppbkkinaa
open Go.RowKit

def fc (l : List Nat) : List Value := l.map (Value.float .f64)
theorem fc_len (l : List Nat) : (fc l).length = l.length := by simp [fc]
theorem fc_app (l m : List Nat) : fc (l ++ m) = fc l ++ fc m := by simp [fc]
theorem info23 : (Try.prog.info? 22).map (fun i => (i.zero, i.size, i.bytes)) = some (some (.float .f64 0), 1, 8) := by kernel_rfl

/-- A row of the call's own. -/
def Fr (w : World) (S : Nat) (v : Value) (ys : List Nat) : Prop := w.ownsRow S 22 1 v ys.length (fc ys)
theorem Fr.nil (w : World) (S : Nat) : Fr w S (.slice none 0 0) [] := World.ownsRow_nil w S 22 1
theorem Fr.drew {w : World} {S : Nat} {v : Value} {ys : List Nat} (h : Fr w S v ys) (k : Nat) : Fr (w.drewN k) S v ys := h
theorem Fr.below {w w' : World} {S : Nat} {v : Value} {ys : List Nat} (h : Fr w S v ys) (hb : Below w.heap.size w w') : Fr w' S v ys := by
  refine ⟨h.1, ?_⟩
  rcases h.2 with h0 | ⟨g, cap, cur, hv, hB, hg, r⟩
  · exact .inl h0
  · exact .inr ⟨g, cap, cur, hv, hB, (hb.block g (Array.getElem?_eq_some_iff.1 hg).1).trans hg, r⟩
/-- .. as a slice. -/
theorem Fr.fm {w : World} {S : Nat} {v : Value} {ys : List Nat} (h : Fr w S v ys) : ∃ a c, v = .slice a ys.length c ∧ Fm w a ys := by
  have hc := fun g => h.cells (g := g)
  rcases h.2 with ⟨rfl, h0⟩ | ⟨g, c, cur, rfl, _, hg, _⟩
  · have hl : ys = [] := List.eq_nil_of_length_eq_zero h0
    subst hl
    exact ⟨none, 0, rfl, .inl rfl⟩
  · refine ⟨_, c, rfl, .inr ⟨g, 0, rfl, (Array.getElem?_eq_some_iff.1 hg).1, fun j hj => ?_⟩⟩
    have := hc g rfl j (.float .f64 (ys.getD j 0)) (by simp [fc, List.getD, hj])
    rw [Go.WideShapes.add_plain] at this
    exact this

theorem wpList_append_run {P : Program} {ops : Array Oper} {rest : List Oper} {o : Oper} {a : Act} {w w' : World} {v' : Value} {Q : Exit → Act → World → Prop} (hw : Region.wanted o (yielded ops a.tmps) = true) (s x : Operand) (t tx : TypeId)
    (ho : o.op = .call { callee := .builtin .append, args := #[s, x], argTypes := #[t, tx] }) (vs vx : Value) (hs : a.eval s = vs) (hx : a.eval x = vx)
    (hr : (Builtin.append_ #[t, tx] o.type #[vs, vx]).run P w = .ok v' w') (h : wpList P ops Q rest (a.put o.dst v') w') : wpList P ops Q (o :: rest) a w := by
  unfold wpList
  rw [if_pos hw]
  left
  unfold Oper.wp execOp
  simp only [ho, resolve, invoke, builtin, Sem.run_bind, Sem.run_pure, Result.andThen_ok, List.map_toArray, List.map_cons, List.map_nil, hs, hx, hr]
  exact h

/-- The store of a float. -/
theorem run_store_float {P : Program} (a : Addr) (m : Mode) (n : Nat) (w : World) : (store a (.float .f64 n) m).run P w = stored P w a (.float .f64 n) m := run_store P w a _ m rfl

/-- A store into such a row. -/
theorem Fr.set {w : World} {S g c : Nat} {ys : List Nat} (h : Fr w S (.slice (some ⟨g, 0, none⟩) ys.length c) ys) (j x : Nat) : Fr (w.setCell ⟨g, j, none⟩ (.float .f64 x)) S (.slice (some ⟨g, 0, none⟩) ys.length c) (ys.set j x) := by
  have := (World.ownsRow.stored h j (.float .f64 x)).1
  unfold Fr
  rw [List.length_set, show fc (ys.set j x) = (fc ys).set j (.float .f64 x) by simp [fc, List.map_set]]
  exact this
theorem Fr.cell {w : World} {S g c : Nat} {ys : List Nat} (h : Fr w S (.slice (some ⟨g, 0, none⟩) ys.length c) ys) (j : Nat) (hj : j < ys.length) : w.cell? ⟨g, j, none⟩ = some (.float .f64 (ys.getD j 0)) := by
  rw [World.ownsRow.cellAt h j (by omega)]
  simp [fc, List.getD, hj]
theorem Fr.froz {w : World} {S g c : Nat} {ys : List Nat} (h : Fr w S (.slice (some ⟨g, 0, none⟩) ys.length c) ys) (j : Nat) : w.frozen? ⟨g, j, none⟩ = false := World.ownsRow.frozenAt h j
theorem Fr.ge {w : World} {S g c : Nat} {ys : List Nat} (h : Fr w S (.slice (some ⟨g, 0, none⟩) ys.length c) ys) : S ≤ g := (World.ownsRow.lt h g rfl).1

/-- Numbers of the classes F 0, F 1, .. -/
def Ls (ys : List Nat) (i : Nat) (F : Nat → Option Nat) : Prop := ∀ j, j < i → cl (ys.getD j 0) = F j ∧ ys.getD j 0 < 18446744073709551616
theorem Ls.nil (ys : List Nat) (F : Nat → Option Nat) : Ls ys 0 F := fun j hj => absurd hj (by omega)
theorem Ls.push {ys : List Nat} {F : Nat → Option Nat} (h : Ls ys ys.length F) (x : Nat) (hx : cl x = F ys.length) (hl : x < 18446744073709551616) : Ls (ys ++ [x]) (ys.length + 1) F := by
  intro j hj
  by_cases h1 : j < ys.length
  · have := h j h1
    simpa [List.getD, List.getElem?_append_left h1] using this
  · obtain rfl : j = ys.length := by omega
    simpa [List.getD] using ⟨hx, hl⟩
theorem Ls.set {ys : List Nat} {i : Nat} {F : Nat → Option Nat} (h : Ls ys i F) (hi : i < ys.length) (x : Nat) (hx : cl x = F i) (hl : x < 18446744073709551616) : Ls (ys.set i x) (i + 1) F := by
  intro j hj
  by_cases h1 : j = i
  · subst h1
    simpa [List.getD, hi] using ⟨hx, hl⟩
  · have := h j (by omega)
    simpa [List.getD, List.getElem?_set_ne (Ne.symm h1)] using this
theorem Ls.cs {ys : List Nat} {F : Nat → Option Nat} (h : Ls ys ys.length F) : cs ys = (List.range ys.length).map F := by
  apply List.ext_getElem
  · simp [cs_len]
  · intro j h1 h2
    rw [cs_len] at h1
    have := (h j h1).1
    simpa [Ytebjklppbkkinaa.cs, List.getD, h1] using this
theorem Ls.wd {ys : List Nat} {F : Nat → Option Nat} (h : Ls ys ys.length F) : Wd ys := fun j hj => (h j hj).2

/-- The float of a length. -/
def nW (n : Nat) : Nat := floatOfInt .f64 (n : Int)
theorem cvn (n : Nat) (w : World) : (convert 3 22 (.int .i64 (n : Int))).run Try.prog w = .ok (.float .f64 (nW n)) w := run_convert_int_float w 3 22 .i64 .f64 n (by rw [Try.underlying3]; rfl) Try.underlying22
theorem nW_num (n : Nat) : cl (nW n) = some (nW n) := cl_num (nanB_write_number _ _ _)
theorem nW_lt (n : Nat) : nW n < 18446744073709551616 := by
  have := floatOfInt_wf .f64 (n : Int)
  unfold nW
  simpa [Lit.wf] using this

/-- What a function that makes memory answers. -/
def RB (w : World) (c : Option Nat) (r : Ending) (w' : World) : Prop := ∃ z, r = .returned (.float .f64 z) ∧ Below w.heap.size w w' ∧ z < 18446744073709551616 ∧ cl z = c
theorem RF.rb {w : World} {c : Option Nat} {r : Ending} {w' : World} (h : RF w c r w') : RB w c r w' := by
  obtain ⟨z, k, h1, h2, h3, h4⟩ := h
  exact ⟨z, h1, by rw [h2]; exact below_drewN (Below.refl _ _) _, h3, h4⟩

/-- What a function that makes a row of floats answers. -/
def RL (w : World) (N : Nat) (F : Nat → Option Nat) (r : Ending) (w' : World) : Prop := ∃ v ys, r = .returned v ∧ Fr w' w.heap.size v ys ∧ ys.length = N ∧ Ls ys N F ∧ Below w.heap.size w w'
end Go.Proofs.Ytebjklppbkkinaa
