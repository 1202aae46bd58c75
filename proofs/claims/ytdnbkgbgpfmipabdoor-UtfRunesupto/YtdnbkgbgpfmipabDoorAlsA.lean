/- UtfAlls: what a text's places and runes are, and the walk of the reference's All. -/
import Derived.Test.YtdnbkgbgpfmipabDoorRs
import Derived.Test.YtdnbkgbgpfmipabDoorRefNext
import Derived.Deep.AppendSrc
namespace Go.Proofs.YtdnbkgbgpfmipabDoor
open Go.RowKit Go.Lib

/-- The places at which runes begin, with the runes, from a place on, up to the first fault. -/
def alF (s : ByteArray) : Nat → Nat → List (Int × Int)
  | 0, _ => []
  | f + 1, p => if p < s.size ∧ (nxt s p).2 ≠ 0 then ((p : Int), (nxt s p).1) :: alF s f (p + (Utf8.decode s p).2) else []
def al (s : ByteArray) : List (Int × Int) := alF s s.size 0
theorem alF_stop (s : ByteArray) (f p : Nat) (h : ¬ (p < s.size ∧ (nxt s p).2 ≠ 0)) : alF s f p = [] := by
  cases f with
  | zero => rfl
  | succ f => unfold alF; rw [if_neg h]
theorem alF_go (s : ByteArray) (f p : Nat) (h : p < s.size) (hz : (nxt s p).2 ≠ 0) : alF s (f + 1) p = ((p : Int), (nxt s p).1) :: alF s f (p + (Utf8.decode s p).2) := by
  rw [alF, if_pos ⟨h, hz⟩]
theorem alF_len (s : ByteArray) : ∀ f p, (alF s f p).length ≤ f
  | 0, _ => Nat.le_refl _
  | f + 1, p => by
    unfold alF
    split
    · have := alF_len s f (p + (Utf8.decode s p).2)
      simp
      omega
    · simp
def pcells (L : List (Int × Int)) : List Value := L.map (fun x => .int .i64 x.1)
def qcells (L : List (Int × Int)) : List Value := L.map (fun x => .int .i32 x.2)

theorem wp_append_run {P : Program} {ops : Array Oper} {rest : List Oper} {o : Oper} {a : Act} {w w' : World} {v' : Value} {Q : Exit → Act → World → Prop} (hw : Region.wanted o (yielded ops a.tmps) = true) (s x : Operand) (t tx : TypeId)
    (ho : o.op = .call { callee := .builtin .append, args := #[s, x], argTypes := #[t, tx] }) (vs vx : Value) (hs : a.eval s = vs) (hx : a.eval x = vx)
    (hr : (Builtin.append_ #[t, tx] o.type #[vs, vx]).run P w = .ok v' w') (h : wpList P ops Q rest (a.put o.dst v') w') : wpList P ops Q (o :: rest) a w := by
  unfold wpList
  rw [if_pos hw]
  left
  unfold Oper.wp execOp
  simp only [ho, resolve, invoke, builtin, Sem.run_bind, Sem.run_pure, Result.andThen_ok, List.map_toArray, List.map_cons, List.map_nil, hs, hx, hr]
  exact h

theorem inf21 : (Tryd.prog.info? 21).map (fun i => (i.zero, i.size, i.bytes)) = some (some (.int .i32 0), 1, 4) := by kernel_rfl
theorem inf3 : (Tryd.prog.info? 3).map (fun i => (i.zero, i.size, i.bytes)) = some (some (.int .i64 0), 1, 8) := by kernel_rfl

/-- Rows of different types are different rows. -/
theorem row_apart {w : World} {B B' e e' n n' : Nat} {v v' : Value} {xs xs' : List Value} (h : w.ownsRow B e 1 v n xs) (h' : w.ownsRow B' e' 1 v' n' xs') (hne : e ≠ e') : v'.ownBlock = none ∨ v'.ownBlock ≠ v.ownBlock := by
  rcases h'.2 with ⟨rfl, _⟩ | ⟨g', cap', cur', rfl, _, hg', _⟩
  · exact .inl rfl
  · rcases h.2 with ⟨rfl, _⟩ | ⟨g, cap, cur, rfl, _, hg, _⟩
    · exact .inr (by simp [Value.ownBlock])
    · refine .inr fun e1 => ?_
      obtain rfl : g' = g := by simpa [Value.ownBlock] using e1
      rw [hg] at hg'
      simp at hg'
      exact hne hg'.2

/-- One more behind a row of the call's own. -/
theorem app_one (t e : Nat) (zero : Value) (by1 : Nat) (ht : Tryd.prog.underlying t = some (.slice e)) (hinf : (Tryd.prog.info? e).map (fun i => (i.zero, i.size, i.bytes)) = some (some zero, 1, by1)) (hzc : zero.cells.size = 1) (hb1 : 1 ≤ by1)
    (w : World) (B : Nat) (v : Value) (xs : List Value) (u : Value) (hu : u.oneCell' = true) (hB : B ≤ w.heap.size) (hn : (xs.length + 1) * by1 ≤ 140737488355328) (o : w.ownsRow B e 1 v xs.length xs) :
    ∃ v' w', (Builtin.append_ #[t, t] t #[v, .slice (some ⟨w.heap.size, 0, none⟩) 1 1]).run Tryd.prog (w.alloc (.cells #[u] e)) = .ok v' w' ∧
      w'.ownsRow B e 1 v' (xs ++ [u]).length (xs ++ [u]) ∧ Below B w w' ∧ (w.alloc (.cells #[u] e)).grownBy w' v.ownBlock := by
  obtain ⟨i0, hi, hz0, hz1, hz2⟩ := info_parts hinf
  have o0 := o.alloc (.cells #[u] e)
  have hle : xs.length + 1 ≤ (xs.length + 1) * by1 := Nat.le_mul_of_pos_right _ hb1
  obtain ⟨v', w', r, o', g, _⟩ := run_append_own (P := Tryd.prog) (w.alloc (.cells #[u] e)) B t t e i0 zero 1 by1 ht hi hz0 hz1 hz2 hzc (by decide) _ xs.length xs o0 ⟨w.heap.size, 0, none⟩ 1 1 [u] rfl
    (fun j x hj => by
      match j, hj with
      | 0, hj =>
        have hx : x = u := by simpa using hj.symm
        subst hx
        rw [Go.WideShapes.add_plain]
        unfold World.cell?
        rw [show (w.alloc (.cells #[x] e)).heap[w.heap.size]? = some (.cells #[x] e) from heap_alloc_new w _]
        simp) (fun x hx => by
      have : x = u := by simpa using hx
      subst this; exact hu) (by unfold maxLen; omega) hn (by simp; omega)
  refine ⟨v', w', r, ?_, ?_, g⟩
  · rw [List.length_append]; exact o'
  · exact ((Below.refl B w).alloc hB _).grown g (by simp; omega) (fun k hk => (o.lt k hk).1)
end Go.Proofs.YtdnbkgbgpfmipabDoor
