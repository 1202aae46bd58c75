/- The reference's Keep. -/
import Derived.Test.YtjmninjaoemhjaaDoorKh
import Derived.Test.YtjmninjaoemhjaaDoorEy
import Derived.Carry
import Derived.WideMake
namespace Go.Proofs.YtjmninjaoemhjaaDoor.K
open Go.RowKit Go.Lib

attribute [local go_sem] Oper.semAt_some

theorem infL : (Tryd.prog.info? 26).map (fun i => (i.zero, i.size, i.bytes)) = some (some (.agg #[.string ⟨#[]⟩, .string ⟨#[]⟩]), 2, 32) := by kernel_rfl
theorem own_bd {S e s n : Nat} {w : World} {v : Value} {xs : List Value} (h : w.ownsRow S e s v n xs) : ∀ G, v.ownBlock = some G → S ≤ G ∧ G < w.heap.size := by
  intro G hG
  rcases h.2 with ⟨rfl, _⟩ | ⟨g, cap, cur, rfl, hg, hh, _⟩
  · cases hG
  · have : g = G := Option.some.inj hG
    subst this
    exact ⟨hg, (Array.getElem?_eq_some_iff.1 hh).1⟩
/-- An append whose run is known. -/
theorem wpList_append_run {P : Program} {ops : Array Oper} {rest : List Oper} {o : Oper} {a : Act} {w w' : World} {v' : Value} {Q : Exit → Act → World → Prop} (hw : Region.wanted o (yielded ops a.tmps) = true) (s x : Operand) (t tx : TypeId)
    (ho : o.op = .call { callee := .builtin .append, args := #[s, x], argTypes := #[t, tx] }) (vs vx : Value) (hs : a.eval s = vs) (hx : a.eval x = vx)
    (hr : (Builtin.append_ #[t, tx] o.type #[vs, vx]).run P w = .ok v' w') (h : wpList P ops Q rest (a.put o.dst v') w') : wpList P ops Q (o :: rest) a w := by
  unfold wpList
  rw [if_pos hw]
  left
  unfold Oper.wp execOp
  simp only [ho, resolve, invoke, builtin, Sem.run_bind, Sem.run_pure, Result.andThen_ok, List.map_toArray, List.map_cons, List.map_nil, hs, hx, hr]
  exact h
/-- One label behind a row of one's own. -/
theorem ap_lb (w : World) (S : Nat) (v : Value) (n : Nat) (xs : List Value) (x : Lb) (hS : S ≤ w.heap.size) (hn : (n + 1) * 32 ≤ 140737488355328) (o : w.ownsRow S 26 2 v n xs) :
    ∃ g c w', (Builtin.append_ #[22, 22] 22 #[v, .slice (some ⟨w.heap.size, 0, none⟩) 1 1]).run Tryd.prog (w.alloc (lbX x)) = .ok (.slice (some ⟨g, 0, none⟩) (n + 1) c) w' ∧ w'.ownsRow S 26 2 (.slice (some ⟨g, 0, none⟩) (n + 1) c) (n + 1) (xs ++ l2 x) ∧ Kp (fun k => v.ownBlock = some k) w w' := by
  obtain ⟨i0, hi, hz0, hz1, hz2⟩ := info_parts infL
  have o0 := World.ownsRow.alloc o (lbX x)
  have e : (w.alloc (lbX x)).heap[w.heap.size]? = some (lbX x) := heap_alloc_new w _
  obtain ⟨v', w', r, o', g, _, _⟩ := run_append_own_at (P := Tryd.prog) (w.alloc (lbX x)) S 22 22 26 i0 _ 2 32 Tryd.underlying22 hi hz0 hz1 hz2 rfl (by decide) _ n xs o0 ⟨w.heap.size, 0, none⟩ 1 1 (l2 x) (by rfl)
    (fun j u hj => by
      rw [Go.WideShapes.add_plain, Nat.zero_add]
      unfold World.cell?
      rw [e]
      simpa [l2] using hj) (by intro u hu; simp [l2] at hu; rcases hu with rfl | rfl <;> rfl) (by unfold maxLen; omega) hn (by simp; omega)
  rcases o'.2 with ⟨_, h0⟩ | ⟨G, C, cur, rfl, _⟩
  · omega
  · exact ⟨G, C, w', r, o', ((Kp.refl _ w).trans (Kp.of ((Below.refl _ w).alloc (Nat.le_refl _) _))).grown g (fun k hk _ => hk)⟩

def gL (ls : List Lb) : Nat → Lb := fun j => ls.getD j (⟨#[]⟩, ⟨#[]⟩)
theorem ll_gL (ls : List Lb) : ll (gL ls) ls.length = ls := by
  apply List.ext_getElem (by simp [ll])
  intro i h1 h2
  simp [ll, gL, List.getD, List.getElem?_eq_getElem h2]
theorem lc_ll (f : Nat → Lb) (n : Nat) : lc f n = lcL (ll f n) := by unfold lc lcL ll; rw [List.flatMap_map]
theorem lcL_lc (ls : List Lb) : lcL ls = lc (gL ls) ls.length := by rw [lc_ll, ll_gL]
theorem keptL_succ (f : Nat → Lb) (xs : List ByteArray) (wo : Bool) (n : Nat) : keptL f xs wo (n + 1) = keptL f xs wo n ++ if stay xs wo (f n).1 then [f n] else [] := by
  unfold keptL
  rw [ll_succ, List.filter_append]
  congr 1
  split <;> rename_i h <;> simp [h]
theorem keptL_le (f : Nat → Lb) (xs : List ByteArray) (wo : Bool) (n : Nat) : (keptL f xs wo n).length ≤ n := by
  have := List.length_filter_le (fun l : Lb => stay xs wo l.1) (ll f n)
  rw [ll_len] at this
  exact this
theorem mb_succ (nf : Nat → ByteArray) (j : Nat) (x : ByteArray) : mb (lf nf (j + 1)) x = (mb (lf nf j) x || (nf j).toList == x.toList) := by
  unfold mb
  rw [lf_succ]
  unfold sl
  rw [List.map_append, Lib.toList_data, Lib.toList_data, Bool.eq_iff_iff]
  simp
  constructor
  · rintro (h | h)
    · exact .inl h
    · exact .inr h.symm
  · rintro (h | h)
    · exact .inl h
    · exact .inr h.symm
end Go.Proofs.YtjmninjaoemhjaaDoor.K
