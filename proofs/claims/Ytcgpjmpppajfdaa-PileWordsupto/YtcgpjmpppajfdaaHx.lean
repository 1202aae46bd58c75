/- A ranked thing in a block of its own. -/
import Derived.Test.YtcgpjmpppajfdaaHa
import Derived.Maps.AppendAt
namespace Go.Proofs.Ytcgpjmpppajfdaa
open Go.RowKit

abbrev rX (x : Rk) : Obj := .cells #[.int .i64 x.1.1, .int .i64 x.1.2, .int .i64 x.2] 78
theorem rX_cell (w : World) (x : Rk) (j : Nat) (u : Value) (h : (r3 x)[j]? = some u) : (w.alloc (rX x)).cell? ⟨w.heap.size, j, none⟩ = some u := by
  unfold World.cell?
  rw [show (w.alloc (rX x)).heap[w.heap.size]? = some (rX x) from heap_alloc_new w _]
  simpa [r3] using h
theorem cell_al {w : World} {a : Addr} {v : Value} (o : Obj) (h : w.cell? a = some v) : (w.alloc o).cell? a = some v := (Kp.alloc (Kp.refl (fun _ => False) w) o).cell h id
theorem rc_push (f : Nat → Rk) (n : Nat) (x : Rk) : rc (up f n x) (n + 1) = rc f n ++ r3 x := by
  rw [rc_succ, up_same]
  congr 1
  exact rc_congr _ _ _ fun j hj => up_other f n x j (by omega)
theorem append_r (w : World) (v : Value) (n : Nat) (f : Nat → Rk) (x : Rk) (hn : (n + 1) * 24 ≤ 140737488355328) (o : w.ownsRow 0 78 3 v n (rc f n)) :
    ∃ g c w', (Builtin.append_ #[71, 71] 71 #[v, .slice (some ⟨w.heap.size, 0, none⟩) 1 1]).run Try.prog (w.alloc (rX x)) = .ok (.slice (some ⟨g, 0, none⟩) (n + 1) c) w' ∧ Rr w' g c (n + 1) (up f n x) ∧ Kp (fun k => v.ownBlock = some k) w w' ∧ (v.ownBlock = some g ∨ w.heap.size ≤ g) := by
  obtain ⟨i0, hi, hz0, hz1, hz2⟩ := info_parts infR
  have o0 := World.ownsRow.alloc o (rX x)
  obtain ⟨v', w', r, o', g, _, h5⟩ := run_append_own_at (P := Try.prog) (w.alloc (rX x)) 0 71 71 78 i0 (.agg #[.int .i64 0, .int .i64 0, .int .i64 0]) 3 24 Try.underlying71 hi hz0 hz1 hz2 rfl (by decide) _ n (rc f n) o0 ⟨w.heap.size, 0, none⟩ 1 1 (r3 x) (by rfl)
    (fun j u hj => by
      rw [Go.WideShapes.add_plain, Nat.zero_add]
      exact rX_cell w x j u hj) (by intro u hu; simp [r3] at hu; rcases hu with rfl | rfl | rfl <;> rfl) (by unfold maxLen; omega) hn (by simp)
  rw [← rc_push] at o'
  rcases o'.2 with ⟨_, h0⟩ | ⟨G, C, cur, rfl, _⟩
  · omega
  · refine ⟨G, C, w', r, o', ((Kp.refl _ w).alloc _).grown g (fun k hk _ => hk), ?_⟩
    rcases h5 with h5 | h5
    · exact .inl (h5.symm.trans rfl)
    · have h6 : G = (w.alloc (rX x)).heap.size := Option.some.inj h5
      rw [World.size_alloc] at h6
      exact .inr (by omega)

theorem step_append_run {P : Program} {ops : Array Oper} {o : Oper} {a : Act} {w w' : World} {v' : Value} {K : Act → World → Prop} {Q : Exit → Act → World → Prop} {E : Prop} (hgd : o.guard = none) (s x : Operand) (t tx : TypeId)
    (ho : o.op = .call { callee := .builtin .append, args := #[s, x], argTypes := #[t, tx] }) (vs vx : Value) (hs : a.eval s = vs) (hx : a.eval x = vx)
    (hr : (Builtin.append_ #[t, tx] o.type #[vs, vx]).run P w = .ok v' w') (h : K (a.put o.dst v') w') : if Region.wanted o (yielded ops a.tmps) = true then Oper.wp P o a w K Q else E := by
  have hw : Region.wanted o (yielded ops a.tmps) = true := by simp [Region.wanted, hgd]
  rw [if_pos hw]
  unfold Oper.wp execOp
  simp only [ho, resolve, invoke, builtin, Sem.run_bind, Sem.run_pure, Result.andThen_ok, List.map_toArray, List.map_cons, List.map_nil, hs, hx, hr]
  exact h

/-- But for its list the heap's block is as it was. -/
def Fld (b : Nat) (w w' : World) : Prop := ∀ j u, j ≠ 1 → w.cell? ⟨b, j, none⟩ = some u → w.frozen? ⟨b, j, none⟩ = false → w'.cell? ⟨b, j, none⟩ = some u ∧ w'.frozen? ⟨b, j, none⟩ = false
theorem Fld.kp {b : Nat} {M : Nat → Prop} {w w' : World} (k : Kp M w w') (h : ¬ M b) : Fld b w w' := fun _ _ _ hc hf => ⟨k.cell hc h, k.frozen hc hf h⟩
theorem Fld.trans {b : Nat} {a c d : World} (h : Fld b a c) (k : Fld b c d) : Fld b a d := fun j u hj hc hf => k j u hj (h j u hj hc hf).1 (h j u hj hc hf).2
theorem Fld.set {b : Nat} {w : World} (v : Value) : Fld b w (w.setCell ⟨b, 1, none⟩ v) := fun j u hj hc hf => ⟨by rw [World.cell?_setCell_other _ _ _ _ (by simp)]; exact hc, by rw [World.frozen?_setCell]; exact hf⟩
end Go.Proofs.Ytcgpjmpppajfdaa
