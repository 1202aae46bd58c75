/- ChunkKeeps: three samples behind a row. -/
import Derived.Test.YtedlmjieclaojaaDoorXe
import Derived.Test.YtedlmjieclaojaaDoorFb
namespace Go.Proofs.YtedlmjieclaojaaDoor
open Go.RowKit

/-- Three samples behind a row. -/
theorem append_3 (w : World) (S : Nat) (v : Value) (l : List Smp) (x y z : Smp) (hS : S ≤ w.heap.size) (hn : (l.length + 3) * 24 ≤ 140737488355328) (o : w.ownsRow S 38 3 v l.length (smc l)) :
    ∃ g c w', (Builtin.append_ #[22, 22] 22 #[v, .slice (some ⟨w.heap.size, 0, none⟩) 3 3]).run Tryd.prog (w.alloc (.cells #[.int .i64 x.t, .float .f64 x.v, .bool x.s, .int .i64 y.t, .float .f64 y.v, .bool y.s, .int .i64 z.t, .float .f64 z.v, .bool z.s] 38)) = .ok (.slice (some ⟨g, 0, none⟩) (l.length + 3) c) w' ∧
      w'.ownsRow S 38 3 (.slice (some ⟨g, 0, none⟩) (l.length + 3) c) (l.length + 3) (smc (l ++ [x, y, z])) ∧ Kp (fun k => v.ownBlock = some k) w w' := by
  obtain ⟨i0, hi, hz0, hz1, hz2⟩ := info_parts info38
  obtain ⟨ob, hob⟩ : ∃ ob, ob = Obj.cells #[.int .i64 x.t, .float .f64 x.v, .bool x.s, .int .i64 y.t, .float .f64 y.v, .bool y.s, .int .i64 z.t, .float .f64 z.v, .bool z.s] 38 := ⟨_, rfl⟩
  rw [← hob]
  have o0 := World.ownsRow.alloc o ob
  obtain ⟨v', w', r, o', g, _, h5⟩ := run_append_own_at (P := Tryd.prog) (w.alloc ob) S 22 22 38 i0 (.agg #[.int .i64 0, .float .f64 0, .bool false]) 3 24 Tryd.underlying22 hi hz0 hz1 hz2 rfl (by decide) _ l.length (smc l) o0 ⟨w.heap.size, 0, none⟩ 3 3 (smc [x, y, z]) (by rfl)
    (fun j u hj => by
      rw [Go.WideShapes.add_plain, Nat.zero_add]
      unfold World.cell?
      rw [show (w.alloc ob).heap[w.heap.size]? = some ob from heap_alloc_new w _, hob]
      simpa [smc, c3] using hj) (smc_one _) (by unfold maxLen; omega) hn (by simp; omega)
  rw [show smc l ++ smc [x, y, z] = smc (l ++ [x, y, z]) by simp [smc]] at o'
  rcases o'.2 with ⟨_, h0⟩ | ⟨G, C, cur, rfl, _⟩
  · omega
  · exact ⟨G, C, w', r, o', ((Kp.refl _ w).alloc _).grown g (fun k hk _ => hk)⟩
end Go.Proofs.YtedlmjieclaojaaDoor
/- ChunkKeeps: what its copies lean on: an append that has a run, within a region that draws its order. -/
namespace Go.Proofs.YtedlmjieclaojaaDoor
open Go.RowKit

/-- An append that has a run. -/
theorem step_append_ex {P : Program} {ops : Array Oper} {o : Oper} {a : Act} {w : World} {K : Act → World → Prop} {Q : Exit → Act → World → Prop} {E : Prop} (hgd : o.guard = none) (s x : Operand) (t tx : TypeId)
    (ho : o.op = .call { callee := .builtin .append, args := #[s, x], argTypes := #[t, tx] }) (vs vx : Value) (hs : a.eval s = vs) (hx : a.eval x = vx) {R : Value → World → Prop}
    (hr : ∃ v' w', (Builtin.append_ #[t, tx] o.type #[vs, vx]).run P w = .ok v' w' ∧ R v' w') (h : ∀ v' w', R v' w' → K (a.put o.dst v') w') : if Region.wanted o (yielded ops a.tmps) = true then Oper.wp P o a w K Q else E := by
  obtain ⟨v', w', r, hR⟩ := hr
  exact step_append_run hgd s x t tx ho vs vx hs hx r (h v' w' hR)
theorem heap_new_at (w : World) (o : Obj) (k : Nat) (h : k = w.heap.size) : (w.alloc o).heap[k]? = some o := by rw [h]; exact heap_alloc_new w o
theorem two_hi (W : World) (a b : Obj) : ((W.alloc a).alloc b).drew.heap[W.heap.size + 1]? = some b := by
  have := heap_alloc_new (W.alloc a) b
  rw [World.size_alloc] at this
  exact this
theorem two_lo (W : World) (a b : Obj) : ((W.alloc a).alloc b).drew.heap[W.heap.size]? = some a :=
  (Below.heap_alloc (W.alloc a) b W.heap.size (by rw [World.size_alloc]; omega)).trans (heap_alloc_new W a)
/-- Samples copied behind an empty row. -/
theorem copy_s (W : World) (S b G n C : Nat) (s : List Smp) (hb : S ≤ b) (hS : S ≤ W.heap.size) (he : W.heap[b]? = some (.cells #[] 38)) (hn : n = s.length) (hl : n ≤ 100000) (hc : ∀ j u, (smc s)[j]? = some u → W.cell? ((⟨G, 0, none⟩ : Addr).add j) = some u) :
    ∃ v' w', (Builtin.append_ #[22, 22] 22 #[.slice (some ⟨b, 0, none⟩) 0 0, .slice (some ⟨G, 0, none⟩) n C]).run Tryd.prog W = .ok v' w' ∧ ∃ g c, v' = .slice (some ⟨g, 0, none⟩) n c ∧ w'.ownsRow S 38 3 (.slice (some ⟨g, 0, none⟩) n c) n (smc s) ∧ Kp (fun k => k = b) W w' := by
  obtain ⟨i0, hi, hz0, hz1, hz2⟩ := info_parts info38
  have o0 : W.ownsRow S 38 3 (.slice (some ⟨b, 0, none⟩) 0 0) 0 [] := ⟨rfl, .inr ⟨b, 0, #[], rfl, hb, he, Nat.le_refl _, by unfold maxLen; decide, by simp, by simp⟩⟩
  obtain ⟨v', w', r, o', g, hv, _⟩ := run_append_own_at (P := Tryd.prog) W S 22 22 38 i0 (.agg #[.int .i64 0, .float .f64 0, .bool false]) 3 24 Tryd.underlying22 hi hz0 hz1 hz2 rfl (by decide) _ 0 [] o0 ⟨G, 0, none⟩ n C (smc s) (by rw [smc_len, hn]) hc (smc_one _) (by unfold maxLen; omega) (by omega) hS
  rw [Nat.zero_add, List.nil_append] at o'
  refine ⟨v', w', r, ?_⟩
  have kk : Kp (fun k => k = b) W w' := (Kp.refl _ W).grown g (fun k hk _ => (Option.some.inj hk).symm)
  rcases o'.2 with ⟨h0, _⟩ | ⟨G2, C2, cur, rfl, _⟩
  · have := (hv.1 h0).1
    cases this
  · exact ⟨G2, C2, rfl, o', kk⟩
def mkx : Smp := ⟨-1, 0, true⟩
def mk9 : Obj := .cells #[.int .i64 (-1), .float .f64 0, .bool true, .int .i64 (-1), .float .f64 0, .bool true, .int .i64 (-1), .float .f64 0, .bool true] 38
/-- Three marks behind a row. -/
theorem marks_s (W : World) (S b n : Nat) (v : Value) (s : List Smp) (hS : S ≤ W.heap.size) (he : W.heap[b]? = some mk9) (hn : n = s.length) (hl : n ≤ 100000) (o : W.ownsRow S 38 3 v n (smc s)) :
    ∃ v' w', (Builtin.append_ #[22, 22] 22 #[v, .slice (some ⟨b, 0, none⟩) 3 3]).run Tryd.prog W = .ok v' w' ∧ ∃ g c, v' = .slice (some ⟨g, 0, none⟩) (n + 3) c ∧ w'.ownsRow S 38 3 (.slice (some ⟨g, 0, none⟩) (n + 3) c) (n + 3) (smc (s ++ [mkx, mkx, mkx])) ∧ Below S W w' := by
  obtain ⟨i0, hi, hz0, hz1, hz2⟩ := info_parts info38
  obtain ⟨v', w', r, o', g, hv, _⟩ := run_append_own_at (P := Tryd.prog) W S 22 22 38 i0 (.agg #[.int .i64 0, .float .f64 0, .bool false]) 3 24 Tryd.underlying22 hi hz0 hz1 hz2 rfl (by decide) _ n (smc s) o ⟨b, 0, none⟩ 3 3 (smc [mkx, mkx, mkx]) (by rfl)
    (fun j u hj => by
      rw [Go.WideShapes.add_plain, Nat.zero_add]
      unfold World.cell?
      simp only [he]
      simpa [smc, c3, mk9, mkx] using hj) (smc_one _) (by unfold maxLen; omega) (by omega) hS
  rw [show smc s ++ smc [mkx, mkx, mkx] = smc (s ++ [mkx, mkx, mkx]) by simp [smc]] at o'
  refine ⟨v', w', r, ?_⟩
  have bb : Below S W w' := (Below.refl _ W).grown g hS (fun k hk => (o.lt k hk).1)
  rcases o'.2 with ⟨_, h0⟩ | ⟨G2, C2, cur, rfl, _⟩
  · omega
  · exact ⟨G2, C2, rfl, o', bb⟩
end Go.Proofs.YtedlmjieclaojaaDoor
