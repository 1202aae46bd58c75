/- Labels: rows of one's own that are written again. -/
import Derived.Test.YtjmninjaoemhjaaDoorCa
namespace Go.Proofs.YtjmninjaoemhjaaDoor
open Go.RowKit

/-- But for the blocks of M all is as it was. -/
structure Kp (M : Nat → Prop) (w w' : World) : Prop where
  os : w'.os = w.os
  tape : w'.tape = w.tape
  output : w'.output = w.output
  size : w.heap.size ≤ w'.heap.size
  block : ∀ k, k < w.heap.size → ¬ M k → w'.heap[k]? = w.heap[k]?
namespace Kp
variable {M N : Nat → Prop} {a b c w w' : World}
theorem refl (M : Nat → Prop) (w : World) : Kp M w w := ⟨rfl, rfl, rfl, Nat.le_refl _, fun _ _ _ => rfl⟩
theorem trans (h : Kp M a b) (k : Kp M b c) : Kp M a c := ⟨k.os.trans h.os, k.tape.trans h.tape, k.output.trans h.output, Nat.le_trans h.size k.size, fun i hi hm => (k.block i (Nat.lt_of_lt_of_le hi h.size) hm).trans (h.block i hi hm)⟩
theorem of (h : Below w.heap.size w w') : Kp M w w' := ⟨h.os, h.tape, h.output, h.size, fun k hk _ => h.block k hk⟩
theorem below {B : Nat} (h : Kp M w w') (hB : B ≤ w.heap.size) (hm : ∀ k, k < B → ¬ M k) : Below B w w' := ⟨h.os, h.tape, h.output, h.size, fun k hk => h.block k (by omega) (hm k hk)⟩
theorem grown {row : Option Nat} (h : Kp M a w) (hg : w.grownBy w' row) (hr : ∀ k, row = some k → k < w.heap.size → M k) : Kp M a w' :=
  h.trans ⟨hg.os, hg.tape, hg.output, hg.size, fun k hk hm => hg.block k hk (fun e => hm (hr k e.symm hk))⟩
theorem row {S e s n : Nat} {v : Value} {xs : List Value} (h : Kp M w w') (o : w.ownsRow S e s v n xs) (hm : ∀ k, v.ownBlock = some k → ¬ M k) : w'.ownsRow S e s v n xs := by
  refine ⟨o.1, ?_⟩
  rcases o.2 with h0 | ⟨g, cap, cur, hv, hB, hg, r⟩
  · exact .inl h0
  · exact .inr ⟨g, cap, cur, hv, hB, (h.block g (Array.getElem?_eq_some_iff.1 hg).1 (hm g (by rw [hv]; rfl))).trans hg, r⟩
end Kp
theorem step_append_run {P : Program} {ops : Array Oper} {o : Oper} {a : Act} {w w' : World} {v' : Value} {K : Act → World → Prop} {Q : Exit → Act → World → Prop} {E : Prop} (hgd : o.guard = none) (s x : Operand) (t tx : TypeId)
    (ho : o.op = .call { callee := .builtin .append, args := #[s, x], argTypes := #[t, tx] }) (vs vx : Value) (hs : a.eval s = vs) (hx : a.eval x = vx)
    (hr : (Builtin.append_ #[t, tx] o.type #[vs, vx]).run P w = .ok v' w') (h : K (a.put o.dst v') w') : if Region.wanted o (yielded ops a.tmps) = true then Oper.wp P o a w K Q else E := by
  have hw : Region.wanted o (yielded ops a.tmps) = true := by simp [Region.wanted, hgd]
  rw [if_pos hw]
  unfold Oper.wp execOp
  simp only [ho, resolve, invoke, builtin, Sem.run_bind, Sem.run_pure, Result.andThen_ok, List.map_toArray, List.map_cons, List.map_nil, hs, hx, hr]
  exact h
theorem info_parts {P : Program} {e : TypeId} {z : Value} {size bytes : Nat} (h : (P.info? e).map (fun i => (i.zero, i.size, i.bytes)) = some (some z, size, bytes)) : ∃ i, P.info? e = some i ∧ i.zero = some z ∧ i.size = size ∧ i.bytes = bytes := by
  cases hi : P.info? e with
  | none => rw [hi] at h; cases h
  | some i =>
    rw [hi] at h
    simp at h
    exact ⟨i, rfl, h.1, h.2.1, h.2.2⟩
theorem infL : (Tryd.prog.info? 26).map (fun i => (i.zero, i.size, i.bytes)) = some (some (.agg #[.string ⟨#[]⟩, .string ⟨#[]⟩]), 2, 32) := by kernel_rfl
theorem own_bd {S e s n : Nat} {w : World} {v : Value} {xs : List Value} (h : w.ownsRow S e s v n xs) : ∀ G, v.ownBlock = some G → S ≤ G ∧ G < w.heap.size := by
  intro G hG
  rcases h.2 with ⟨rfl, _⟩ | ⟨g, cap, cur, rfl, hg, hh, _⟩
  · cases hG
  · have : g = G := Option.some.inj hG
    subst this
    exact ⟨hg, (Array.getElem?_eq_some_iff.1 hh).1⟩
/-- Cut to nothing. -/
theorem own0 {S n c : Nat} {w : World} {a : Option Addr} {xs : List Value} (h : w.ownsRow S 26 2 (.slice a n c) n xs) : w.ownsRow S 26 2 (.slice a 0 c) 0 [] := by
  rcases h.2 with ⟨e, h0⟩ | ⟨g, cap, cur, e, hg, hh, h1, h2, h3, h4⟩
  · cases e
    exact World.ownsRow_nil _ _ _ _
  · cases e
    exact ⟨rfl, .inr ⟨g, c, cur, rfl, hg, hh, Nat.zero_le _, h2, h3, by simp⟩⟩
/-- Labels written over a row that was cut to nothing. -/
theorem ap_row (w : World) (S : Nat) (ax : Option Addr) (cx : Nat) (hS : S ≤ w.heap.size) (o : w.ownsRow S 26 2 (.slice ax 0 cx) 0 []) (a : Option Addr) (m c : Nat) (f : Nat → Lb) (hz : a = none → m = 0 ∧ c = 0) (ha : Lm w a f m) (hm : m * 32 ≤ 140737488355328) :
    ∃ a' c' w', (Builtin.append_ #[22, 22] 22 #[.slice ax 0 cx, .slice a m c]).run Tryd.prog w = .ok (.slice a' m c') w' ∧ w'.ownsRow S 26 2 (.slice a' m c') m (lc f m) ∧ Kp (fun k => (Value.slice ax 0 cx).ownBlock = some k) w w' ∧ (∀ k, (Value.slice a' m c').ownBlock = some k → (Value.slice ax 0 cx).ownBlock = some k ∨ w.heap.size ≤ k) := by
  obtain ⟨i0, hi, hz0, hz1, hz2⟩ := info_parts infL
  cases a with
  | none =>
    obtain ⟨rfl, rfl⟩ := hz rfl
    exact ⟨ax, cx, w, run_append_owned_none _ S 22 22 26 i0 2 Tryd.underlying22 hi _ 0 [] o, o, Kp.refl _ _, fun k hk => .inl hk⟩
  | some p =>
    obtain ⟨v', w', r, o', g, _, h5⟩ := run_append_own_at (P := Tryd.prog) w S 22 22 26 i0 _ 2 32 Tryd.underlying22 hi hz0 hz1 hz2 rfl (by decide) (.slice ax 0 cx) 0 [] o p m c (lc f m) (lc_len f m) (fun j u hj => ha.cells j u hj) (lc_one f m) (by unfold maxLen; omega) (by rw [Nat.zero_add]; exact hm) hS
    rw [Nat.zero_add, List.nil_append] at o'
    have hk : Kp (fun k => (Value.slice ax 0 cx).ownBlock = some k) w w' := (Kp.refl _ w).grown g (fun k e _ => e)
    have h6 : ∀ k, v'.ownBlock = some k → (Value.slice ax 0 cx).ownBlock = some k ∨ w.heap.size ≤ k := fun k e => by
      rcases h5 with h5 | h5
      · exact .inl (h5.symm.trans e)
      · have : w.heap.size = k := Option.some.inj (h5.symm.trans e)
        exact .inr (by omega)
    rcases o'.2 with ⟨rfl, rfl⟩ | ⟨G, C, cur, rfl, _⟩
    · exact ⟨none, 0, w', r, o', hk, h6⟩
    · exact ⟨some ⟨G, 0, none⟩, C, w', r, o', hk, h6⟩
end Go.Proofs.YtjmninjaoemhjaaDoor
