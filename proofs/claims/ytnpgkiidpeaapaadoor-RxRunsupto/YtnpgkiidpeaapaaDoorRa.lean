/- The reference's search: its rows. -/
import Derived.Test.YtnpgkiidpeaapaaDoorMo
import Derived.Test.YtnpgkiidpeaapaaDoorPl
namespace Go.Proofs.YtnpgkiidpeaapaaDoor
open Go.RowKit

/-- A frame as four numbers. -/
def f4 : Fr → List Value
  | Sum.inl p => [.int .i64 (p.1 : Int), .int .i64 (p.2 : Int), .int .i64 0, .int .i64 0]
  | Sum.inr (k, v) => [.int .i64 (-1), .int .i64 0, .int .i64 (k : Int), .int .i64 v]
theorem f4_len (f : Fr) : (f4 f).length = 4 := by
  match f with
  | Sum.inl _ => rfl
  | Sum.inr (_, _) => rfl
theorem f4_one (f : Fr) : ∀ u ∈ f4 f, u.oneCell' = true := by
  intro u hu
  match f with
  | Sum.inl p => simp [f4] at hu; rcases hu with rfl | rfl | rfl <;> rfl
  | Sum.inr (k, v) => simp [f4] at hu; rcases hu with rfl | rfl | rfl | rfl <;> rfl
def c4 (φ : Nat → Fr) (n : Nat) : List Value := (List.range n).flatMap fun j => f4 (φ j)
theorem c4_succ (φ : Nat → Fr) (n : Nat) : c4 φ (n + 1) = c4 φ n ++ f4 (φ n) := by
  unfold c4
  rw [List.range_succ, List.flatMap_append]
  simp
theorem c4_len (φ : Nat → Fr) (n : Nat) : (c4 φ n).length = n * 4 := by
  induction n with
  | zero => rfl
  | succ n ih => rw [c4_succ, List.length_append, ih, f4_len]; omega
theorem c4_congr (φ ψ : Nat → Fr) (n : Nat) (h : ∀ j, j < n → φ j = ψ j) : c4 φ n = c4 ψ n := by
  induction n with
  | zero => rfl
  | succ n ih => rw [c4_succ, c4_succ, ih fun j hj => h j (by omega), h n (by omega)]
theorem c4_push (φ : Nat → Fr) (n : Nat) (f : Fr) : c4 (up φ n f) (n + 1) = c4 φ n ++ f4 f := by
  rw [c4_succ, up_same]
  congr 1
  exact c4_congr _ _ _ fun j hj => up_other φ n f j (by omega)
theorem c4_last (φ : Nat → Fr) (n k : Nat) (hk : k < 4) : (c4 φ (n + 1))[n * 4 + k]? = (f4 (φ n))[k]? := by
  rw [c4_succ, List.getElem?_append_right (by rw [c4_len]; omega), c4_len]
  congr 1
  omega
theorem c4_take (φ : Nat → Fr) (n : Nat) : (c4 φ (n + 1)).take (n * 4) = c4 φ n := by
  rw [c4_succ, List.take_append_of_le_length (by rw [c4_len]; omega), List.take_of_length_le (by rw [c4_len]; omega)]
theorem inf46 : (Tryd.prog.info? 46).map (fun i => (i.zero, i.size, i.bytes)) = some (some (.agg #[.int .i64 0, .int .i64 0, .int .i64 0, .int .i64 0]), 4, 32) := by kernel_rfl
theorem inf4 : (Tryd.prog.info? 4).map (fun i => (i.zero, i.size, i.bytes)) = some (some (.bool false), 1, 1) := by kernel_rfl
/-- The reference's rows: slots, tried points, what waits. -/
structure RS (w : World) (S sB sC m tB T vB vC N : Nat) (φ : Nat → Fr) (tf : Nat → Bool) (sl : Nat → Int) : Prop where
  slots : Ri w S sB sC m sl
  tried : w.ownsRow S 4 1 (.slice (some ⟨tB, 0, none⟩) T T) T (sc (fun i => .bool (tf i)) T)
  stack : w.ownsRow S 46 4 (.slice (some ⟨vB, 0, none⟩) N vC) N (c4 φ N)
  n1 : sB ≠ tB
  n2 : vB ≠ sB
  n3 : vB ≠ tB
  hS : S ≤ w.heap.size
section
variable {w w' : World} {S sB sC m tB T vB vC N : Nat} {φ : Nat → Fr} {tf : Nat → Bool} {sl : Nat → Int}
theorem RS.lts (h : RS w S sB sC m tB T vB vC N φ tf sl) : sB < w.heap.size ∧ tB < w.heap.size ∧ vB < w.heap.size ∧ S ≤ sB ∧ S ≤ tB ∧ S ≤ vB :=
  ⟨h.slots.lt.2, (row_lt h.tried tB rfl).2, (row_lt h.stack vB rfl).2, h.slots.lt.1, (row_lt h.tried tB rfl).1, (row_lt h.stack vB rfl).1⟩
theorem RS.kp0 (h : RS w S sB sC m tB T vB vC N φ tf sl) (k : Kp (fun _ => False) w w') : RS w' S sB sC m tB T vB vC N φ tf sl :=
  ⟨h.slots.kp k id, k.row h.tried (fun _ _ => id), k.row h.stack (fun _ _ => id), h.n1, h.n2, h.n3, Nat.le_trans h.hS k.size⟩
theorem RS.slot (h : RS w S sB sC m tB T vB vC N φ tf sl) (i : Nat) (hi : i < m) (v : Int) : RS (w.setCell ⟨sB, i, none⟩ (.int .i64 v)) S sB sC m tB T vB vC N φ tf (upd sl i v) ∧ w.cell? ⟨sB, i, none⟩ = some (.int .i64 (sl i)) ∧ w.frozen? ⟨sB, i, none⟩ = false ∧ Below S w (w.setCell ⟨sB, i, none⟩ (.int .i64 v)) := by
  have kk : Kp (· = sB) w (w.setCell ⟨sB, i, none⟩ (.int .i64 v)) := (Kp.refl (· = sB) w).setCell (p := ⟨sB, i, none⟩) rfl _
  obtain ⟨a, b⟩ := h.slots.cell i hi
  have hl := h.lts
  exact ⟨⟨h.slots.put i hi v, kk.row h.tried (fun q e x => h.n1 (by have e' : tB = q := Option.some.inj e; rw [e', x])), kk.row h.stack (fun q e x => h.n2 (by have e' : vB = q := Option.some.inj e; rw [e', x])), h.n1, h.n2, h.n3, Nat.le_trans h.hS kk.size⟩, a, b, kk.below h.hS (fun q hq e => by omega)⟩
theorem RS.try (h : RS w S sB sC m tB T vB vC N φ tf sl) (i : Nat) (hi : i < T) : RS (w.setCell ⟨tB, i, none⟩ (.bool true)) S sB sC m tB T vB vC N φ (up tf i true) sl ∧ w.cell? ⟨tB, i, none⟩ = some (.bool (tf i)) ∧ w.frozen? ⟨tB, i, none⟩ = false ∧ Below S w (w.setCell ⟨tB, i, none⟩ (.bool true)) := by
  have kk : Kp (· = tB) w (w.setCell ⟨tB, i, none⟩ (.bool true)) := (Kp.refl (· = tB) w).setCell (p := ⟨tB, i, none⟩) rfl _
  have hl := h.lts
  have hc := World.ownsRow.cellAt h.tried i (by omega)
  rw [sc_get _ T i hi] at hc
  refine ⟨⟨h.slots.kp kk (fun e => h.n1 e), ?_, kk.row h.stack (fun q e x => h.n3 (by have e' : vB = q := Option.some.inj e; rw [e', x])), h.n1, h.n2, h.n3, Nat.le_trans h.hS kk.size⟩, hc, World.ownsRow.frozenAt h.tried i, kk.below h.hS (fun q hq e => by omega)⟩
  have := (World.ownsRow.stored h.tried i (.bool true)).1
  rw [sc_set _ _ _ _ hi] at this
  have es : sc (up (fun i => Value.bool (tf i)) i (.bool true)) T = sc (fun j => .bool (up tf i true j)) T := sc_congr _ _ _ fun j _ => by
    unfold up
    split <;> rfl
  rw [es] at this
  exact this
/-- The last frame's cells; the stack without it. -/
theorem RS.last (h : RS w S sB sC m tB T vB vC (N + 1) φ tf sl) : (∀ k u, (f4 (φ N))[k]? = some u → w.cell? ⟨vB, N * 4 + k, none⟩ = some u) ∧ RS w S sB sC m tB T vB vC N φ tf sl ∧ N + 1 ≤ vC := by
  have hc : N + 1 ≤ vC := by
    rcases h.stack.2 with ⟨h0, _⟩ | ⟨g', cap, cur, hv, _, _, h1, _⟩
    · cases h0
    · cases hv; exact h1
  refine ⟨fun k u hu => ?_, ⟨h.slots, h.tried, ?_, h.n1, h.n2, h.n3, h.hS⟩, hc⟩
  · have hk : k < 4 := by
      have := (List.getElem?_eq_some_iff.1 hu).1
      rw [f4_len] at this
      exact this
    have := World.ownsRow.cellAt h.stack (N * 4 + k) (by omega)
    rw [c4_last φ N k hk, hu] at this
    exact this
  · refine ⟨c4_len φ N, ?_⟩
    rcases h.stack.2 with ⟨h0, _⟩ | ⟨g', cap, cur, hv, hB, hg, h1, h2, h3, h4⟩
    · cases h0
    · cases hv
      refine .inr ⟨_, _, cur, rfl, hB, hg, by omega, h2, h3, ?_⟩
      rw [← c4_take φ N, ← h4, List.take_take]
      congr 1
      omega
/-- A frame more. -/
theorem RS.push (h : RS w S sB sC m tB T vB vC N φ tf sl) (f : Fr) (a0 a1 a2 a3 : Value) (hf : f4 f = [a0, a1, a2, a3]) (hN : (N + 1) * 32 ≤ 140737488355328) :
    ∃ g c w', (Builtin.append_ #[47, 47] 47 #[.slice (some ⟨vB, 0, none⟩) N vC, .slice (some ⟨w.heap.size, 0, none⟩) 1 1]).run Tryd.prog (w.alloc (.cells #[a0, a1, a2, a3] 46)) = .ok (.slice (some ⟨g, 0, none⟩) (N + 1) c) w' ∧ RS w' S sB sC m tB T g c (N + 1) (up φ N f) tf sl ∧ Kp (· = vB) w w' := by
  obtain ⟨i0, hi, hz0, hz1, hz2⟩ := info_parts inf46
  have k0 : Kp (fun _ => False) w (w.alloc (.cells #[a0, a1, a2, a3] 46)) := Kp.alloc (Kp.refl _ w) _
  have h0 := h.kp0 k0
  have hl := h.lts
  obtain ⟨v', w', r, o', gr, _, h5⟩ := run_append_own_at (P := Tryd.prog) (w.alloc (.cells #[a0, a1, a2, a3] 46)) S 47 47 46 i0 (.agg #[.int .i64 0, .int .i64 0, .int .i64 0, .int .i64 0]) 4 32 Tryd.underlying47 hi hz0 hz1 hz2 rfl (by decide) _ N (c4 φ N) h0.stack ⟨w.heap.size, 0, none⟩ 1 1 (f4 f) (by rw [f4_len])
    (fun j u hj => by
      rw [Go.WideShapes.add_plain, Nat.zero_add, cell_of_row _ w.heap.size j #[a0, a1, a2, a3] 46 (0, 0) (heap_alloc_new w _)]
      rw [hf] at hj
      simpa using hj) (f4_one f) (by unfold maxLen; omega) hN (by simp; have := h.hS; omega)
  rw [← c4_push] at o'
  rcases o'.2 with ⟨_, h00⟩ | ⟨G, C, cur, rfl, hBG, _⟩
  · omega
  have kp : Kp (· = vB) w w' := ((Kp.refl _ w).alloc _).grown gr (fun q hq _ => (Option.some.inj hq).symm)
  have hG : G = vB ∨ w.heap.size < G := by
    rcases h5 with h5 | h5
    · exact .inl (Option.some.inj h5)
    · have h6 : G = (w.alloc (.cells #[a0, a1, a2, a3] 46)).heap.size := Option.some.inj h5
      rw [World.size_alloc] at h6
      exact .inr (by omega)
  refine ⟨G, C, w', r, ⟨h.slots.kp kp (fun e => h.n2 e.symm), kp.row h.tried (fun q e x => h.n3 (by have e' : tB = q := Option.some.inj e; rw [e', x])), o', h.n1, ?_, ?_, Nat.le_trans h.hS kp.size⟩, kp⟩
  · rcases hG with e | e
    · rw [e]; exact h.n2
    · omega
  · rcases hG with e | e
    · rw [e]; exact h.n3
    · omega
end
/-- The frames of a stack, the last one first. -/
def EncF (n L sn : Nat) (φ : Nat → Fr) : Nat → List Fr → Prop
  | N, [] => N = 0
  | N, f :: st => ∃ M, N = M + 1 ∧ φ M = f ∧ okF n L sn f ∧ EncF n L sn φ M st
theorem EncF.len {n L sn : Nat} {φ : Nat → Fr} : ∀ {N : Nat} {st : List Fr}, EncF n L sn φ N st → N = st.length
  | N, [], h => h
  | N, f :: st, h => by
    obtain ⟨M, e, _, _, h⟩ := h
    have := EncF.len h
    simp
    omega
theorem EncF.congr {n L sn : Nat} {φ ψ : Nat → Fr} : ∀ {N : Nat} {st : List Fr}, EncF n L sn φ N st → (∀ j, j < N → ψ j = φ j) → EncF n L sn ψ N st
  | N, [], h, _ => h
  | N, f :: st, h, e => by
    obtain ⟨M, rfl, h1, h2, h⟩ := h
    exact ⟨M, rfl, (e M (by omega)).trans h1, h2, EncF.congr h (fun j hj => e j (by omega))⟩
theorem EncF.push {n L sn : Nat} {φ : Nat → Fr} {N : Nat} {st : List Fr} (h : EncF n L sn φ N st) (f : Fr) (hf : okF n L sn f) : EncF n L sn (up φ N f) (N + 1) (f :: st) :=
  ⟨N, rfl, up_same _ _ _, hf, h.congr (fun j hj => up_other _ _ _ _ (by omega))⟩
/-- The number of a point in the reference's list. -/
def rfN (n : Nat) (p : Pt) : Nat := p.2 * n + p.1
theorem rfN_inj (n : Nat) (p q : Pt) (hp : p.1 < n) (hq : q.1 < n) (h : rfN n p = rfN n q) : p = q := by
  unfold rfN at h
  have h1 : (p.1 + p.2 * n) / n = (q.1 + q.2 * n) / n := by rw [Nat.add_comm p.1, Nat.add_comm q.1, h]
  rw [Nat.add_mul_div_right _ _ (by omega), Nat.add_mul_div_right _ _ (by omega), Nat.div_eq_of_lt hp, Nat.div_eq_of_lt hq] at h1
  have h2 : p.2 = q.2 := by omega
  refine Prod.ext ?_ h2
  rw [h2] at h
  omega
theorem rfN_lt (n L : Nat) (p : Pt) (hp : p.1 < n) (hl : p.2 ≤ L) : rfN n p < n * (L + 1) := by
  unfold rfN
  have := Nat.mul_le_mul_right n hl
  rw [Nat.mul_succ, Nat.mul_comm n L]
  omega
def Mkd (n L : Nat) (tf : Nat → Bool) (tr : Pt → Bool) : Prop := ∀ p : Pt, p.1 < n → p.2 ≤ L → tf (rfN n p) = tr p
theorem Mkd.mk1 {n L : Nat} {tf : Nat → Bool} {tr : Pt → Bool} (h : Mkd n L tf tr) (p : Pt) (hp : p.1 < n) : Mkd n L (up tf (rfN n p) true) (mark tr p) := fun q h1 h2 => by
  by_cases e : q = p
  · rw [e, up_same]; unfold mark; rw [if_pos rfl]
  · rw [up_other _ _ _ _ (fun x => e (rfN_inj n q p h1 hp x)), h q h1 h2]; unfold mark; rw [if_neg e]
/-- What holds of the reference's search between two steps. -/
structure Iw (y : Sy) (n L : Nat) (s0 : Pt) (sl0 : Nat → Int) (st : List Fr) (tr : Pt → Bool) (sl : Nat → Int) (g : Nat) : Prop where
  res : ∀ r, Res y (fun _ => true) st tr sl r → Res y (fun _ => true) [Sum.inl s0] (fun _ => false) sl0 r
  me : mea n L tr st ≤ g
  bd : g ≤ 100000000000
section
variable {x : Nat → In} {n : Nat} {s : ByteArray} {s0 : Pt} {sl0 : Nat → Int} {st : List Fr} {tr : Pt → Bool} {sl : Nat → Int} {g : Nat} {p : Pt}
theorem Iw.seen (h : Iw (sys x n s) n s.size s0 sl0 (Sum.inl p :: st) tr sl g) (hs : tr p = true) : ∃ g', g' < g ∧ Iw (sys x n s) n s.size s0 sl0 st tr sl g' := by
  have h1 := h.me
  have h2 : mea n s.size tr (Sum.inl p :: st) = mea n s.size tr st + 1 := by unfold mea; simp; omega
  exact ⟨mea n s.size tr st, by omega, fun r hr => h.res r (Res.seen (by rw [hs]; rfl) hr), Nat.le_refl _, by have := h.bd; omega⟩
theorem Iw.back {i : Nat} {v : Int} (h : Iw (sys x n s) n s.size s0 sl0 (Sum.inr (i, v) :: st) tr sl g) : ∃ g', g' < g ∧ Iw (sys x n s) n s.size s0 sl0 st tr (upd sl i v) g' := by
  have h1 := h.me
  have h2 : mea n s.size tr (Sum.inr (i, v) :: st) = mea n s.size tr st + 1 := by unfold mea; simp; omega
  exact ⟨mea n s.size tr st, by omega, fun r hr => h.res r (Res.back hr), Nat.le_refl _, by have := h.bd; omega⟩
theorem Iw.on (h : Iw (sys x n s) n s.size s0 sl0 (Sum.inl p :: st) tr sl g) (hs : tr p = false) (hw : (sys x n s).win p = false) (h1 : p.1 < n) (h2 : p.2 ≤ s.size) : ∃ g', g' < g ∧ Iw (sys x n s) n s.size s0 sl0 (aft (sys x n s) p st sl) (mark tr p) (aftS (sys x n s) p sl) g' := by
  have hm := mea_on (sys x n s) n s.size tr st sl p h1 h2 hs (ots_len x n s p)
  have h3 := h.me
  exact ⟨mea n s.size (mark tr p) (aft (sys x n s) p st sl), by omega, fun r hr => h.res r (Res.on (by rw [hs]; rfl) hw hr), Nat.le_refl _, by have := h.bd; omega⟩
theorem Iw.won (h : Iw (sys x n s) n s.size s0 sl0 (Sum.inl p :: st) tr sl g) (hs : tr p = false) (hw : (sys x n s).win p = true) : Res (sys x n s) (fun _ => true) [Sum.inl s0] (fun _ => false) sl0 (some sl) := h.res _ (Res.won (by rw [hs]; rfl) hw)
theorem Iw.none (h : Iw (sys x n s) n s.size s0 sl0 [] tr sl g) : Res (sys x n s) (fun _ => true) [Sum.inl s0] (fun _ => false) sl0 none := h.res _ (Res.nil _ _ _ _)
theorem Iw.start (x : Nat → In) (n : Nat) (s : ByteArray) (s0 : Pt) (sl0 : Nat → Int) (hn : n ≤ 10000) (hs : s.size ≤ 2097152) : ∃ g, Iw (sys x n s) n s.size s0 sl0 [Sum.inl s0] (fun _ => false) sl0 g := by
  refine ⟨mea n s.size (fun _ => false) [Sum.inl s0], fun r hr => hr, Nat.le_refl _, ?_⟩
  have h1 : n * (s.size + 1) ≤ 10000 * 2097153 := Nat.mul_le_mul hn (by omega)
  have h2 := unT_bd (fun _ => false) (n * (s.size + 1))
  show 3 * unT (fun _ => false) (n * (s.size + 1)) + 1 ≤ _
  omega
theorem Iw.len (h : Iw (sys x n s) n s.size s0 sl0 st tr sl g) : (st.length + 3) * 32 ≤ 140737488355328 := by
  have h1 := h.me
  have h2 := h.bd
  unfold mea at h1
  omega
end
end Go.Proofs.YtnpgkiidpeaapaaDoor
