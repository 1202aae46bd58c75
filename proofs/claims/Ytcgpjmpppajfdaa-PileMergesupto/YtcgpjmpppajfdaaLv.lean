
/- PileMerges: the lists that are merged, as they were and as they were put. -/
import Derived.Test.YtcgpjmpppajfdaaLu
namespace Go.Proofs.Ytcgpjmpppajfdaa.Li
open Go.RowKit

theorem infBk : (Try.prog.info? 22).map (fun i => (i.zero, i.size, i.bytes)) = some (some (.slice none 0 0), 1, 24) := by kernel_rfl
abbrev sv (q : Ls) : Value := .slice q.1 q.2.1 q.2.2.1
/-- append of one slice. -/
theorem append_s (W : World) (S n : Nat) (v : Value) (xs : List Value) (x : Ls) (hS : S ≤ W.heap.size) (hn : n ≤ 1073741824) (o : W.ownsRow S 22 1 v n xs) :
    ∃ a c w', (Builtin.append_ #[53, 53] 53 #[v, .slice (some ⟨W.heap.size, 0, none⟩) 1 1]).run Try.prog (W.alloc (.cells #[sv x] 22)) = .ok (.slice a (n + 1) c) w' ∧ w'.ownsRow S 22 1 (.slice a (n + 1) c) (n + 1) (xs ++ [sv x]) ∧ Kp (fun k => v.ownBlock = some k) W w' ∧ (∀ k, (Value.slice a (n + 1) c).ownBlock = some k → v.ownBlock = some k ∨ W.heap.size ≤ k) := by
  obtain ⟨i0, hi, hz0, hz1, hz2⟩ := info_parts infBk
  have o0 := World.ownsRow.alloc o (.cells #[sv x] 22)
  obtain ⟨v', w', r, o', g, _, h5⟩ := run_append_own_at (P := Try.prog) (W.alloc (.cells #[sv x] 22)) S 53 53 22 i0 (.slice none 0 0) 1 24 Try.underlying53 hi hz0 hz1 hz2 rfl (by decide) v n xs o0 ⟨W.heap.size, 0, none⟩ 1 1 [sv x] (by rfl)
    (cell_one_new W (sv x) 22) (by intro u hu; simp at hu; rw [hu]; rfl) (by unfold maxLen; omega) (by omega) (by simp; omega)
  have hv : ∃ a c, v' = .slice a (n + 1) c := by
    rcases o'.2 with ⟨_, h0⟩ | ⟨G, C, cur, e, _⟩
    · omega
    · exact ⟨_, _, e⟩
  obtain ⟨a, c, rfl⟩ := hv
  refine ⟨a, c, w', r, o', ((Kp.refl _ W).alloc _).grown g (fun k hk _ => hk), fun k e => ?_⟩
  rcases h5 with h5 | h5
  · exact .inl (h5 ▸ e)
  · rw [h5] at e
    have := Option.some.inj e
    simp at this
    exact .inr (by omega)
abbrev inQ (q : Nat → Ls) (G : Nat → Nat) (i : Nat) : Ls := (some ⟨G i, 0, none⟩, (q i).2.1, (q i).2.1 + 40, (q i).2.2.2)
abbrev fuQ (q : Nat → Ls) (G : Nat → Nat) (i : Nat) : Ls := (some ⟨G i, 0, none⟩, (q i).2.1 + 40, (q i).2.1 + 40, pf (q i).2.2.2 (q i).2.1)
def mv (q : Nat → Ls) (n : Nat) : List Value := (List.range n).map fun i => sv (q i)
theorem mv_succ (q : Nat → Ls) (n : Nat) : mv q (n + 1) = mv q n ++ [sv (q n)] := by unfold mv; rw [List.range_succ, List.map_append]; rfl
theorem mv_congr {q p : Nat → Ls} {n : Nat} (h : ∀ i, i < n → q i = p i) : mv q n = mv p n := by
  unfold mv
  exact List.map_congr_left fun i hi => by rw [h i (List.mem_range.1 hi)]
theorem mv_get (q : Nat → Ls) (n i : Nat) (h : i < n) : (mv q n)[i]? = some (sv (q i)) := by simp [mv, h]
/-- What k may not be in: the blocks of the three rows. -/
def Rb (vm vi vf : Value) (k : Nat) : Prop := vm.ownBlock = some k ∨ vi.ownBlock = some k ∨ vf.ownBlock = some k
structure LS (n : Nat) (q : Nat → Ls) (G : Nat → Nat) (vm vi vf : Value) (w0 W : World) : Prop where
  m : W.ownsRow w0.heap.size 22 1 vm n (mv q n)
  i : W.ownsRow w0.heap.size 22 1 vi n (mv (inQ q G) n)
  f : W.ownsRow w0.heap.size 22 1 vf n (mv (fuQ q G) n)
  im : ∀ i, i < n → Iml W (q i).1 (q i).2.2.2 (q i).2.1 ∧ (q i).2.1 ≤ (q i).2.2.1
  pt : ∀ i, i < n → Ir W w0.heap.size (sv (fuQ q G i)) ((q i).2.1 + 40) (pf (q i).2.2.2 (q i).2.1)
  gd : ∀ i j, i < n → j < n → G i = G j → i = j
  ro : ∀ k, Rb vm vi vf k → (∀ i, i < n → G i ≠ k) ∧ ∀ i, i < n → 0 < (q i).2.1 → ∀ g o, (q i).1 = some ⟨g, o, none⟩ → g ≠ k
  d1 : ∀ k, vm.ownBlock = some k → vi.ownBlock ≠ some k ∧ vf.ownBlock ≠ some k
  d2 : ∀ k, vi.ownBlock = some k → vf.ownBlock ≠ some k
  bel : Below w0.heap.size w0 W
section
variable {n : Nat} {q : Nat → Ls} {G : Nat → Nat} {vm vi vf : Value} {w0 W W' : World}
theorem LS.below (h : LS n q G vm vi vf w0 W) (b : Below W.heap.size W W') : LS n q G vm vi vf w0 W' :=
  have k := Kp.of (M := fun _ => False) b
  ⟨k.row h.m (fun _ _ => id), k.row h.i (fun _ _ => id), k.row h.f (fun _ _ => id), fun i hi => ⟨(h.im i hi).1.below b, (h.im i hi).2⟩, fun i hi => (h.pt i hi).below b, h.gd, h.ro, h.d1, h.d2, h.bel.trans (b.mono h.bel.size)⟩
theorem row_lml {S : Nat} {v : Value} {p : Nat → Ls} (o : W.ownsRow S 22 1 v n (mv p n)) (h : ∀ i, i < n → Iml W (p i).1 (p i).2.2.2 (p i).2.1 ∧ (p i).2.1 ≤ (p i).2.2.1) : ∃ a c, v = .slice a n c ∧ Lml W a p n := by
  have hc := fun g => o.cells (g := g)
  rcases o.2 with ⟨rfl, h0⟩ | ⟨g, c, cur, rfl, _, hg, _⟩
  · subst h0
    exact ⟨none, 0, rfl, .inl rfl⟩
  · refine ⟨_, c, rfl, .inr ⟨g, 0, rfl, (Array.getElem?_eq_some_iff.1 hg).1, fun j hj => ⟨?_, h j hj⟩⟩⟩
    have := hc g rfl j _ (mv_get p n j hj)
    rw [Go.WideShapes.add_plain] at this
    exact this
theorem LS.lm (h : LS n q G vm vi vf w0 W) : ∃ a c, vm = .slice a n c ∧ Lml W a q n := row_lml h.m h.im
theorem Ir.cut {S m k c g : Nat} {f : Nat → It} {xs : Nat → It} (h : Ir W S (.slice (some ⟨g, 0, none⟩) m c) m f) (hk : k ≤ m) (e : ∀ j, j < k → f j = xs j) : Iml W (some ⟨g, 0, none⟩) xs k := by
  obtain ⟨a, c', e2, im, _⟩ := h.iml
  cases e2
  rcases im with h0 | ⟨g', o', e3, hg, hat⟩
  · exact .inl (by omega)
  · cases e3
    exact .inr ⟨g, 0, rfl, hg, fun j hj => by rw [← e j hj]; exact hat j (by omega)⟩
theorem pf_lt {xs : Nat → It} {n j : Nat} (h : j < n) : pf xs n j = xs j := if_pos h
theorem LS.inn (h : LS n q G vm vi vf w0 W) (i : Nat) (hi : i < n) : Iml W (some ⟨G i, 0, none⟩) (q i).2.2.2 (q i).2.1 := Ir.cut (h.pt i hi) (Nat.le_add_right _ _) (fun _ hj => pf_lt hj)
theorem LS.li (h : LS n q G vm vi vf w0 W) : ∃ a c, vi = .slice a n c ∧ Lml W a (inQ q G) n := row_lml h.i (fun i hi => ⟨h.inn i hi, by show (q i).2.1 ≤ (q i).2.1 + 40; omega⟩)
theorem LS.lf (h : LS n q G vm vi vf w0 W) : ∃ a c, vf = .slice a n c ∧ Lml W a (fuQ q G) n := row_lml h.f (fun i hi => ⟨Ir.cut (h.pt i hi) (Nat.le_refl _) (fun _ _ => rfl), Nat.le_refl _⟩)
theorem Rb.lt (h : LS n q G vm vi vf w0 W) {k : Nat} (hk : Rb vm vi vf k) : w0.heap.size ≤ k ∧ k < W.heap.size := by
  rcases hk with e | e | e
  · exact World.ownsRow.lt h.m k e
  · exact World.ownsRow.lt h.i k e
  · exact World.ownsRow.lt h.f k e
theorem LS.start (w0 W : World) (b : Below w0.heap.size w0 W) (q : Nat → Ls) (G : Nat → Nat) : LS 0 q G (.slice none 0 0) (.slice none 0 0) (.slice none 0 0) w0 W :=
  ⟨World.ownsRow_nil _ _ _ _, World.ownsRow_nil _ _ _ _, World.ownsRow_nil _ _ _ _, fun i hi => by omega, fun i hi => by omega, fun i j hi => by omega, fun k hk => by rcases hk with e | e | e <;> simp [Value.ownBlock] at e, fun k e => by simp [Value.ownBlock] at e, fun k e => by simp [Value.ownBlock] at e, b⟩
set_option maxHeartbeats 1000000 in
/-- One list more. -/
theorem LS.push (h : LS n q G vm vi vf w0 W) (x : Ls) (g : Nat) (hn : n ≤ 1048576) (hx : Iml W x.1 x.2.2.2 x.2.1 ∧ x.2.1 ≤ x.2.2.1) (hp : Ir W w0.heap.size (.slice (some ⟨g, 0, none⟩) (x.2.1 + 40) (x.2.1 + 40)) (x.2.1 + 40) (pf x.2.2.2 x.2.1)) (hg : ∀ i, i < n → G i ≠ g) (hr : ∀ k, Rb vm vi vf k → g ≠ k ∧ (0 < x.2.1 → ∀ b o, x.1 = some ⟨b, o, none⟩ → b ≠ k)) :
    ∃ am cm w1 ai ci w2 af cf w3,
      (Builtin.append_ #[53, 53] 53 #[vm, .slice (some ⟨W.heap.size, 0, none⟩) 1 1]).run Try.prog (W.alloc (.cells #[sv x] 22)) = .ok (.slice am (n + 1) cm) w1 ∧
      (Builtin.append_ #[53, 53] 53 #[vi, .slice (some ⟨w1.heap.size, 0, none⟩) 1 1]).run Try.prog (w1.alloc (.cells #[.slice (some ⟨g, 0, none⟩) x.2.1 (x.2.1 + 40)] 22)) = .ok (.slice ai (n + 1) ci) w2 ∧
      (Builtin.append_ #[53, 53] 53 #[vf, .slice (some ⟨w2.heap.size, 0, none⟩) 1 1]).run Try.prog (w2.alloc (.cells #[.slice (some ⟨g, 0, none⟩) (x.2.1 + 40) (x.2.1 + 40)] 22)) = .ok (.slice af (n + 1) cf) w3 ∧
      LS (n + 1) (up q n x) (up G n g) (.slice am (n + 1) cm) (.slice ai (n + 1) ci) (.slice af (n + 1) cf) w0 w3 := by
  obtain ⟨am, cm, w1, r1, o1, k1, e1⟩ := append_s W w0.heap.size n vm (mv q n) x h.bel.size (by omega) h.m
  have i1 := k1.row h.i (fun k e x => (h.d1 k x).1 e)
  obtain ⟨ai, ci, w2, r2, o2, k2, e2⟩ := append_s w1 w0.heap.size n vi (mv (inQ q G) n) (some ⟨g, 0, none⟩, x.2.1, x.2.1 + 40, x.2.2.2) (Nat.le_trans h.bel.size k1.size) (by omega) i1
  have f2 := k2.row (k1.row h.f (fun k e x => (h.d1 k x).2 e)) (fun k e x => h.d2 k x e)
  obtain ⟨af, cf, w3, r3, o3, k3, e3⟩ := append_s w2 w0.heap.size n vf (mv (fuQ q G) n) (some ⟨g, 0, none⟩, x.2.1 + 40, x.2.1 + 40, pf x.2.2.2 x.2.1) (Nat.le_trans (Nat.le_trans h.bel.size k1.size) k2.size) (by omega) f2
  have s1 := k1.size
  have s2 := k2.size
  have m2 := k2.row o1 (fun k e x => by
    rcases e1 k e with y | y
    · exact (h.d1 k y).1 x
    · have := (World.ownsRow.lt h.i k x).2; omega)
  have m3 := k3.row m2 (fun k e x => by
    rcases e1 k e with y | y
    · exact (h.d1 k y).2 x
    · have := (World.ownsRow.lt h.f k x).2; omega)
  have i3 := k3.row o2 (fun k e x => by
    rcases e2 k e with y | y
    · exact h.d2 k y x
    · have := (World.ownsRow.lt h.f k x).2; omega)
  have kk : Kp (Rb vm vi vf) W w3 := ((k1.mono (fun _ _ e => .inl e)).trans (k2.mono (fun _ _ e => .inr (.inl e)))).trans (k3.mono (fun _ _ e => .inr (.inr e)))
  have nw : ∀ k, Rb (.slice am (n + 1) cm) (.slice ai (n + 1) ci) (.slice af (n + 1) cf) k → Rb vm vi vf k ∨ W.heap.size ≤ k := fun k hk => by
    rcases hk with e | e | e
    · rcases e1 k e with y | y
      · exact .inl (.inl y)
      · exact .inr y
    · rcases e2 k e with y | y
      · exact .inl (.inr (.inl y))
      · exact .inr (by omega)
    · rcases e3 k e with y | y
      · exact .inl (.inr (.inr y))
      · exact .inr (by omega)
  have cq : ∀ i, i < n → up q n x i = q i := fun i hi => up_other _ _ _ _ (by omega)
  have cg : ∀ i, i < n → up G n g i = G i := fun i hi => up_other _ _ _ _ (by omega)
  have ci2 : mv (inQ (up q n x) (up G n g)) (n + 1) = mv (inQ q G) n ++ [sv (some ⟨g, 0, none⟩, x.2.1, x.2.1 + 40, x.2.2.2)] := by
    rw [mv_succ, mv_congr (p := inQ q G) (fun i hi => by unfold inQ; rw [cq i hi, cg i hi])]
    unfold inQ
    rw [up_same, up_same]
  have cf2 : mv (fuQ (up q n x) (up G n g)) (n + 1) = mv (fuQ q G) n ++ [sv (some ⟨g, 0, none⟩, x.2.1 + 40, x.2.1 + 40, pf x.2.2.2 x.2.1)] := by
    rw [mv_succ, mv_congr (p := fuQ q G) (fun i hi => by unfold fuQ; rw [cq i hi, cg i hi])]
    unfold fuQ
    rw [up_same, up_same]
  have imk : ∀ {a : Option Addr} {f : Nat → It} {m : Nat}, Iml W a f m → (0 < m → ∀ b o, a = some ⟨b, o, none⟩ → ¬ Rb vm vi vf b) → Iml w3 a f m := fun {a f m} hi hb => by
    by_cases h0 : 0 < m
    · exact hi.kp kk (hb h0)
    · exact .inl (by omega)
  have gl : ∀ i, i < n → G i < W.heap.size := fun i hi => (World.ownsRow.lt (h.pt i hi) (G i) rfl).2
  have gw : g < W.heap.size := (World.ownsRow.lt hp g rfl).2
  refine ⟨am, cm, w1, ai, ci, w2, af, cf, w3, r1, r2, r3, ?_, ?_, ?_, fun i hi => ?_, fun i hi => ?_, fun i j hi hj e => ?_, fun k hk => ?_, fun k e => ?_, fun k e => ?_, ?_⟩
  · rw [mv_succ, mv_congr (p := q) cq, up_same]
    exact m3
  · rw [ci2]; exact i3
  · rw [cf2]; exact o3
  · by_cases e : i = n
    · subst e
      rw [up_same]
      exact ⟨imk hx.1 (fun h0 b o e hk => (hr b hk).2 h0 b o e rfl), hx.2⟩
    · rw [cq i (by omega)]
      exact ⟨imk (h.im i (by omega)).1 (fun h0 b o e hk => (h.ro b hk).2 i (by omega) h0 b o e rfl), (h.im i (by omega)).2⟩
  · by_cases e : i = n
    · subst e
      unfold fuQ
      rw [up_same, up_same]
      exact kk.row hp (fun k e hk => by cases e; exact (hr g hk).1 rfl)
    · unfold fuQ
      rw [cq i (by omega), cg i (by omega)]
      exact kk.row (h.pt i (by omega)) (fun k e hk => by cases e; exact (h.ro (G i) hk).1 i (by omega) rfl)
  · by_cases a1 : i = n
    · by_cases a2 : j = n
      · omega
      · subst a1
        rw [up_same, cg j (by omega)] at e
        exact absurd e.symm (hg j (by omega))
    · rw [cg i (by omega)] at e
      by_cases a2 : j = n
      · subst a2
        rw [up_same] at e
        exact absurd e (hg i (by omega))
      · rw [cg j (by omega)] at e
        exact h.gd i j (by omega) (by omega) e
  · refine ⟨fun i hi e => ?_, fun i hi h0 b o e eb => ?_⟩
    · by_cases a1 : i = n
      · subst a1
        rw [up_same] at e
        rcases nw k hk with y | y
        · exact (hr k y).1 e
        · omega
      · rw [cg i (by omega)] at e
        rcases nw k hk with y | y
        · exact (h.ro k y).1 i (by omega) e
        · have := gl i (by omega)
          omega
    · by_cases a1 : i = n
      · subst a1
        rw [up_same] at e h0
        rcases nw k hk with y | y
        · exact (hr k y).2 h0 b o e eb
        · rcases hx.1 with h1 | ⟨b', o', e', hb', _⟩
          · omega
          · rw [e] at e'
            cases e'
            omega
      · rw [cq i (by omega)] at e h0
        rcases nw k hk with y | y
        · exact (h.ro k y).2 i (by omega) h0 b o e eb
        · rcases (h.im i (by omega)).1 with h1 | ⟨b', o', e', hb', _⟩
          · omega
          · rw [e] at e'
            cases e'
            omega
  · refine ⟨fun x => ?_, fun x => ?_⟩
    · rcases e1 k e with y | y
      · rcases e2 k x with z | z
        · exact (h.d1 k y).1 z
        · have := (World.ownsRow.lt h.m k y).2; omega
      · rcases e2 k x with z | z
        · have := (World.ownsRow.lt h.i k z).2; omega
        · have := (World.ownsRow.lt o1 k e).2; omega
    · rcases e1 k e with y | y
      · rcases e3 k x with z | z
        · exact (h.d1 k y).2 z
        · have := (World.ownsRow.lt h.m k y).2; omega
      · rcases e3 k x with z | z
        · have := (World.ownsRow.lt h.f k z).2; omega
        · have := (World.ownsRow.lt o1 k e).2; omega
  · intro x
    rcases e2 k e with y | y
    · rcases e3 k x with z | z
      · exact h.d2 k y z
      · have := (World.ownsRow.lt h.i k y).2; omega
    · rcases e3 k x with z | z
      · have := (World.ownsRow.lt h.f k z).2; omega
      · have := (World.ownsRow.lt o2 k e).2; omega
  · exact h.bel.trans (kk.below h.bel.size (fun k hk e => by have := (Rb.lt h e).1; omega))
end
end Go.Proofs.Ytcgpjmpppajfdaa.Li
