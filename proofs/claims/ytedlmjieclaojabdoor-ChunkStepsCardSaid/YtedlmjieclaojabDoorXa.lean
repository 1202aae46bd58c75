/- apart over any number of lists: what its walk leans on. -/
import Derived.Test.YtedlmjieclaojabDoorGb
import Derived.Test.YtedlmjieclaojabDoorRj
import Derived.Maps.AppendAt
namespace Go.Proofs.YtedlmjieclaojabDoor
open Go.RowKit

/-- The mark of the list i. -/
def mrk (i : Nat) : Int := IntKind.u8.wrap (i : Int)
/-- The blocks of the lists. -/
def Mb (n : Nat) (V : Nat → Value) (k : Nat) : Prop := ∃ i, i < n ∧ (V i).ownBlock = some k
/-- Lists that share no memory, named in the block LB. -/
structure Ls (B n LB : Nat) (V : Nat → Value) : Prop where
  vv : ∀ i j, i < n → j < n → i ≠ j → ∀ g, (V i).ownBlock = some g → ¬ (V j).ownBlock = some g
  lb : ∀ i, i < n → ¬ (V i).ownBlock = some LB
  vl : ∀ i, i < n → ∀ g, (V i).ownBlock = some g → g < B
  ll : LB < B
def gl (n : Nat) (U : Nat → Value) : List Value := (List.range n).map U
theorem gl_get (n : Nat) (U : Nat → Value) (i : Nat) (h : i < n) : (gl n U)[i]? = some (U i) := by simp [gl, h]
theorem gl_set (n : Nat) (U : Nat → Value) (i : Nat) (v : Value) : (gl n U).set i v = gl n (up U i v) := by
  apply List.ext_getElem?
  intro j
  by_cases h : j < n
  · rw [gl_get n _ j h]
    by_cases e : i = j
    · subst e
      rw [List.getElem?_set_self (by simp [gl, h]), up_same]
    · rw [List.getElem?_set_ne e, gl_get n _ j h, up_other _ _ _ _ (Ne.symm e)]
  · rw [List.getElem?_eq_none (by simp [gl]; omega), List.getElem?_eq_none (by simp [gl]; omega)]
theorem gl_cell {W : World} {S B n c : Nat} {U : Nat → Value} (o : W.ownsRow S 38 1 (.slice (some ⟨B, 0, none⟩) n c) n (gl n U)) (i : Nat) (h : i < n) : W.cell? ⟨B, i, none⟩ = some (U i) := by
  have := o.cells (g := B) rfl i (U i) (gl_get n U i h)
  rw [Go.WideShapes.add_plain, Nat.zero_add] at this
  exact this
theorem info25 : (Tryd.prog.info? 38).map (fun i => (i.zero, i.size, i.bytes)) = some (some (.slice none 0 0), 1, 24) := by kernel_rfl
theorem make_g (W : World) (n : Nat) (hn : n * 24 ≤ 140737488355328) : ∃ W', (Instr.makeSlice 28 (.int .i64 (n : Nat)) (.int .i64 (n : Nat))).run Tryd.prog W = .ok (.slice (some ⟨W.heap.size, 0, none⟩) n n) W' ∧ W'.ownsRow W.heap.size 38 1 (.slice (some ⟨W.heap.size, 0, none⟩) n n) n (gl n fun _ => .slice none 0 0) ∧ Below W.heap.size W W' := by
  obtain ⟨i0, hi, hz0, hz1, hz2⟩ := info_parts info25
  obtain ⟨w2, r2, o2, g2⟩ := run_make_full (P := Tryd.prog) W W.heap.size 28 38 i0 _ 1 Tryd.underlying28 hi hz0 hz1 .i64 .i64 n (by rw [hz2]; omega) (by unfold maxLen; omega) (Nat.le_refl _)
  refine ⟨w2, r2, ?_, (Below.refl _ _).grown g2 (Nat.le_refl _) (fun k hk => by cases hk)⟩
  have e : (madeCells (Value.slice none 0 0).cells (n * 1)).toList = gl n fun _ => .slice none 0 0 := by
    rw [Nat.mul_one]
    show (madeCells #[Value.slice none 0 0] n).toList = _
    rw [toList_madeCells_one]
    exact (List.eq_replicate_iff.2 ⟨by simp [gl], by simp [gl]⟩).symm
  rw [e] at o2
  exact o2
/-- The first phase: the lists below p are marked, and the list p up to j. -/
structure A1 (S B n LB : Nat) (V : Nat → Value) (N : Nat → Nat) (p j : Nat) (W : World) : Prop where
  ex : ∃ Y : Nat → List Int, (∀ i, i < n → W.ownsRow S 5 1 (V i) (N i) (bc (Y i))) ∧ (∀ i, i < p → Y i = List.replicate (N i) (mrk i)) ∧ ∀ k, k < j → (Y p)[k]? = some (mrk p)
  ls : ∀ i, i < n → W.cell? ⟨LB, i, none⟩ = some (V i)
  gw : ∃ U, (∀ i, i < p → U i = V i) ∧ W.ownsRow B 38 1 (.slice (some ⟨B, 0, none⟩) n n) n (gl n U)
theorem own_len {W : World} {S n : Nat} {v : Value} {l : List Int} (o : W.ownsRow S 5 1 v n (bc l)) : l.length = n := by
  have := o.1
  rw [bc_len] at this
  omega
theorem A1.form {S B n LB : Nat} {V : Nat → Value} {N : Nat → Nat} {p j : Nat} {W : World} (h : A1 S B n LB V N p j W) (hp : p < n) : ∃ a c, V p = .slice a (N p) c ∧ (0 < N p → ∃ g, a = some ⟨g, 0, none⟩) := by
  obtain ⟨Y, h1, _⟩ := h.ex
  rcases (h1 p hp).2 with ⟨e, e2⟩ | ⟨g, c, cur, e, _⟩
  · exact ⟨none, 0, by rw [e, e2], fun h => by omega⟩
  · exact ⟨_, c, e, fun _ => ⟨g, rfl⟩⟩
theorem A1.put {S B n LB : Nat} {V : Nat → Value} {N : Nat → Nat} {p j g c : Nat} {W : World} (h : A1 S B n LB V N p j W) (hl : Ls B n LB V) (hp : p < n) (hj : j < N p) (hv : V p = .slice (some ⟨g, 0, none⟩) (N p) c) :
    A1 S B n LB V N p (j + 1) (W.setCell ⟨g, j, none⟩ (.int .u8 (mrk p))) ∧ Kp (Mb n V) W (W.setCell ⟨g, j, none⟩ (.int .u8 (mrk p))) ∧ W.frozen? ⟨g, j, none⟩ = false ∧ ∃ u, W.cell? ⟨g, j, none⟩ = some (.int .u8 u) := by
  obtain ⟨Y, h1, h2, h3⟩ := h.ex
  have o := h1 p hp
  rw [hv] at o
  have hb : (V p).ownBlock = some g := by rw [hv]; rfl
  have st := (World.ownsRow.stored o j (.int .u8 (mrk p))).1
  rw [← bc_set] at st
  have k1 : Kp (fun k => k = g) W (W.setCell ⟨g, j, none⟩ (.int .u8 (mrk p))) := (Kp.refl (fun k => k = g) W).setCell (p := ⟨g, j, none⟩) rfl _
  refine ⟨⟨⟨up Y p ((Y p).set j (mrk p)), fun i hi => ?_, fun i hi => ?_, fun k hk => ?_⟩, fun i hi => k1.cell (h.ls i hi) (fun e => hl.lb p hp (by rw [hb]; exact congrArg some e.symm)), ?_⟩, k1.mono (fun k _ e => ⟨p, hp, by rw [hb]; exact congrArg some (Eq.symm e)⟩), World.ownsRow.frozenAt o j, ?_⟩
  · by_cases e : i = p
    · subst e
      rw [up_same, hv]
      exact st
    · rw [up_other _ _ _ _ e]
      exact k1.row (h1 i hi) (fun k hk e2 => hl.vv i p hi hp e k hk (by rw [hb, e2]))
  · rw [up_other _ _ _ _ (by omega)]
    exact h2 i hi
  · rw [up_same]
    have hlen := own_len o
    by_cases e : j = k
    · subst e
      rw [List.getElem?_set_self (by omega)]
    · rw [List.getElem?_set_ne e]
      exact h3 k (by omega)
  · obtain ⟨U, u1, u2⟩ := h.gw
    refine ⟨U, u1, k1.row u2 (fun k hk e => ?_)⟩
    have : B = k := Option.some.inj hk
    have := hl.vl p hp g hb
    omega
  · have hlen := own_len o
    have := o.cells (g := g) rfl j (.int .u8 ((Y p).getD j 0)) (by simp [bc, List.getD, show j < (Y p).length by omega])
    rw [Go.WideShapes.add_plain, Nat.zero_add] at this
    exact ⟨_, this⟩
theorem A1.next {S B n LB : Nat} {V : Nat → Value} {N : Nat → Nat} {p : Nat} {W : World} (h : A1 S B n LB V N p (N p) W) (hl : Ls B n LB V) (hp : p < n) :
    A1 S B n LB V N (p + 1) 0 (W.setCell ⟨B, p, none⟩ (V p)) ∧ Kp (fun k => k = B) W (W.setCell ⟨B, p, none⟩ (V p)) ∧ W.frozen? ⟨B, p, none⟩ = false ∧ ∃ u, W.cell? ⟨B, p, none⟩ = some u := by
  obtain ⟨Y, h1, h2, h3⟩ := h.ex
  obtain ⟨U, u1, u2⟩ := h.gw
  have st := (World.ownsRow.stored u2 p (V p)).1
  rw [gl_set] at st
  have k1 : Kp (fun k => k = B) W (W.setCell ⟨B, p, none⟩ (V p)) := (Kp.refl (fun k => k = B) W).setCell (p := ⟨B, p, none⟩) rfl _
  refine ⟨⟨⟨Y, fun i hi => k1.row (h1 i hi) (fun k hk e => ?_), fun i hi => ?_, fun k hk => by omega⟩, fun i hi => k1.cell (h.ls i hi) (fun e => by have := hl.ll; have : LB = B := e; omega), ⟨up U p (V p), fun i hi => ?_, st⟩⟩, k1, World.ownsRow.frozenAt u2 p, _, gl_cell u2 p hp⟩
  · have := hl.vl i hi k hk
    omega
  · by_cases e : i = p
    · subst e
      have hlen := own_len (h1 i hp)
      refine List.eq_replicate_iff.2 ⟨hlen, fun b hb => ?_⟩
      obtain ⟨k, hk, rfl⟩ := List.mem_iff_getElem.1 hb
      have := h3 k (by omega)
      rw [List.getElem?_eq_getElem hk] at this
      exact Option.some.inj this
    · exact h2 i (by omega)
  · by_cases e : i = p
    · subst e
      rw [up_same]
    · rw [up_other _ _ _ _ e]
      exact u1 i (by omega)

/-- The second phase: the lists below q are longer by k + 1, the rest by k. -/
structure A2 (S B n LB : Nat) (V : Nat → Value) (N : Nat → Nat) (k q : Nat) (U : Nat → Value) (W : World) : Prop where
  rd : ∀ i, i < n → ∃ a c, V i = .slice a (N i) c ∧ Im W a (List.replicate (N i) (mrk i)) ∧ (0 < N i → ∃ g, a = some ⟨g, 0, none⟩)
  ow : ∀ i, i < n → W.ownsRow S 5 1 (U i) (N i + if i < q then k + 1 else k) (bc (List.replicate (N i + if i < q then k + 1 else k) (mrk i)))
  un : ∀ i, i < n → ∀ g, (U i).ownBlock = some g → (V i).ownBlock = some g ∨ B < g
  uu : ∀ i j, i < n → j < n → i ≠ j → ∀ g, (U i).ownBlock = some g → ¬ (U j).ownBlock = some g
  ls : ∀ i, i < n → W.cell? ⟨LB, i, none⟩ = some (V i)
  gw : W.ownsRow B 38 1 (.slice (some ⟨B, 0, none⟩) n n) n (gl n U)
theorem gl_congr (n : Nat) (U V : Nat → Value) (h : ∀ i, i < n → U i = V i) : gl n U = gl n V := by
  unfold gl
  exact List.map_congr_left (fun i hi => h i (List.mem_range.1 hi))
theorem A1.done {S B n LB : Nat} {V : Nat → Value} {N : Nat → Nat} {W : World} (h : A1 S B n LB V N n 0 W) (hl : Ls B n LB V) : A2 S B n LB V N 0 0 V W := by
  obtain ⟨Y, h1, h2, h3⟩ := h.ex
  obtain ⟨U, u1, u2⟩ := h.gw
  rw [gl_congr n U V u1] at u2
  refine ⟨fun i hi => ?_, fun i hi => ?_, fun i hi g hg => .inl hg, hl.vv, h.ls, u2⟩
  · have o := h1 i hi
    rw [h2 i hi] at o
    rcases o.2 with ⟨e, e2⟩ | ⟨g, c, cur, e, _⟩
    · exact ⟨none, 0, by rw [e, e2], .inl (by rw [e2]; rfl), fun h => by omega⟩
    · refine ⟨_, c, e, ?_, fun _ => ⟨g, rfl⟩⟩
      rw [e] at o
      exact Im.of_row (S := S) (c := c) (by rw [List.length_replicate]; exact o)
  · have o := h1 i hi
    rw [h2 i hi] at o
    rw [if_neg (by omega)]
    exact o
theorem A2.turn {S B n LB : Nat} {V : Nat → Value} {N : Nat → Nat} {k : Nat} {U : Nat → Value} {W : World} (h : A2 S B n LB V N k n U W) : A2 S B n LB V N (k + 1) 0 U W :=
  ⟨h.rd, fun i hi => by have := h.ow i hi; rw [if_pos hi] at this; rw [if_neg (by omega)]; exact this, h.un, h.uu, h.ls, h.gw⟩
/-- One byte behind a row; what lay in its block still reads. -/
theorem append_k (w : World) (S : Nat) (v : Value) (l : List Int) (x : Int) (hS : S ≤ w.heap.size) (hn : l.length + 1 ≤ 140737488355328) (o : w.ownsRow S 5 1 v l.length (bc l)) :
    ∃ g c w', (Builtin.append_ #[38, 38] 38 #[v, .slice (some ⟨w.heap.size, 0, none⟩) 1 1]).run Tryd.prog (w.alloc (.cells #[.int .u8 x] 5)) = .ok (.slice (some ⟨g, 0, none⟩) (l.length + 1) c) w' ∧
      w'.ownsRow S 5 1 (.slice (some ⟨g, 0, none⟩) (l.length + 1) c) (l.length + 1) (bc (l ++ [x])) ∧ Kp (fun k => v.ownBlock = some k) w w' ∧ (v.ownBlock = some g ∨ w.heap.size ≤ g) ∧
      ∀ G, v.ownBlock = some G → ∀ j, j < l.length → w'.cell? ⟨G, j, none⟩ = w.cell? ⟨G, j, none⟩ := by
  obtain ⟨g, c, w', r, o', k, hg⟩ := append_b w S v l x hS hn o
  refine ⟨g, c, w', r, o', k, hg, fun G hG j hj => ?_⟩
  obtain ⟨i0, hi, hz0, hz1, hz2⟩ := info_parts info5
  have o0 := World.ownsRow.alloc o (.cells #[.int .u8 x] 5)
  have hy : ∀ (j : Nat) (u : Value), [Value.int .u8 x][j]? = some u → (w.alloc (.cells #[.int .u8 x] 5)).cell? ((⟨w.heap.size, 0, none⟩ : Addr).add j) = some u := fun j u hj => by
    rw [Go.WideShapes.add_plain]
    unfold World.cell?
    rw [show (w.alloc (.cells #[.int .u8 x] 5)).heap[w.heap.size]? = some (.cells #[.int .u8 x] 5) from heap_alloc_new w _]
    simpa using hj
  have hc0 := o.cells hG j (.int .u8 (l.getD j 0)) (by simp [bc, List.getD, hj])
  rw [Go.WideShapes.add_plain, Nat.zero_add] at hc0
  have hlt := (o.lt G hG).2
  rcases o0.2 with ⟨rfl, _⟩ | ⟨g2, cap, cur, rfl, hbg, hgg, hnc, hcm, hcs, htake⟩
  · simp [Value.ownBlock] at hG
  · obtain rfl : g2 = G := by simpa [Value.ownBlock] using hG
    by_cases hroom : l.length + 1 ≤ cap
    · have hr2 := run_append_room (P := Tryd.prog) (w.alloc (.cells #[.int .u8 x] 5)) 38 38 5 i0 Tryd.underlying38 hi g2 l.length cap cur hgg ⟨w.heap.size, 0, none⟩ 1 1 [.int .u8 x] (by rw [hz1]; rfl) hy (by intro u hu; simp at hu; subst hu; rfl) hroom (by rw [hz1, hcs]; simp; omega)
      rw [r] at hr2
      obtain ⟨e1, e2⟩ := Result.ok.inj hr2
      have e5 : g = g2 := congrArg Addr.block (Option.some.inj (Value.slice.inj e1).1)
      subst e5
      have := o'.cells (g := g) rfl j (.int .u8 (l.getD j 0)) (by rw [bc_app, List.getElem?_append_left (by rw [bc_len]; exact hj)]; simp [bc, List.getD, hj])
      rw [Go.WideShapes.add_plain, Nat.zero_add] at this
      rw [this, hc0]
    · have hr2 := run_append_grow (P := Tryd.prog) (w.alloc (.cells #[.int .u8 x] 5)) 38 38 5 i0 _ Tryd.underlying38 hi hz0 ⟨g2, 0, none⟩ l.length cap (bc l) (by rw [hz1]; exact o.1) (o0.cells (g := g2) rfl) ⟨w.heap.size, 0, none⟩ 1 1 [.int .u8 x] (by rw [hz1]; rfl) hy (by omega) (by omega) (growslice_fits (by omega) (by rw [hz2]; omega))
      rw [r] at hr2
      obtain ⟨e1, e2⟩ := Result.ok.inj hr2
      rw [World.cell?_of_block (w := w) (w' := w') (a := ⟨g2, j, none⟩)]
      show w'.heap[g2]? = w.heap[g2]?
      rw [e2]
      have e6 := Below.heap_alloc (w.alloc (.cells #[.int .u8 x] 5)).drew
      exact (e6 _ g2 (by show g2 < (w.alloc (.cells #[.int .u8 x] 5)).heap.size; rw [World.size_alloc]; omega)).trans (Below.heap_alloc w _ g2 hlt)

theorem A2.grow {S B n LB : Nat} {V : Nat → Value} {N : Nat → Nat} {k q : Nat} {U : Nat → Value} {W w : World} (h : A2 S B n LB V N k q U W) (hl : Ls B n LB V) (hq : q < n) (hS : S ≤ W.heap.size) (hN : N q + k + 1 ≤ 140737488355328) (hk : Kp (Mb n V) w W) (hB : B = w.heap.size) :
    ∃ g c W', (Builtin.append_ #[38, 38] 38 #[U q, .slice (some ⟨W.heap.size, 0, none⟩) 1 1]).run Tryd.prog (W.alloc (.cells #[.int .u8 (mrk q)] 5)) = .ok (.slice (some ⟨g, 0, none⟩) (N q + k + 1) c) W' ∧ W'.frozen? ⟨B, q, none⟩ = false ∧ W'.cell? ⟨B, q, none⟩ = some (U q) ∧
      A2 S B n LB V N k (q + 1) (up U q (.slice (some ⟨g, 0, none⟩) (N q + k + 1) c)) (W'.setCell ⟨B, q, none⟩ (.slice (some ⟨g, 0, none⟩) (N q + k + 1) c)) ∧
      Kp (Mb n V) w (W'.setCell ⟨B, q, none⟩ (.slice (some ⟨g, 0, none⟩) (N q + k + 1) c)) := by
  have o := h.ow q hq
  rw [if_neg (by omega)] at o
  have hBW : B < W.heap.size := (h.gw.lt B rfl).2
  obtain ⟨g, c, W', r, o', k1, hg, hkeep⟩ := append_k W S (U q) (List.replicate (N q + k) (mrk q)) (mrk q) hS (by rw [List.length_replicate]; omega) (by rw [List.length_replicate]; exact o)
  rw [List.length_replicate] at r o' hkeep
  rw [show List.replicate (N q + k) (mrk q) ++ [mrk q] = List.replicate (N q + k + 1) (mrk q) from List.replicate_succ'.symm] at o'
  have hUB : ∀ i, i < n → ¬ (U i).ownBlock = some B := fun i hi e => by
    rcases h.un i hi B e with e2 | e2
    · have := hl.vl i hi B e2; omega
    · omega
  have hUl : ∀ i, i < n → ∀ b, (U i).ownBlock = some b → b < W.heap.size := fun i hi b e => ((h.ow i hi).lt b e).2
  have g1 : W'.ownsRow B 38 1 (.slice (some ⟨B, 0, none⟩) n n) n (gl n U) := k1.row h.gw (fun b hb e => by
    have : B = b := Option.some.inj hb
    subst this
    exact hUB q hq e)
  have st := (World.ownsRow.stored g1 q (.slice (some ⟨g, 0, none⟩) (N q + k + 1) c)).1
  rw [gl_set] at st
  have hgB : g ≠ B := fun e => by
    subst e
    rcases hg with e | e
    · exact hUB q hq e
    · omega
  have k2 : Kp (fun b => b = B) W' (W'.setCell ⟨B, q, none⟩ (.slice (some ⟨g, 0, none⟩) (N q + k + 1) c)) := (Kp.refl (fun b => b = B) W').setCell (p := ⟨B, q, none⟩) rfl _
  refine ⟨g, c, W', r, World.ownsRow.frozenAt g1 q, gl_cell g1 q hq, ⟨fun i hi => ?_, fun i hi => ?_, fun i hi b hb => ?_, fun i j hi hj hij b hb => ?_, fun i hi => ?_, st⟩, ?_⟩
  · obtain ⟨a, c0, e, hm, ha⟩ := h.rd i hi
    refine ⟨a, c0, e, ?_, ha⟩
    rcases hm with hm | ⟨G, o0, rfl, hG, hA⟩
    · exact .inl hm
    · by_cases h0 : 0 < N i
      · obtain ⟨G', e'⟩ := ha h0
        cases e'
        have hVG : (V i).ownBlock = some G := by rw [e]; rfl
        have hGB := hl.vl i hi G hVG
        refine .inr ⟨G, 0, rfl, Nat.lt_of_lt_of_le hG (Nat.le_trans k1.size k2.size), fun j hj => ?_⟩
        rw [List.length_replicate] at hj
        refine k2.cell ?_ (by show ¬ G = B; omega)
        have hA' := hA j (by rw [List.length_replicate]; exact hj)
        rw [Nat.zero_add] at hA' ⊢
        by_cases hsame : (U q).ownBlock = some G
        · by_cases hiq : i = q
          · subst hiq
            rw [hkeep G hsame j (by omega)]
            exact hA'
          · rcases h.un q hq G hsame with e2 | e2
            · exact absurd e2 (hl.vv i q hi hq hiq G hVG)
            · omega
        · exact k1.cell hA' hsame
      · exact .inl (by rw [show N i = 0 by omega]; rfl)
  · by_cases e : i = q
    · subst e
      rw [up_same, if_pos (by omega)]
      exact k2.row o' (fun b hb e => hgB ((Option.some.inj hb).trans e))
    · rw [up_other _ _ _ _ e]
      have := h.ow i hi
      have e2 : (i < q + 1) = (i < q) := propext (by omega)
      rw [show (if i < q + 1 then k + 1 else k) = if i < q then k + 1 else k by simp only [e2]]
      exact k2.row (k1.row this (fun b hb e3 => h.uu i q hi hq e b hb e3)) (fun b hb e3 => hUB i hi (by rw [hb, e3]))
  · by_cases e : i = q
    · subst e
      rw [up_same] at hb
      have : g = b := Option.some.inj hb
      subst this
      rcases hg with e | e
      · exact h.un i hi g e
      · exact .inr (by omega)
    · rw [up_other _ _ _ _ e] at hb
      exact h.un i hi b hb
  · by_cases e : i = q
    · subst e
      rw [up_same] at hb
      have : g = b := Option.some.inj hb
      subst this
      rw [up_other _ _ _ _ (Ne.symm hij)]
      rcases hg with e | e
      · exact h.uu i j hi hj hij g e
      · exact fun e2 => by have := hUl j hj g e2; omega
    · rw [up_other _ _ _ _ e] at hb
      by_cases e2 : j = q
      · subst e2
        rw [up_same]
        intro e3
        have : g = b := Option.some.inj e3
        subst this
        rcases hg with e4 | e4
        · exact h.uu i j hi hj hij g hb e4
        · have := hUl i hi g hb; omega
      · rw [up_other _ _ _ _ e2]
        exact h.uu i j hi hj hij b hb
  · refine k2.cell (k1.cell (h.ls i hi) (fun e => ?_)) (by show ¬ LB = B; have := hl.ll; omega)
    rcases h.un q hq LB e with e2 | e2
    · exact hl.lb q hq e2
    · have := hl.ll; omega
  · refine kp_far (hk.trans' k1 (fun b hb e => ?_)) (by show w.heap.size ≤ B; omega) _
    rcases h.un q hq b e with e2 | e2
    · exact ⟨q, hq, e2⟩
    · omega
end Go.Proofs.YtedlmjieclaojabDoor
