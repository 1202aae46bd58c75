/- A search in memory; isNew, save. -/
import Derived.Test.YtnpgkiidpeaapaaDoorMc
namespace Go.Proofs.YtnpgkiidpeaapaaDoor
open Go.RowKit

/-- The machine that a search goes by: instructions and joints, in blocks that stay. -/
structure Mach (w : World) (mb : Nat) (ia : Option Addr) (n ic : Nat) (st gr : Int) (na : Option Addr) (nn nc jb jc : Nat) (jt : Nat → Int) (ct : Nat) : Prop where
  m0 : w.cell? ⟨mb, 0, none⟩ = some (.slice ia n ic)
  m1 : w.cell? ⟨mb, 1, none⟩ = some (.int .i64 st)
  m2 : w.cell? ⟨mb, 2, none⟩ = some (.int .i64 gr)
  m3 : w.cell? ⟨mb, 3, none⟩ = some (.slice na nn nc)
  m4 : w.cell? ⟨mb, 4, none⟩ = some (.slice (some ⟨jb, 0, none⟩) n jc)
  m5 : w.cell? ⟨mb, 5, none⟩ = some (.int .i64 (ct : Int))
  js : ∀ i, i < n → w.cell? ⟨jb, i, none⟩ = some (.int .i64 (jt i))
theorem Mach.below {w w' : World} {B mb : Nat} {ia : Option Addr} {n ic : Nat} {st gr : Int} {na : Option Addr} {nn nc jb jc : Nat} {jt : Nat → Int} {ct : Nat} (h : Mach w mb ia n ic st gr na nn nc jb jc jt ct) (hb : Below B w w') (h1 : mb < B) (h2 : jb < B) : Mach w' mb ia n ic st gr na nn nc jb jc jt ct :=
  ⟨(hb.cell (p := ⟨mb, 0, none⟩) h1).trans h.m0, (hb.cell (p := ⟨mb, 1, none⟩) h1).trans h.m1, (hb.cell (p := ⟨mb, 2, none⟩) h1).trans h.m2, (hb.cell (p := ⟨mb, 3, none⟩) h1).trans h.m3, (hb.cell (p := ⟨mb, 4, none⟩) h1).trans h.m4, (hb.cell (p := ⟨mb, 5, none⟩) h1).trans h.m5, fun i hi => (hb.cell (p := ⟨jb, i, none⟩) h2).trans (h.js i hi)⟩
/-- The slots. -/
def slc (sl : Nat → Int) : Nat → Value := fun i => .int .i64 (sl i)
/-- A search: its block b, the slots' block sb; all that it changes lies from sb on. -/
structure SS (w : World) (b mb sb sn sp : Nat) (s : ByteArray) (Ls Lm : Nat → Prop) (τ : Nat → It) (N size : Nat) (wd : Nat → Nat → Nat) (sl : Nat → Int) : Prop where
  c0 : w.cell? ⟨b, 0, none⟩ = some (.pointer (some ⟨mb, 0, none⟩))
  c1 : w.cell? ⟨b, 1, none⟩ = some (.string s)
  c2 : w.cell? ⟨b, 2, none⟩ = some (.slice (some ⟨sb, 0, none⟩) sn sp)
  z0 : w.frozen? ⟨b, 0, none⟩ = false
  z1 : w.frozen? ⟨b, 1, none⟩ = false
  z2 : w.frozen? ⟨b, 2, none⟩ = false
  z3 : w.frozen? ⟨b, 3, none⟩ = false
  slots : w.ownsRow 0 3 1 (.slice (some ⟨sb, 0, none⟩) sn sp) sn (sc (slc sl) sn)
  stk : Sk w sb b Ls τ N
  mks : Ms w sb b Lm size wd
  dis : ∀ k, Ls k → ¬ Lm k
  sB : ∀ k, Ls k → sb < k
  mB : ∀ k, Lm k → sb < k
  bB : sb < b
  nsb : ¬ Ls b
  nmb : ¬ Lm b
section
variable {w w' : World} {b mb sb sn sp : Nat} {s : ByteArray} {Ls Lm : Nat → Prop} {τ : Nat → It} {N size : Nat} {wd : Nat → Nat → Nat} {sl : Nat → Int}
theorem Sk.kp {S : Nat} {M : Nat → Prop} (h : Sk w S b Ls τ N) (k : Kp M w w') (h1 : ¬ M b) (h2 : ∀ i, Ls i → ¬ M i) : Sk w' S b Ls τ N := by
  obtain ⟨nf, nt, fv, tv, sv, fs, h⟩ := h
  exact ⟨nf, nt, fv, tv, sv, fs, h.kp k h1 h2⟩
theorem Sk.lt {S : Nat} (h : Sk w S b Ls τ N) : ∀ k, Ls k → k < w.heap.size := by
  obtain ⟨nf, nt, fv, tv, sv, fs, h⟩ := h
  exact h.lt
theorem Ms.kp {S : Nat} {M : Nat → Prop} (h : Ms w S b Lm size wd) (k : Kp M w w') (h1 : ¬ M b) (h2 : ∀ i, Lm i → ¬ M i) : Ms w' S b Lm size wd := by
  obtain ⟨np, nw, pv, ps, h⟩ := h
  exact ⟨np, nw, pv, ps, h.kp k h1 h2⟩
theorem Ms.lt {S : Nat} (h : Ms w S b Lm size wd) : ∀ k, Lm k → k < w.heap.size := by
  obtain ⟨np, nw, pv, ps, h⟩ := h
  exact h.lt
theorem SS.sizes (h : SS w b mb sb sn sp s Ls Lm τ N size wd sl) : sb < w.heap.size ∧ b < w.heap.size := ⟨(row_lt h.slots sb rfl).2, World.block_lt_of_cell? w _ h.c0⟩
theorem SS.below (h : SS w b mb sb sn sp s Ls Lm τ N size wd sl) (k : Below w.heap.size w w') : SS w' b mb sb sn sp s Ls Lm τ N size wd sl := by
  have kk : Kp (fun _ => False) w w' := Kp.of k
  exact ⟨kk.cell h.c0 id, kk.cell h.c1 id, kk.cell h.c2 id, kk.frozen h.c0 h.z0 id, kk.frozen h.c1 h.z1 id, kk.frozen h.c2 h.z2 id, by obtain ⟨_, _, _, _, m⟩ := h.mks; exact kk.frozen m.c3 h.z3 id, kk.row h.slots (fun _ _ => id), h.stk.kp kk id (fun _ _ => id), h.mks.kp kk id (fun _ _ => id), h.dis, h.sB, h.mB, h.bB, h.nsb, h.nmb⟩
/-- But for its cells of the stack the marks stay. -/
theorem Ms.fld {S : Nat} {M : Nat → Prop} (h : Ms w S b Lm size wd) (k : Kp M w w') (fl : Fld b w w') (z3 : w.frozen? ⟨b, 3, none⟩ = false) (h2 : ∀ i, Lm i → ¬ M i) : Ms w' S b Lm size wd := by
  obtain ⟨np, nw, pv, ps, h⟩ := h
  have hb : ∀ i k, ml pv ps np i = some k → ¬ M k := fun i k e => h2 k (h.inL i k e).1
  refine ⟨np, nw, pv, ps, h.enp, h.enw, h.hsz, (fl 3 _ (by decide) h.c3 z3).1, (fl 4 _ (by decide) h.c4 h.z4).1, (fl 4 _ (by decide) h.c4 h.z4).2, ?_, fun i hi => ?_, h.small, h.apart, h.inL, fun i hi => Nat.lt_of_lt_of_le (h.lt i hi) k.size⟩
  · rcases h.pages with o | o
    · exact .inl (k.row o (fun i e => hb 0 i e))
    · exact .inr o
  · rcases h.each i hi with o | ⟨g, c, e, o⟩
    · exact .inl o
    · exact .inr ⟨g, c, e, k.row o (fun j e => hb (i + 1) j (by show (if i < np then _ else _) = _; rw [if_pos hi]; exact e))⟩
theorem Sk.fld {S : Nat} {M : Nat → Prop} (h : Sk w S b Ls τ N) (k : Kp M w w') (fl : FldM b w w') (h2 : ∀ i, Ls i → ¬ M i) : Sk w' S b Ls τ N := by
  obtain ⟨nf, nt, fv, tv, sv, fs, h⟩ := h
  have hb : ∀ i k, bl fv tv sv fs nf i = some k → ¬ M k := fun i k e => h2 k (h.inL i k e).1
  exact ⟨nf, nt, fv, tv, sv, fs, h.eN, h.hnt, (fl 5 _ (by decide) h.c5 h.z5).1, (fl 6 _ (by decide) h.c6 h.z6).1, (fl 7 _ (by decide) h.c7 h.z7).1, (fl 5 _ (by decide) h.c5 h.z5).2, (fl 6 _ (by decide) h.c6 h.z6).2, (fl 7 _ (by decide) h.c7 h.z7).2,
    k.row h.full (fun i e => hb 0 i e), k.row h.top (fun i e => hb 1 i e), k.row h.spare (fun i e => hb 2 i e),
    fun j hj => ⟨k.row (h.each j hj).1 (fun i e => hb (j + 3) i (by show (if j < nf then _ else _) = _; rw [if_pos hj]; exact e)), (h.each j hj).2⟩, h.apart, h.inL, fun i hi => Nat.lt_of_lt_of_le (h.lt i hi) k.size⟩
/-- Behind a call on the stack. -/
theorem SS.stack {τ' : Nat → It} {N' : Nat} (h : SS w b mb sb sn sp s Ls Lm τ N size wd sl) (a : Aft w w' sb b Ls τ' N') : ∃ Ls', SS w' b mb sb sn sp s Ls' Lm τ' N' size wd sl ∧ Below sb w w' := by
  obtain ⟨L', hs, k, fl, hL⟩ := a
  have hsz := h.sizes
  have hbB := h.bB
  have nm : ∀ i, Lm i → ¬ (i = b ∨ Ls i) := fun i hi e => by
    rcases e with e | e
    · subst e; exact h.nmb hi
    · exact h.dis i e hi
  refine ⟨L', ⟨(fl 0 _ (by decide) h.c0 h.z0).1, (fl 1 _ (by decide) h.c1 h.z1).1, (fl 2 _ (by decide) h.c2 h.z2).1, (fl 0 _ (by decide) h.c0 h.z0).2, (fl 1 _ (by decide) h.c1 h.z1).2, (fl 2 _ (by decide) h.c2 h.z2).2, ?_, k.row h.slots (fun i e x => ?_), hs, h.mks.fld k fl h.z3 nm, fun i hi hm => ?_, fun i hi => ?_, h.mB, h.bB, fun e => ?_, h.nmb⟩, k.below (by omega) (fun i hi e => ?_)⟩
  · obtain ⟨_, _, _, _, m⟩ := h.mks
    exact (fl 3 _ (by decide) m.c3 h.z3).2
  · have e2 : sb = i := Option.some.inj e
    rcases x with x | x
    · omega
    · have := h.sB i x; omega
  · rcases hL i hi with e | e
    · exact h.dis i e hm
    · have := h.mks.lt i hm; omega
  · rcases hL i hi with e | e
    · exact h.sB i e
    · omega
  · rcases hL b e with e | e
    · exact h.nsb e
    · omega
  · rcases e with e | e
    · omega
    · have := h.sB i e; omega
/-- Behind a call on the marks. -/
theorem SS.marks {wd' : Nat → Nat → Nat} (h : SS w b mb sb sn sp s Ls Lm τ N size wd sl) (a : AftM w w' sb b Lm size wd') : ∃ Lm', SS w' b mb sb sn sp s Ls Lm' τ N size wd' sl ∧ Below sb w w' := by
  obtain ⟨L', hs, k, fl, hL⟩ := a
  have hsz := h.sizes
  have hbB := h.bB
  have nm : ∀ i, Ls i → ¬ (i = b ∨ Lm i) := fun i hi e => by
    rcases e with e | e
    · subst e; exact h.nsb hi
    · exact h.dis i hi e
  refine ⟨L', ⟨(fl 0 _ (by decide) h.c0 h.z0).1, (fl 1 _ (by decide) h.c1 h.z1).1, (fl 2 _ (by decide) h.c2 h.z2).1, (fl 0 _ (by decide) h.c0 h.z0).2, (fl 1 _ (by decide) h.c1 h.z1).2, (fl 2 _ (by decide) h.c2 h.z2).2, ?_, k.row h.slots (fun i e x => ?_), h.stk.fld k fl nm, hs, fun i hi hm => ?_, h.sB, fun i hi => ?_, h.bB, h.nsb, fun e => ?_⟩, k.below (by omega) (fun i hi e => ?_)⟩
  · obtain ⟨_, _, _, _, m⟩ := h.mks
    exact (fl 3 _ (by decide) m.c3 h.z3).2
  · have e2 : sb = i := Option.some.inj e
    rcases x with x | x
    · omega
    · have := h.mB i x; omega
  · rcases hL i hm with e | e
    · exact h.dis i hi e
    · have := h.stk.lt i hi; omega
  · rcases hL i hi with e | e
    · exact h.mB i e
    · omega
  · rcases hL b e with e | e
    · exact h.nmb e
    · omega
  · rcases e with e | e
    · omega
    · have := h.mB i e; omega
/-- A slot is set. -/
theorem SS.slot (h : SS w b mb sb sn sp s Ls Lm τ N size wd sl) (k : Nat) (hk : k < sn) (v : Int) : SS (w.setCell ⟨sb, k, none⟩ (.int .i64 v)) b mb sb sn sp s Ls Lm τ N size wd (upd sl k v) ∧ Below sb w (w.setCell ⟨sb, k, none⟩ (.int .i64 v)) ∧ w.cell? ⟨sb, k, none⟩ = some (.int .i64 (sl k)) ∧ w.frozen? ⟨sb, k, none⟩ = false := by
  have hsz := h.sizes
  have hbB := h.bB
  have kk : Kp (· = sb) w (w.setCell ⟨sb, k, none⟩ (.int .i64 v)) := (Kp.refl (· = sb) w).setCell (p := ⟨sb, k, none⟩) rfl _
  have nb : ¬ b = sb := by omega
  refine ⟨⟨kk.cell h.c0 nb, kk.cell h.c1 nb, kk.cell h.c2 nb, kk.frozen h.c0 h.z0 nb, kk.frozen h.c1 h.z1 nb, kk.frozen h.c2 h.z2 nb, ?_, ?_, h.stk.kp kk nb (fun i hi e => by have := h.sB i hi; omega), h.mks.kp kk nb (fun i hi e => by have := h.mB i hi; omega), h.dis, h.sB, h.mB, h.bB, h.nsb, h.nmb⟩, kk.below (by omega) (fun i hi e => by omega), ?_, World.ownsRow.frozenAt h.slots k⟩
  · obtain ⟨_, _, _, _, m⟩ := h.mks
    exact kk.frozen m.c3 h.z3 nb
  · have := (World.ownsRow.stored h.slots k (.int .i64 v)).1
    rw [sc_set _ _ _ _ hk] at this
    have es : sc (up (slc sl) k (.int .i64 v)) sn = sc (slc (upd sl k v)) sn := sc_congr _ _ _ fun i _ => by
      unfold up slc upd
      split <;> rfl
    rw [es] at this
    exact this
  · have := World.ownsRow.cellAt h.slots k (by omega)
    rw [sc_get _ sn k hk] at this
    exact this
end
end Go.Proofs.YtnpgkiidpeaapaaDoor
