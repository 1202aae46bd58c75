/- A search under way: what its calls leave. -/
import Derived.Test.YtnpgkiidpeaapaaDoorPa
import Derived.Test.YtnpgkiidpeaapaaDoorPh
namespace Go.Proofs.YtnpgkiidpeaapaaDoor
open Go.RowKit

/-- What a search goes by, and where it lies. -/
structure Cx where
  x : Nat → In
  n : Nat
  st : Int
  gr : Int
  s : ByteArray
  mb : Nat
  ia : Option Addr
  ic : Nat
  na : Option Addr
  nn : Nat
  nc : Nat
  jb : Nat
  jc : Nat
  b : Nat
  sb : Nat
  sn : Nat
  sp : Nat
namespace Cx
abbrev J (k : Cx) : Nat → Bool := jo k.x k.n k.st
abbrev L (k : Cx) : Nat := k.s.size
abbrev ct (k : Cx) : Nat := cj k.J k.n
abbrev size (k : Cx) : Nat := k.ct * (k.L + 1)
abbrev y (k : Cx) : Sy := sys k.x k.n k.s
abbrev s0 (k : Cx) : Pt := (k.st.toNat, 0)
end Cx
/-- What stays while a search goes on. -/
structure Fix (k : Cx) (w : World) : Prop where
  mach : Mach w k.mb k.ia k.n k.ic k.st k.gr k.na k.nn k.nc k.jb k.jc (jtI k.J) k.ct
  ins : Nml w k.ia k.x k.n
  tabs : Lib.Utf8Tabs 0 1 w
  mlt : k.mb < k.sb
  jlt : k.jb < k.sb
  ilt : ∀ g o, k.ia = some ⟨g, o, none⟩ → g < k.sb
  rlt : ∀ j, j < k.n → 0 < (k.x j).rn → ∀ g o, (k.x j).ra = some ⟨g, o, none⟩ → g < k.sb
  tlt : 1 < k.sb
  sin : ∀ j, j < k.n → SIn (k.x j) k.n k.gr
  hn : k.n ≤ 10000
  hs : k.s.size ≤ 2097152
  st0 : 0 ≤ k.st
  stn : k.st < (k.n : Int)
  gr0 : 0 ≤ k.gr
  grn : k.gr ≤ 100
  esn : (k.sn : Int) = 2 * (k.gr + 1)
theorem Nml.low {w w' : World} {B : Nat} {a : Option Addr} {x : Nat → In} {n : Nat} (h : Nml w a x n) (hb : Below B w w') (h1 : ∀ g o, a = some ⟨g, o, none⟩ → g < B) (h2 : ∀ j, j < n → 0 < (x j).rn → ∀ g o, (x j).ra = some ⟨g, o, none⟩ → g < B) : Nml w' a x n := by
  rcases h with h | ⟨g, o, rfl, hg, hc⟩
  · exact .inl h
  · have hgB := h1 g o rfl
    refine .inr ⟨g, o, rfl, Nat.lt_of_lt_of_le hg hb.size, fun j hj => ?_⟩
    obtain ⟨c0, c1, c2, c3, c4, c5, c6⟩ := hc j hj
    refine ⟨(hb.cell (p := ⟨g, o + j * 5, none⟩) hgB).trans c0, (hb.cell (p := ⟨g, o + j * 5 + 1, none⟩) hgB).trans c1, (hb.cell (p := ⟨g, o + j * 5 + 2, none⟩) hgB).trans c2, (hb.cell (p := ⟨g, o + j * 5 + 3, none⟩) hgB).trans c3, (hb.cell (p := ⟨g, o + j * 5 + 4, none⟩) hgB).trans c4, ?_, c6⟩
    rcases c5 with c5 | ⟨g', o', e, hg', hc'⟩
    · exact .inl c5
    by_cases hr0 : (x j).rn = 0
    · exact .inl hr0
    · have hgB' := h2 j hj (by omega) g' o' e
      exact .inr ⟨g', o', e, Nat.lt_of_lt_of_le hg' hb.size, fun i hi => ⟨(hb.cell (p := ⟨g', o' + i * 2, none⟩) hgB').trans (hc' i hi).1, (hb.cell (p := ⟨g', o' + i * 2 + 1, none⟩) hgB').trans (hc' i hi).2⟩⟩
theorem Fix.below {k : Cx} {w w' : World} (h : Fix k w) (hb : Below k.sb w w') : Fix k w' :=
  ⟨h.mach.below hb h.mlt h.jlt, h.ins.low hb h.ilt h.rlt, tabs_below h.tabs h.tlt hb, h.mlt, h.jlt, h.ilt, h.rlt, h.tlt, h.sin, h.hn, h.hs, h.st0, h.stn, h.gr0, h.grn, h.esn⟩
theorem Fix.size_le {k : Cx} {w : World} (h : Fix k w) : k.n * (k.L + 1) ≤ 20971530000 ∧ k.size ≤ 20971530000 := by
  have h1 := h.hn
  have h2 := h.hs
  have h3 := cj_bd k.J k.n
  have h4 : k.n * (k.L + 1) ≤ 10000 * 2097153 := Nat.mul_le_mul h1 (by show k.s.size + 1 ≤ _; omega)
  have h5 : k.size ≤ k.n * (k.L + 1) := Nat.mul_le_mul_right _ h3
  exact ⟨by omega, by omega⟩
/-- A search under way. -/
def Gs (k : Cx) (W0 w : World) (tr : Pt → Bool) (st : List Fr) (sl : Nat → Int) : Prop :=
  ∃ Ls Lm τ N wd, SS w k.b k.mb k.sb k.sn k.sp k.s Ls Lm τ N k.size wd sl ∧ EncS k.n k.L k.sn τ N st ∧ (∀ p : Pt, p.1 < k.n → p.2 ≤ k.L → k.J p.1 = true → mkB wd (mkN k.J k.L p) = tr p) ∧ Below k.sb W0 w
section
variable {k : Cx} {W0 w w' : World} {tr : Pt → Bool} {st : List Fr} {sl : Nat → Int}
theorem Gs.below (h : Gs k W0 w tr st sl) (hb : Below w.heap.size w w') : Gs k W0 w' tr st sl := by
  obtain ⟨Ls, Lm, τ, N, wd, h1, h2, h3, h4⟩ := h
  exact ⟨Ls, Lm, τ, N, wd, h1.below hb, h2, h3, h4.trans (hb.mono (Nat.le_of_lt h1.sizes.1))⟩
theorem Gs.fix (h : Gs k W0 w tr st sl) (f : Fix k W0) : Fix k w := by
  obtain ⟨Ls, Lm, τ, N, wd, h1, h2, h3, h4⟩ := h
  exact f.below h4
theorem Gs.cells (h : Gs k W0 w tr st sl) : w.cell? ⟨k.b, 0, none⟩ = some (.pointer (some ⟨k.mb, 0, none⟩)) ∧ w.cell? ⟨k.b, 1, none⟩ = some (.string k.s) ∧ w.cell? ⟨k.b, 2, none⟩ = some (.slice (some ⟨k.sb, 0, none⟩) k.sn k.sp) := by
  obtain ⟨Ls, Lm, τ, N, wd, h1, h2, h3, h4⟩ := h
  exact ⟨h1.c0, h1.c1, h1.c2⟩
theorem Gs.slot (h : Gs k W0 w tr st sl) (i : Nat) (hi : i < k.sn) (v : Int) : Gs k W0 (w.setCell ⟨k.sb, i, none⟩ (.int .i64 v)) tr st (upd sl i v) ∧ w.cell? ⟨k.sb, i, none⟩ = some (.int .i64 (sl i)) ∧ w.frozen? ⟨k.sb, i, none⟩ = false := by
  obtain ⟨Ls, Lm, τ, N, wd, h1, h2, h3, h4⟩ := h
  obtain ⟨a, b, c, d⟩ := h1.slot i hi v
  exact ⟨⟨Ls, Lm, τ, N, wd, a, h2, h3, h4.trans b⟩, c, d⟩
theorem Gs.lens (h : Gs k W0 w tr st sl) : ∃ Ls τ, Sk w k.sb k.b Ls τ st.length := by
  obtain ⟨Ls, Lm, τ, N, wd, h1, h2, h3, h4⟩ := h
  exact ⟨Ls, τ, h2.len ▸ h1.stk⟩
theorem Gs.push (h : Gs k W0 w tr st sl) (f : Fr) (hf : okF k.n k.L k.sn f) (hN : (st.length + 1) * 16 ≤ 140737488355328) :
    Calls Tryd.prog 33 #[.pointer (some ⟨k.b, 5, none⟩), iv (enc f)] w fun r w' => r = .returned (.tuple #[]) ∧ Gs k W0 w' tr (f :: st) sl := by
  obtain ⟨Ls, Lm, τ, N, wd, h1, h2, h3, h4⟩ := h
  refine (push_any w k.sb k.b Ls τ N (enc f) h1.stk (Nat.le_of_lt h1.sizes.1) (by rw [h2.len]; exact hN)).mono ?_
  rintro r w1 ⟨rfl, a⟩
  obtain ⟨Ls', s2, b2⟩ := h1.stack a
  exact ⟨rfl, Ls', Lm, _, _, wd, s2, h2.push f hf, h3, h4.trans b2⟩
theorem Gs.pop {f : Fr} (h : Gs k W0 w tr (f :: st) sl) :
    Calls Tryd.prog 35 #[.pointer (some ⟨k.b, 5, none⟩)] w fun r w' => r = .returned (iv (enc f)) ∧ okF k.n k.L k.sn f ∧ Gs k W0 w' tr st sl := by
  obtain ⟨Ls, Lm, τ, N, wd, h1, ⟨M, rfl, e1, e2, h2⟩, h3, h4⟩ := h
  refine (pop_any w k.sb k.b Ls τ M h1.stk).mono ?_
  rintro r w1 ⟨rfl, a⟩
  obtain ⟨Ls', s2, b2⟩ := h1.stack a
  exact ⟨by rw [e1], e2, Ls', Lm, _, _, wd, s2, h2, h3, h4.trans b2⟩
theorem Gs.empty (h : Gs k W0 w tr st sl) (hN : st.length * 16 ≤ 140737488355328) :
    Calls Tryd.prog 34 #[.pointer (some ⟨k.b, 5, none⟩)] w fun r w' => r = .returned (.bool (decide (st.length = 0))) ∧ Gs k W0 w' tr st sl := by
  obtain ⟨Ls, Lm, τ, N, wd, h1, h2, h3, h4⟩ := h
  have hl := h2.len
  refine (empty_any w k.sb k.b Ls τ N h1.stk (by rw [hl]; exact hN)).mono ?_
  rintro r w1 ⟨rfl, a⟩
  exact ⟨by rw [hl], Gs.below ⟨Ls, Lm, τ, N, wd, h1, h2, h3, h4⟩ a⟩
theorem mark_new (tr : Pt → Bool) (p : Pt) (h : tr p = true) : mark tr p = tr := by
  funext q
  unfold mark
  split
  · rename_i e; rw [e, h]
  · rfl
theorem Gs.add {p : Pt} (h : Gs k W0 w tr st sl) (h1 : p.1 < k.n) (h2 : p.2 ≤ k.L) (hJ : k.J p.1 = true) :
    Calls Tryd.prog 41 #[.pointer (some ⟨k.b, 3, none⟩), .int .i64 (mkN k.J k.L p : Int)] w fun r w' => r = .returned (.bool (!tr p)) ∧ Gs k W0 w' (mark tr p) st sl := by
  obtain ⟨Ls, Lm, τ, N, wd, g1, g2, g3, g4⟩ := h
  refine (add_any w k.sb k.b (mkN k.J k.L p) Lm k.size wd g1.mks (mkN_lt k.J k.L k.n p hJ h1 h2) (Nat.le_of_lt g1.sizes.1)).mono ?_
  rintro r w1 ⟨rfl, a⟩
  obtain ⟨Lm', s2, b2⟩ := g1.marks a
  refine ⟨by rw [g3 p h1 h2 hJ], Ls, Lm', _, _, _, s2, g2, fun q a1 a2 a3 => ?_, g4.trans b2⟩
  rw [mkB_or, g3 q a1 a2 a3]
  unfold mark
  by_cases e : q = p
  · rw [if_pos e, e]; simp
  · rw [if_neg e]
    have : ¬ mkN k.J k.L q = mkN k.J k.L p := fun x => e (mkN_inj k.J k.L q p a3 hJ a2 h2 x)
    simp [this]
theorem Gs.skip {p : Pt} (h : Gs k W0 w tr st sl) (hJ : k.J p.1 = false) : Gs k W0 w (mark tr p) st sl := by
  obtain ⟨Ls, Lm, τ, N, wd, g1, g2, g3, g4⟩ := h
  refine ⟨Ls, Lm, τ, N, wd, g1, g2, fun q a1 a2 a3 => ?_, g4⟩
  rw [g3 q a1 a2 a3]
  unfold mark
  rw [if_neg (fun e => by rw [e, hJ] at a3; cases a3)]
end
end Go.Proofs.YtnpgkiidpeaapaaDoor
