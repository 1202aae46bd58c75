/- The marks, on pages. -/
import Derived.Test.YtnpgkiidpeaapaaDoorKf
import Derived.Laws.ShiftsVar
import Derived.Laws.BitsAllLaws
namespace Go.Proofs.YtnpgkiidpeaapaaDoor
open Go.RowKit

theorem sc_set (f : Nat → Value) (j : Nat) (u : Value) : ∀ n, j < n → (sc f n).set j u = sc (up f j u) n
  | 0, h => by omega
  | n + 1, h => by
    rw [sc_succ, sc_succ]
    by_cases hj : j < n
    · rw [List.set_append_left _ _ (by rw [sc_len]; omega), sc_set f j u n hj]
      congr 1
      rw [up_other _ _ _ _ (by omega)]
    · obtain rfl : j = n := by omega
      rw [List.set_append_right _ _ (by rw [sc_len]; omega), sc_len, Nat.sub_self, up_same]
      congr 1
      exact sc_congr _ _ _ fun i hi => (up_other _ _ _ _ (by omega)).symm
theorem made_sc (z : Value) (n : Nat) : (madeCells #[z] (n * 1)).toList = sc (fun _ => z) n := by
  apply List.ext_getElem?
  intro j
  by_cases hj : j < n
  · rw [sc_get _ _ _ hj]
    simp [madeCells, hj, Nat.mod_one]
  · rw [List.getElem?_eq_none (by simp [madeCells]; omega), List.getElem?_eq_none (by rw [sc_len]; omega)]
theorem infP : (Tryd.prog.info? 100).map (fun i => (i.zero, i.size, i.bytes)) = some (some (.slice none 0 0), 1, 24) := by kernel_rfl
theorem infW : (Tryd.prog.info? 82).map (fun i => (i.zero, i.size, i.bytes)) = some (some (.int .u64 0), 1, 8) := by kernel_rfl
theorem make_p (w : World) (S k : Nat) (hS : S ≤ w.heap.size) (hk : k * 24 ≤ 281474976710656) : ∃ w', (Instr.makeSlice 68 (.int .i64 (k : Int)) (.int .i64 (k : Int))).run Tryd.prog w = .ok (.slice (some ⟨w.heap.size, 0, none⟩) k k) w' ∧ w'.ownsRow S 100 1 (.slice (some ⟨w.heap.size, 0, none⟩) k k) k (sc (fun _ => .slice none 0 0) k) ∧ Below w.heap.size w w' := by
  obtain ⟨i0, hi, hz0, hz1, hz2⟩ := info_parts infP
  obtain ⟨w1, r, o, g⟩ := run_make_full (P := Tryd.prog) w S 68 100 i0 (.slice none 0 0) 1 Tryd.underlying68 hi hz0 hz1 .i64 .i64 k (by rw [hz2]; omega) (by unfold maxLen; omega) hS
  refine ⟨w1, r, ?_, (Below.refl _ w).grown g (Nat.le_refl _) (fun k hk => by cases hk)⟩
  rw [← made_sc]
  exact o
theorem make_w (w : World) (S k : Nat) (hS : S ≤ w.heap.size) (hk : k * 8 ≤ 281474976710656) : ∃ w', (Instr.makeSlice 100 (.int .i64 (k : Int)) (.int .i64 (k : Int))).run Tryd.prog w = .ok (.slice (some ⟨w.heap.size, 0, none⟩) k k) w' ∧ w'.ownsRow S 82 1 (.slice (some ⟨w.heap.size, 0, none⟩) k k) k (sc (fun _ => .int .u64 0) k) ∧ Below w.heap.size w w' := by
  obtain ⟨i0, hi, hz0, hz1, hz2⟩ := info_parts infW
  obtain ⟨w1, r, o, g⟩ := run_make_full (P := Tryd.prog) w S 100 82 i0 (.int .u64 0) 1 Tryd.underlying100 hi hz0 hz1 .i64 .i64 k (by rw [hz2]; omega) (by unfold maxLen; omega) hS
  refine ⟨w1, r, ?_, (Below.refl _ w).grown g (Nat.le_refl _) (fun k hk => by cases hk)⟩
  rw [← made_sc]
  exact o
/-- The words of a page. -/
def wc (wd : Nat → Nat → Nat) (k : Nat) : Nat → Value := fun j => .int .u64 ((wd k j : Nat) : Int)
/-- The blocks that the marks stand in. -/
def ml (pv : Value) (ps : Nat → Value) (np : Nat) : Nat → Option Nat
  | 0 => pv.ownBlock
  | k + 1 => if k < np then (ps k).ownBlock else none
structure Mk (w : World) (S b : Nat) (L : Nat → Prop) (size : Nat) (wd : Nat → Nat → Nat) (np nw : Nat) (pv : Value) (ps : Nat → Value) : Prop where
  enp : np = size / 65536 + 1
  enw : nw = min 1024 (size / 64 + 1)
  hsz : size ≤ 281474976710656
  c3 : w.cell? ⟨b, 3, none⟩ = some (.int .i64 (size : Int))
  c4 : w.cell? ⟨b, 4, none⟩ = some pv
  z4 : w.frozen? ⟨b, 4, none⟩ = false
  pages : w.ownsRow S 100 1 pv np (sc ps np) ∨ pv = .slice none 0 0 ∧ ∀ k, ps k = .slice none 0 0
  each : ∀ k, k < np → ps k = .slice none 0 0 ∧ (∀ j, wd k j = 0) ∨ ∃ g c, ps k = .slice (some ⟨g, 0, none⟩) nw c ∧ w.ownsRow S 82 1 (ps k) nw (sc (wc wd k) nw)
  small : ∀ k j, wd k j < 18446744073709551616
  apart : Ap (ml pv ps np)
  inL : ∀ i k, ml pv ps np i = some k → L k ∧ k ≠ b
  lt : ∀ k, L k → k < w.heap.size
/-- But for the pages the search's block is as it was. -/
def FldM (b : Nat) (w w' : World) : Prop := ∀ j u, j ≠ 4 → w.cell? ⟨b, j, none⟩ = some u → w.frozen? ⟨b, j, none⟩ = false → w'.cell? ⟨b, j, none⟩ = some u ∧ w'.frozen? ⟨b, j, none⟩ = false
theorem FldM.kp {b : Nat} {M : Nat → Prop} {w w' : World} (k : Kp M w w') (h : ¬ M b) : FldM b w w' := fun _ _ _ hc hf => ⟨k.cell hc h, k.frozen hc hf h⟩
theorem FldM.trans {b : Nat} {a c d : World} (h : FldM b a c) (k : FldM b c d) : FldM b a d := fun j u hj hc hf => k j u hj (h j u hj hc hf).1 (h j u hj hc hf).2
theorem FldM.set {b : Nat} {w : World} (v : Value) : FldM b w (w.setCell ⟨b, 4, none⟩ v) := fun j u hj hc hf => ⟨by rw [World.cell?_setCell_other _ _ _ _ (fun e => by have e2 := congrArg Addr.off e; have e3 : 4 = j := e2; omega)]; exact hc, by rw [World.frozen?_setCell]; exact hf⟩
section
variable {w w' : World} {S b : Nat} {L : Nat → Prop} {size : Nat} {wd : Nat → Nat → Nat} {np nw : Nat} {pv : Value} {ps : Nat → Value}
theorem Mk.kp {M : Nat → Prop} (h : Mk w S b L size wd np nw pv ps) (k : Kp M w w') (h1 : ¬ M b) (h2 : ∀ i, L i → ¬ M i) : Mk w' S b L size wd np nw pv ps := by
  have hb : ∀ i k, ml pv ps np i = some k → ¬ M k := fun i k e => h2 k (h.inL i k e).1
  refine ⟨h.enp, h.enw, h.hsz, k.cell h.c3 h1, k.cell h.c4 h1, k.frozen h.c4 h.z4 h1, ?_, fun i hi => ?_, h.small, h.apart, h.inL, fun i hi => Nat.lt_of_lt_of_le (h.lt i hi) k.size⟩
  · rcases h.pages with o | o
    · exact .inl (k.row o (fun i e => hb 0 i e))
    · exact .inr o
  · rcases h.each i hi with o | ⟨g, c, e, o⟩
    · exact .inl o
    · exact .inr ⟨g, c, e, k.row o (fun j e => hb (i + 1) j (by show (if i < np then _ else _) = _; rw [if_pos hi]; exact e))⟩
theorem Mk.below (h : Mk w S b L size wd np nw pv ps) (k : Below w.heap.size w w') : Mk w' S b L size wd np nw pv ps := h.kp (Kp.of (M := fun _ => False) k) id (fun _ _ => id)
theorem Mk.blt (h : Mk w S b L size wd np nw pv ps) : b < w.heap.size := World.block_lt_of_cell? w _ h.c3
/-- The list of pages is made. -/
theorem Mk.opens (h : Mk w S b L size wd np nw (.slice none 0 0) ps) (hp : ∀ k, ps k = .slice none 0 0) (hS : S ≤ w.heap.size) :
    ∃ w1, (Instr.makeSlice 68 (.int .i64 (np : Int)) (.int .i64 (np : Int))).run Tryd.prog w = .ok (.slice (some ⟨w.heap.size, 0, none⟩) np np) w1 ∧
      Mk (w1.setCell ⟨b, 4, none⟩ (.slice (some ⟨w.heap.size, 0, none⟩) np np)) S b (more L w w1) size wd np nw (.slice (some ⟨w.heap.size, 0, none⟩) np np) ps ∧
      Kp (fun k => k = b ∨ L k) w (w1.setCell ⟨b, 4, none⟩ (.slice (some ⟨w.heap.size, 0, none⟩) np np)) ∧ FldM b w (w1.setCell ⟨b, 4, none⟩ (.slice (some ⟨w.heap.size, 0, none⟩) np np)) ∧ w1.cell? ⟨b, 4, none⟩ = some (.slice none 0 0) ∧ w1.frozen? ⟨b, 4, none⟩ = false ∧ w.heap.size < w1.heap.size := by
  have hnp := h.enp
  have hsz := h.hsz
  obtain ⟨w1, r, o, bl1⟩ := make_p w S np hS (by omega)
  have k1 : Kp (fun _ => False) w w1 := Kp.of bl1
  have q4 := k1.cell h.c4 id
  have f4 := k1.frozen h.c4 h.z4 id
  have hlt := (row_lt o w.heap.size rfl).2
  obtain ⟨G, hG⟩ : ∃ G, G = w.heap.size := ⟨_, rfl⟩
  have hbG : b ≠ G := by have := h.blt; omega
  refine ⟨w1, r, ?_⟩
  rw [← hG] at o ⊢
  have kk : Kp (· = b) w1 (w1.setCell ⟨b, 4, none⟩ (.slice (some ⟨G, 0, none⟩) np np)) := (Kp.refl (· = b) w1).setCell (p := ⟨b, 4, none⟩) rfl _
  have hps : (fun _ => Value.slice none 0 0) = ps := funext fun k => (hp k).symm
  have none3 : ∀ i k, ml (.slice (some ⟨G, 0, none⟩) np np) ps np i = some k → i = 0 ∧ k = G := fun i k e => by
    match i with
    | 0 => exact ⟨rfl, (Option.some.inj e).symm⟩
    | j + 1 =>
      have e' : (if j < np then (ps j).ownBlock else none) = some k := e
      rw [hp j] at e'
      split at e' <;> cases e'
  refine ⟨⟨h.enp, h.enw, h.hsz, ?_, ?_, ?_, .inl ?_, fun k hk => ?_, h.small, ?_, ?_, ?_⟩, ?_, ?_, q4, f4, by omega⟩
  · rw [World.cell?_setCell_other _ _ _ _ (by simp)]; exact k1.cell h.c3 id
  · exact World.cell?_setCell_same' _ _ _ (by rw [q4]; rfl)
  · rw [World.frozen?_setCell]; exact f4
  · rw [hps] at o
    exact kk.row o (fun k e (x : k = b) => by have : G = k := Option.some.inj e; omega)
  · rcases h.each k hk with o | ⟨g, c, e, _⟩
    · exact .inl o
    · rw [hp k] at e; cases e
  · intro i j k hi hj
    rw [(none3 i k hi).1, (none3 j k hj).1]
  · intro i k e
    obtain ⟨_, rfl⟩ := none3 i k e
    exact ⟨.inr ⟨by omega, by omega⟩, hbG.symm⟩
  · intro k hk
    have e : (w1.setCell ⟨b, 4, none⟩ (.slice (some ⟨G, 0, none⟩) np np)).heap.size = w1.heap.size := by simp [World.setCell]
    rw [e]
    rcases hk with hk | hk
    · exact Nat.lt_of_lt_of_le (h.lt k hk) k1.size
    · exact hk.2
  · exact (k1.mono (fun _ _ e => e.elim)).trans (kk.mono (fun _ _ e => .inl e))
  · exact (FldM.kp k1 id).trans (FldM.set _)
/-- A page is made. -/
theorem Mk.paged {pg cp : Nat} (h : Mk w S b L size wd np nw (.slice (some ⟨pg, 0, none⟩) np cp) ps) (k : Nat) (hk : k < np) (hn : ps k = .slice none 0 0) (hS : S ≤ w.heap.size) :
    ∃ w1, (Instr.makeSlice 100 (.int .i64 (nw : Int)) (.int .i64 (nw : Int))).run Tryd.prog w = .ok (.slice (some ⟨w.heap.size, 0, none⟩) nw nw) w1 ∧
      Mk (w1.setCell ⟨pg, k, none⟩ (.slice (some ⟨w.heap.size, 0, none⟩) nw nw)) S b (more L w w1) size wd np nw (.slice (some ⟨pg, 0, none⟩) np cp) (up ps k (.slice (some ⟨w.heap.size, 0, none⟩) nw nw)) ∧
      Kp (fun i => i = b ∨ L i) w (w1.setCell ⟨pg, k, none⟩ (.slice (some ⟨w.heap.size, 0, none⟩) nw nw)) ∧ FldM b w (w1.setCell ⟨pg, k, none⟩ (.slice (some ⟨w.heap.size, 0, none⟩) nw nw)) ∧ w1.cell? ⟨pg, k, none⟩ = some (.slice none 0 0) ∧ w1.frozen? ⟨pg, k, none⟩ = false ∧ w1.cell? ⟨b, 4, none⟩ = some (.slice (some ⟨pg, 0, none⟩) np cp) ∧ w.heap.size < w1.heap.size := by
  have hnw := h.enw
  obtain ⟨w1, r, o, bl1⟩ := make_w w S nw hS (by omega)
  have k1 : Kp (fun _ => False) w w1 := Kp.of bl1
  have op : w.ownsRow S 100 1 (.slice (some ⟨pg, 0, none⟩) np cp) np (sc ps np) := by
    rcases h.pages with o | ⟨e, _⟩
    · exact o
    · cases e
  have hLp := h.inL 0 pg rfl
  have hpl := (row_lt op pg rfl).2
  have cpk : w.cell? ⟨pg, k, none⟩ = some (.slice none 0 0) := by
    have := World.ownsRow.cellAt op k (by omega)
    rw [sc_get ps np k hk, hn] at this
    exact this
  have op1 := k1.row op (fun _ _ => id)
  have hlt := (row_lt o w.heap.size rfl).2
  obtain ⟨G, hG⟩ : ∃ G, G = w.heap.size := ⟨_, rfl⟩
  have hbG : b ≠ G := by have := h.blt; omega
  refine ⟨w1, r, ?_⟩
  rw [← hG] at o ⊢
  obtain ⟨nv, hnv⟩ : ∃ nv, nv = Value.slice (some ⟨G, 0, none⟩) nw nw := ⟨_, rfl⟩
  have hnb : nv.ownBlock = some G := by rw [hnv]; rfl
  have kk : Kp (· = pg) w1 (w1.setCell ⟨pg, k, none⟩ nv) := (Kp.refl (· = pg) w1).setCell (p := ⟨pg, k, none⟩) rfl _
  have l1 : ∀ j, j < np → ml (.slice (some ⟨pg, 0, none⟩) np cp) ps np (j + 1) = (ps j).ownBlock := fun j hj => by
    show (if j < np then _ else _) = _
    rw [if_pos hj]
  have oth : ∀ i q, ml (.slice (some ⟨pg, 0, none⟩) np cp) (up ps k nv) np i = some q → (i = k + 1 ∧ q = G) ∨ (i ≠ k + 1 ∧ ml (.slice (some ⟨pg, 0, none⟩) np cp) ps np i = some q) := fun i q e => by
    match i with
    | 0 => exact .inr ⟨by omega, e⟩
    | j + 1 =>
      have e' : (if j < np then (up ps k nv j).ownBlock else none) = some q := e
      by_cases hj : j = k
      · subst hj
        rw [if_pos hk, up_same, hnb] at e'
        exact .inl ⟨rfl, (Option.some.inj e').symm⟩
      · rw [up_other _ _ _ _ hj] at e'
        exact .inr ⟨by omega, e'⟩
  rw [← hnv] at o ⊢
  have e7 : (w1.setCell ⟨pg, k, none⟩ nv).heap.size = w1.heap.size := by simp [World.setCell]
  refine ⟨⟨h.enp, h.enw, h.hsz, ?_, ?_, ?_, .inl ?_, fun j hj => ?_, h.small, ?_, ?_, ?_⟩, ?_, ?_, k1.cell cpk id, ?_, k1.cell h.c4 id, by omega⟩
  · exact kk.cell (k1.cell h.c3 id) (fun e => hLp.2 e.symm)
  · exact kk.cell (k1.cell h.c4 id) (fun e => hLp.2 e.symm)
  · exact kk.frozen (k1.cell h.c4 id) (k1.frozen h.c4 h.z4 id) (fun e => hLp.2 e.symm)
  · have := (World.ownsRow.stored op1 k nv).1
    rw [sc_set ps k nv np hk] at this
    exact this
  · by_cases e : j = k
    · subst e
      rw [up_same]
      refine .inr ⟨G, nw, hnv, ?_⟩
      have hz : ∀ i, wd j i = 0 := by
        rcases h.each j hj with o | ⟨g, c, e, _⟩
        · exact o.2
        · rw [hn] at e; cases e
      have ez : sc (fun _ => Value.int .u64 0) nw = sc (wc wd j) nw := sc_congr _ _ _ fun i _ => by unfold wc; rw [hz i]; rfl
      rw [ez] at o
      exact kk.row o (fun q e (x : q = pg) => by rw [hnb] at e; have : G = q := Option.some.inj e; omega)
    · rw [up_other _ _ _ _ e]
      rcases h.each j hj with o | ⟨g, c, e', o⟩
      · exact .inl o
      · refine .inr ⟨g, c, e', kk.row (k1.row o (fun _ _ => id)) (fun q e2 (x : q = pg) => ?_)⟩
        have e3 := h.apart (j + 1) 0 q (by rw [l1 j hj]; exact e2) (by rw [x]; rfl)
        omega
  · intro i j q hi hj
    rcases oth i q hi with ⟨i1, q1⟩ | ⟨i1, e1⟩ <;> rcases oth j q hj with ⟨j1, q2⟩ | ⟨j1, e2⟩
    · omega
    · have := h.lt q (h.inL j q e2).1; omega
    · have := h.lt q (h.inL i q e1).1; omega
    · exact h.apart i j q e1 e2
  · intro i q e
    rcases oth i q e with ⟨_, q1⟩ | ⟨_, e1⟩
    · subst q1
      exact ⟨.inr ⟨by omega, by omega⟩, hbG.symm⟩
    · have := h.inL i q e1
      exact ⟨.inl this.1, this.2⟩
  · intro q hq
    rw [e7]
    rcases hq with hq | hq
    · exact Nat.lt_of_lt_of_le (h.lt q hq) k1.size
    · exact hq.2
  · exact (k1.mono (fun _ _ e => e.elim)).trans (kk.mono (fun i _ (e : i = pg) => .inr (by rw [e]; exact hLp.1)))
  · exact (FldM.kp k1 id).trans (FldM.kp kk (fun e => hLp.2 e.symm))
  · exact World.ownsRow.frozenAt op1 k
end
end Go.Proofs.YtnpgkiidpeaapaaDoor
