/- A bundle of texts. -/
import Derived.Test.YtbciclnffokjjaaDoorBb05
import Derived.WalkLawsBesides
import Derived.Deep.Cut
/- Trees: group. -/
namespace Go.Proofs.YtbciclnffokjjaaDoor
open Go.RowKit

/-- The blocks that a survey writes to. -/
def Mv (B : Nat) (v : Value) (k : Nat) : Prop := k = B ∨ v.ownBlock = some k
/-- A row that was there, or a new one. -/
def Sub (w : World) (v v' : Value) : Prop := ∀ k, v'.ownBlock = some k → k < w.heap.size → v.ownBlock = some k
theorem Sub.refl (w : World) (v : Value) : Sub w v v := fun _ h _ => h
theorem Sub.trans {w w' : World} {v v1 v2 : Value} (h : Sub w v v1) (k : Sub w' v1 v2) (hs : w.heap.size ≤ w'.heap.size) : Sub w v v2 := fun i hi hl => h i (k i hi (by omega)) hl
theorem Sv.base {S : Nat} {w : World} {B : Nat} {v : Value} {s : St} (h : Sv S w B v s) : ∀ k, Mv B v k → S ≤ k ∧ k < w.heap.size := by
  intro k hk
  rcases hk with rfl | hk
  · exact ⟨h.SB, h.lt⟩
  · rcases h.row.2 with ⟨e', _⟩ | ⟨G, _, _, e', hG, hh, _⟩
    · rw [e'] at hk; cases hk
    · rw [e'] at hk
      have : G = k := Option.some.inj hk
      subst this
      exact ⟨hG, (Array.getElem?_eq_some_iff.1 hh).1⟩
theorem Sv.low {S : Nat} {w w' : World} {B : Nat} {v : Value} {s : St} (h : Sv S w B v s) (hS : S ≤ w.heap.size) (k : Kp (Mv B v) w w') : Below S w w' := k.below hS (fun i hi e => by have := (h.base i e).1; omega)
theorem Kp.next {w w1 w2 : World} {B : Nat} {v v1 : Value} (h : Kp (Mv B v) w w1) (hs : Sub w v v1) (k : Kp (Mv B v1) w1 w2) : Kp (Mv B v) w w2 := h.trans' k (fun i hi e => e.imp id (fun e => hs i e hi))
abbrev pan (e : Ending) : Prop := e = .panicked [{ v := .iface 32 (.int .i64 2), recovered := false }]

theorem ndX_cells {w W : World} (d : Nd) (h : Below (w.alloc (ndX d)).heap.size (w.alloc (ndX d)) W) : Cs W w.heap.size 0 d := by
  have e : (w.alloc (ndX d)).heap[w.heap.size]? = some (ndX d) := heap_alloc_new w _
  refine ⟨bcell2 h ?_, bcell2 h ?_, bcell2 h ?_, bcell2 h ?_, bcell2 h ?_, bcell2 h ?_, bcell2 h ?_, bcell2 h ?_, bcell2 h ?_⟩
  all_goals
    unfold World.cell?
    rw [e]
    rfl

set_option maxHeartbeats 2000000 in
set_option maxRecDepth 100000 in
theorem group_no (S B : Nat) (v : Value) (d : Nd) (s : St) (w : World) (hv : Sv S w B v s) (hn : s.n ≤ 100) (hg : grp d s = none) :
    Calls Tryd.prog 51 #[.pointer (some ⟨B, 0, none⟩), ndV d] w fun e w' => pan e ∧ Kp (Mv B v) w w' := by
  obtain ⟨a, c, rfl, hm⟩ := hv.form
  have hb : Below w.heap.size w (w.alloc (ndX d)) := (Below.refl _ w).alloc (Nat.le_refl _) _
  have HB : Hid (∀ n M, Kp M w ((w.alloc (ndX d)).drewN n)) := fun n _ => Kp.of (Below.drewN hb n)
  have c1 := (hv.below hb).c1
  have hc := ndX_cells (w := w) d (Below.refl _ _)
  have e6 := hc.c6
  have e7 := hc.c7
  have kC := fun q x => contains_any a s.n c s.f d.nm ((w.alloc (ndX d)).drewN q) (hm.below (Below.drewN hb q)) x
  obtain ⟨kind, r, ra, rn, rc, rf, mn, mx, lz, cp, nm, ka, kn, kc⟩ := d
  obtain ⟨k, n, f, l⟩ := s
  dsimp only at *
  unfold grp at hg
  dsimp only at hg
  split at hg
  rotate_left
  · cases hg
  rename_i hh
  clear hg hv hm hc hb
  simp only [Nat.zero_add] at e6 e7
  have hwr : IntKind.i64.wrap ((n : Int) + 1) = (n : Int) + 1 := by rw [IntKind.wrap_i64]; omega
  by_cases h1 : n = 100
  · have t1 : ((n : Int) == 100) = true := by simp; omega
    have H1 : Hid (n = 100) := h1
    clear h1 hh
    go_enter Tryd.func51, Tryd.ntmps51
    go_wp2_with fail
    go_quiet (fail)
    go_wp2
    exact ⟨rfl, rfl, HB.out _ _⟩
  · have t1 : ((n : Int) == 100) = false := by simp; omega
    by_cases h2 : cp = (n : Int) + 1
    · have t2 : (cp != (n : Int) + 1) = false := by simpa using h2
      have h3 : nm.toList.isEmpty = false ∧ hasB f nm n = true := by
        rcases hh with h | h | h
        · exact absurd h h1
        · exact absurd h2 h
        · exact h
      obtain ⟨h3, h4⟩ := h3
      have kC := fun q => kC q (by omega)
      simp only [h4] at kC
      have H2 : Hid (cp = (n : Int) + 1) := h2
      clear h1 hh h2 h4
      go_enter Tryd.func51, Tryd.ntmps51
      go_wp2_with fail
      go_quiet ((go_at_call 69; exact Calls.quiet_of_same (kC _)))
      go_wp2
      exact ⟨rfl, rfl, HB.out _ _⟩
    · have t2 : (cp != (n : Int) + 1) = true := by simpa using h2
      clear h1 hh h2
      go_enter Tryd.func51, Tryd.ntmps51
      go_wp2_with fail
      go_quiet (fail)
      go_wp2
      exact ⟨rfl, rfl, HB.out _ _⟩

theorem Sv.push {S : Nat} {w w1 : World} {B g c : Nat} {v : Value} {s : St} {x : ByteArray} (h : Sv S w B v s) (o : w1.ownsRow S 9 1 (.slice (some ⟨g, 0, none⟩) (s.n + 1) c) (s.n + 1) (sc (up s.f s.n x) (s.n + 1))) (k : Kp (fun k => v.ownBlock = some k) w w1) (hg : v.ownBlock = some g ∨ w.heap.size ≤ g) :
    Sv S (w1.setCell ⟨B, 1, none⟩ (.slice (some ⟨g, 0, none⟩) (s.n + 1) c)) B (.slice (some ⟨g, 0, none⟩) (s.n + 1) c) { s with n := s.n + 1, f := up s.f s.n x } ∧ Sub w v (.slice (some ⟨g, 0, none⟩) (s.n + 1) c) ∧ Kp (Mv B v) w (w1.setCell ⟨B, 1, none⟩ (.slice (some ⟨g, 0, none⟩) (s.n + 1) c)) := by
  have hgb : g ≠ B := fun e => by
    rcases hg with hg | hg
    · exact h.gb (by rw [hg, e])
    · have := h.lt; omega
  have q0 := k.cell h.c0 (fun e => h.gb e)
  have q1 := k.cell h.c1 (fun e => h.gb e)
  have q2 := k.cell h.c2 (fun e => h.gb e)
  have kk : Kp (· = B) w1 (w1.setCell ⟨B, 1, none⟩ (.slice (some ⟨g, 0, none⟩) (s.n + 1) c)) := (Kp.refl (· = B) w1).setCell (p := ⟨B, 1, none⟩) rfl _
  refine ⟨⟨?_, ?_, ?_, ?_, kk.row o (fun k e => by cases e; exact fun e => hgb e), fun e => hgb (Option.some.inj e), h.SB⟩, ?_, ?_⟩
  · rw [World.cell?_setCell_other _ _ _ _ (by simp)]; exact q0
  · exact World.cell?_setCell_same' _ _ _ (by rw [q1]; rfl)
  · rw [World.cell?_setCell_other _ _ _ _ (by simp)]; exact q2
  · intro o
    rw [World.frozen?_setCell, World.frozen?_of_block (w := w) (k.block B h.lt (fun e => h.gb e))]
    exact h.fz o
  · intro i e hi
    have e' : g = i := Option.some.inj e
    subst e'
    rcases hg with hg | hg
    · exact hg
    · omega
  · exact (k.mono (fun i _ e => .inr e)).setCell (p := ⟨B, 1, none⟩) (.inl rfl) _

set_option maxHeartbeats 2000000 in
set_option maxRecDepth 100000 in
theorem group_yes (S B : Nat) (v : Value) (d : Nd) (s s1 : St) (w : World) (hv : Sv S w B v s) (hn : s.n ≤ 100) (hS : S ≤ w.heap.size) (hg : grp d s = some s1) :
    Calls Tryd.prog 51 #[.pointer (some ⟨B, 0, none⟩), ndV d] w fun e w' => e = .returned (.tuple #[]) ∧ (∃ v', Sv S w' B v' s1 ∧ Sub w v v') ∧ Kp (Mv B v) w w' := by
  obtain ⟨a, c, rfl, hm⟩ := hv.form
  have hb : Below w.heap.size w (w.alloc (ndX d)) := (Below.refl _ w).alloc (Nat.le_refl _) _
  have HB : Hid (∀ n, Below w.heap.size w ((w.alloc (ndX d)).drewN n)) := fun n => Below.drewN hb n
  have c1 := (hv.below hb).c1
  have hc := ndX_cells (w := w) d (Below.refl _ _)
  have e6 := hc.c6
  have e7 := hc.c7
  have kC := fun q x => contains_any a s.n c s.f d.nm ((w.alloc (ndX d)).drewN q) (hm.below (Below.drewN hb q)) x
  have HV : Hid (Sv S w B (.slice a s.n c) s) := hv
  have HC : Hid (∀ q, Cs ((w.alloc (ndX d)).drewN q) w.heap.size 0 d) := fun q => ndX_cells d (Below.drewN (Below.refl _ _) q)
  obtain ⟨kind, r, ra, rn, rc, rf, mn, mx, lz, cp, nm, ka, kn, kc⟩ := d
  obtain ⟨k, n, f, l⟩ := s
  dsimp only at *
  unfold grp at hg
  dsimp only at hg
  split at hg
  · cases hg
  rename_i hh
  have HG : Hid (s1 = { k := k, n := n + 1, f := up f n nm, l := l }) := (Option.some.inj hg).symm
  clear hg hv hm hc hb
  simp only [Nat.zero_add] at e6 e7
  have hwr : IntKind.i64.wrap ((n : Int) + 1) = (n : Int) + 1 := by rw [IntKind.wrap_i64]; omega
  have t1 : ((n : Int) == 100) = false := by simp; omega
  have h2 : cp = (n : Int) + 1 := by omega
  have t2 : (cp != (n : Int) + 1) = false := by simpa using h2
  have H2 : Hid (cp = (n : Int) + 1) := h2
  cases h3 : nm.toList.isEmpty
  · have h4 : hasB f nm n = false := by
      cases h : hasB f nm n with
      | false => rfl
      | true => exact absurd (.inr (.inr ⟨h3, h⟩)) hh
    have kC := fun q => kC q (by omega)
    simp only [h4] at kC
    clear hh h2 h4
    go_enter Tryd.func51, Tryd.ntmps51
    go_wp2_with fail
    go_quiet ((go_at_call 69; exact Calls.quiet_of_same (kC _)))
    go_wp2_with fail
    obtain ⟨W1, hW1⟩ : ∃ W1, W1 = (w.alloc (ndX ⟨kind, r, ra, rn, rc, rf, mn, mx, lz, cp, nm, ka, kn, kc⟩)).drewN nq := ⟨_, rfl⟩
    have hb1 := HB.out nq
    have hc1 := HC.out nq
    rw [← hW1] at hb1 hc1
    rw [← hW1]
    have hv1 := HV.out.below hb1
    have hsz : S ≤ W1.heap.size := Nat.le_trans hS hb1.size
    obtain ⟨g, cc, w2, r2, o2, k2, hg2⟩ := append_t W1.drew S _ n f nm hsz (by omega) (hv1.below (Below.refl _ W1).drew).row
    have HP : Hid _ := Sv.push (hv1.below (Below.refl _ W1).drew) o2 k2 hg2
    have HBW : Hid (∀ M, Kp M w W1.drew) := fun _ => Kp.of hb1.drew
    have HZ : Hid (w.heap.size ≤ W1.heap.size) := hb1.size
    have c1' := hv1.c1
    have f1' := k2.frozen (p := ⟨B, 1, none⟩) (hv1.below (Below.refl _ W1).drew).c1 ((hv1.below (Below.refl _ W1).drew).fz 1) (fun e => hv1.gb e)
    have c1'' := k2.cell (p := ⟨B, 1, none⟩) (hv1.below (Below.refl _ W1).drew).c1 (fun e => hv1.gb e)
    have c2' : (W1.alloc (.cells #[.string nm] 9)).cell? ⟨B, 1, none⟩ = some (.slice a n c) := (hv1.below ((Below.refl _ W1).alloc (Nat.le_refl _) _)).c1
    have e7' := hc1.c7
    simp only [Nat.zero_add] at e7'
    have r' : (Builtin.append_ #[29, 29] 29 #[.slice a n c, .slice (some ⟨W1.heap.size, 0, none⟩) 1 1]).run Tryd.prog (W1.alloc (.cells #[.string nm] 9)).drew = .ok (.slice (some ⟨g, 0, none⟩) (n + 1) cc) w2 := r2
    clear e6 e7 c1 kC hb1 hc1 hv1 hW1 r2 o2 k2 hg2
    go_region_law (refine step_append_run rfl (.tmp 40) (.tmp 43) 29 29 rfl _ _ rfl rfl r' ?_)
    all_goals go_wp2
    all_goals go_end0
    all_goals exact ⟨rfl, ⟨_, by rw [HG.out]; exact HP.out.1, fun i e hi => HP.out.2.1 i e (Nat.lt_of_lt_of_le hi HZ.out)⟩, (HBW.out _).trans HP.out.2.2⟩
  · clear hh h2
    go_enter Tryd.func51, Tryd.ntmps51
    go_wp2_with fail
    go_quiet (fail)
    go_wp2_with fail
    obtain ⟨W1, hW1⟩ : ∃ W1, W1 = (w.alloc (ndX ⟨kind, r, ra, rn, rc, rf, mn, mx, lz, cp, nm, ka, kn, kc⟩)).drewN nq := ⟨_, rfl⟩
    have hb1 := HB.out nq
    have hc1 := HC.out nq
    rw [← hW1] at hb1 hc1
    rw [← hW1]
    have hv1 := HV.out.below hb1
    have hsz : S ≤ W1.heap.size := Nat.le_trans hS hb1.size
    obtain ⟨g, cc, w2, r2, o2, k2, hg2⟩ := append_t W1.drew S _ n f nm hsz (by omega) (hv1.below (Below.refl _ W1).drew).row
    have HP : Hid _ := Sv.push (hv1.below (Below.refl _ W1).drew) o2 k2 hg2
    have HBW : Hid (∀ M, Kp M w W1.drew) := fun _ => Kp.of hb1.drew
    have HZ : Hid (w.heap.size ≤ W1.heap.size) := hb1.size
    have c1' := hv1.c1
    have f1' := k2.frozen (p := ⟨B, 1, none⟩) (hv1.below (Below.refl _ W1).drew).c1 ((hv1.below (Below.refl _ W1).drew).fz 1) (fun e => hv1.gb e)
    have c1'' := k2.cell (p := ⟨B, 1, none⟩) (hv1.below (Below.refl _ W1).drew).c1 (fun e => hv1.gb e)
    have c2' : (W1.alloc (.cells #[.string nm] 9)).cell? ⟨B, 1, none⟩ = some (.slice a n c) := (hv1.below ((Below.refl _ W1).alloc (Nat.le_refl _) _)).c1
    have e7' := hc1.c7
    simp only [Nat.zero_add] at e7'
    have r' : (Builtin.append_ #[29, 29] 29 #[.slice a n c, .slice (some ⟨W1.heap.size, 0, none⟩) 1 1]).run Tryd.prog (W1.alloc (.cells #[.string nm] 9)).drew = .ok (.slice (some ⟨g, 0, none⟩) (n + 1) cc) w2 := r2
    clear e6 e7 c1 kC hb1 hc1 hv1 hW1 r2 o2 k2 hg2
    go_region_law (refine step_append_run rfl (.tmp 40) (.tmp 43) 29 29 rfl _ _ rfl rfl r' ?_)
    all_goals go_wp2
    all_goals go_end0
    all_goals exact ⟨rfl, ⟨_, by rw [HG.out]; exact HP.out.1, fun i e hi => HP.out.2.1 i e (Nat.lt_of_lt_of_le hi HZ.out)⟩, (HBW.out _).trans HP.out.2.2⟩
end Go.Proofs.YtbciclnffokjjaaDoor
/- Trees: node, where it gives up at once. -/
namespace Go.Proofs.YtbciclnffokjjaaDoor
open Go.RowKit

theorem Cs.kp {w w' : World} {g o : Nat} {d : Nd} {M : Nat → Prop} (h : Cs w g o d) (k : Kp M w w') (hg : ¬ M g) : Cs w' g o d :=
  ⟨k.cell h.c0 hg, k.cell h.c1 hg, k.cell h.c2 hg, k.cell h.c3 hg, k.cell h.c4 hg, k.cell h.c5 hg, k.cell h.c6 hg, k.cell h.c7 hg, k.cell h.c8 hg⟩
/-- How a survey's call ends. -/
def Np (S B : Nat) (v : Value) (o : Option St) (w : World) (e : Ending) (w' : World) : Prop :=
  (o = none → pan e) ∧ (∀ s1, o = some s1 → e = .returned (.tuple #[]) ∧ ∃ v', Sv S w' B v' s1 ∧ Sub w v v') ∧ Kp (Mv B v) w w'
theorem Np.no {S B : Nat} {v : Value} {w : World} {e : Ending} {w' : World} (h : pan e) (k : Kp (Mv B v) w w') : Np S B v none w e w' := ⟨fun _ => h, fun _ h => (by cases h), k⟩
theorem Np.yes {S B : Nat} {v : Value} {s1 : St} {w w' : World} (h : ∃ v', Sv S w' B v' s1 ∧ Sub w v v') (k : Kp (Mv B v) w w') : Np S B v (some s1) w (.returned (.tuple #[])) w' := ⟨fun h => (by cases h), fun _ e => (by cases e; exact ⟨rfl, h⟩), k⟩

/-- One node more. -/
theorem Sv.count {S : Nat} {w : World} {B : Nat} {v : Value} {s : St} (h : Sv S w B v s) (k : Nat) : Sv S (w.setCell ⟨B, 0, none⟩ (.int .i64 (k : Int))) B v { s with k := k } := by
  have kk : Kp (· = B) w (w.setCell ⟨B, 0, none⟩ (.int .i64 (k : Int))) := (Kp.refl (· = B) w).setCell (p := ⟨B, 0, none⟩) rfl _
  refine ⟨World.cell?_setCell_same' _ _ _ (by rw [h.c0]; rfl), ?_, ?_, ?_, kk.row h.row (fun i e e' => h.gb (by rw [e, e'])), h.gb, h.SB⟩
  · rw [World.cell?_setCell_other _ _ _ _ (by simp)]; exact h.c1
  · rw [World.cell?_setCell_other _ _ _ _ (by simp)]; exact h.c2
  · intro o
    rw [World.frozen?_setCell]
    exact h.fz o
/-- A line's edge. -/
theorem Sv.line {S : Nat} {w : World} {B : Nat} {v : Value} {s : St} (h : Sv S w B v s) : Sv S (w.setCell ⟨B, 2, none⟩ (.bool true)) B v { s with l := true } := by
  have kk : Kp (· = B) w (w.setCell ⟨B, 2, none⟩ (.bool true)) := (Kp.refl (· = B) w).setCell (p := ⟨B, 2, none⟩) rfl _
  refine ⟨?_, ?_, World.cell?_setCell_same' _ _ _ (by rw [h.c2]; rfl), ?_, kk.row h.row (fun i e e' => h.gb (by rw [e, e'])), h.gb, h.SB⟩
  · rw [World.cell?_setCell_other _ _ _ _ (by simp)]; exact h.c0
  · rw [World.cell?_setCell_other _ _ _ _ (by simp)]; exact h.c1
  · intro o
    rw [World.frozen?_setCell]
    exact h.fz o
abbrev begW (w : World) (B : Nat) (d : Nd) (k : Nat) : World := (w.alloc (ndX d)).setCell ⟨B, 0, none⟩ (.int .i64 ((k : Int) + 1))
theorem node_beg {S : Nat} {w : World} {B : Nat} {v : Value} {s : St} (d : Nd) (h : Sv S w B v s) : Sv S (begW w B d s.k) B v { s with k := s.k + 1 } ∧ Cs (begW w B d s.k) w.heap.size 0 d ∧ Kp (Mv B v) w (begW w B d s.k) ∧ w.heap.size < (begW w B d s.k).heap.size ∧ ¬ Mv B v w.heap.size := by
  have hb : Below w.heap.size w (w.alloc (ndX d)) := (Below.refl _ w).alloc (Nat.le_refl _) _
  have h1 := (h.below hb).count (s.k + 1)
  have hz : ¬ Mv B v w.heap.size := fun e => by have := (h.base _ e).2; omega
  refine ⟨h1, ?_, ((Kp.of hb).setCell (p := ⟨B, 0, none⟩) (.inl rfl) _), by simp [begW, World.setCell], hz⟩
  exact (ndX_cells (w := w) d (Below.refl _ _)).kp (((Kp.refl (Mv B v) _).setCell (p := ⟨B, 0, none⟩) (.inl rfl) _)) hz

set_option maxHeartbeats 2000000 in
set_option maxRecDepth 100000 in
theorem node_no (S B : Nat) (v : Value) (t : Tr) (op : Int) (s : St) (w : World) (hv : Sv S w B v s) (ht : Tat S w t) (hk : s.k ≤ 8194) (hS : S ≤ w.heap.size) (hc : 8194 < s.k + 1 ∨ 250 < op ∨ ndB (t []) = false) :
    Calls Tryd.prog 36 #[.pointer (some ⟨B, 0, none⟩), ndV (t []), .int .i64 op] w fun e w' => pan e ∧ Kp (Mv B v) w w' := by
  obtain ⟨hv2, hc2, hk2, hz2, hg2⟩ := node_beg (t []) hv
  have ht2 := ht.below (hv.low hS hk2)
  have kS := isSound_tree (t []) (begW w B (t []) s.k) ht2.ranges.ml (by have := ht.node; omega)
  have c0 := hv.c0
  have c0' := (hv.below ((Below.refl _ w).alloc (Nat.le_refl _) (ndX (t [])))).c0
  have f0' := (hv.below ((Below.refl _ w).alloc (Nat.le_refl _) (ndX (t [])))).fz 0
  have HW : Hid (∃ W, W = begW w B (t []) s.k) := ⟨_, rfl⟩
  have d0 := hv2.c0
  obtain ⟨e0, e1, e2, e3, e4, e5, e6, e7, e8⟩ := hc2
  have HK : Hid (Kp (Mv B v) w (begW w B (t []) s.k)) := hk2
  obtain ⟨W, hW⟩ := HW.out
  rw [← hW] at e0 e1 e2 e3 e4 e5 e6 e7 e8 kS d0 HK
  have HW' : Hid (W = (w.alloc (ndX (t []))).setCell ⟨B, 0, none⟩ (.int .i64 ((s.k : Int) + 1))) := hW
  simp only [Nat.zero_add] at e0 e1 e2 e3 e4 e5 e6 e7 e8
  obtain ⟨G, hG⟩ : ∃ G, G = w.heap.size := ⟨_, rfl⟩
  have HG : Hid (G = w.heap.size) := hG
  rw [← hG] at e0 e1 e2 e3 e4 e5 e6 e7 e8
  clear hv2 hk2 ht2 hv ht hW hG HW hz2 hg2
  generalize t [] = d at *
  have hki : (s.k : Int) ≤ 8194 := by omega
  push_cast at d0
  clear hk
  generalize s.k = k at *
  by_cases h1 : 8194 < (k : Int) + 1
  · clear hc kS
    go_enter Tryd.func36, Tryd.ntmps36
    go_upto_region 2 with fail
    rw [← HW'.out, ← HG.out]
    go_wp2
    exact ⟨rfl, rfl, HK.out⟩
  · by_cases h2 : 250 < op
    · clear hc kS
      go_enter Tryd.func36, Tryd.ntmps36
      go_upto_region 2 with fail
      rw [← HW'.out, ← HG.out]
      go_wp2
      exact ⟨rfl, rfl, HK.out⟩
    · have h3 : ndB d = false := by
        rcases hc with h | h | h
        · omega
        · exact absurd h h2
        · exact h
      rw [h3] at kS
      clear hc h3
      go_enter Tryd.func36, Tryd.ntmps36
      go_upto_region 2 with fail
      rw [← HW'.out, ← HG.out]
      go_wp2_with fail
      go_fit kS
      rintro e w3 ⟨rfl, b3⟩
      have B3 : Hid _ := b3
      clear b3
      go_wp2
      exact ⟨rfl, rfl, HK.out.trans (Kp.of B3.out)⟩
end Go.Proofs.YtbciclnffokjjaaDoor
/- Trees: node. -/
namespace Go.Proofs.YtbciclnffokjjaaDoor
open Go.RowKit

theorem mid_n {d : Nd} {s s1 : St} (h : mid d s = some s1) (hn : s.n ≤ 100) : s1.n ≤ 100 := by
  unfold mid grp at h
  split at h
  · cases h; exact hn
  · split at h
    · split at h
      · cases h
      · rename_i hh
        cases h
        have : ¬ s.n = 100 := fun e => hh (.inl e)
        dsimp only
        omega
    · cases h; exact hn
theorem vds_all {m : Nat} {t : Tr} {op : Int} {P : St → Prop} (hF : ∀ t' op' s s', vd m t' op' s = some s' → P s → P s') : ∀ {j : Nat} {s s' : St}, vds (vd m) t op j s = some s' → P s → P s'
  | 0, s, s', h, hp => by cases h; exact hp
  | j + 1, s, s', h, hp => by
    unfold vds at h
    cases hj : vds (vd m) t op j s with
    | none => rw [hj] at h; cases h
    | some s4 =>
      rw [hj] at h
      exact hF _ _ _ _ h (vds_all hF hj hp)
theorem vd_n : ∀ (m : Nat) (t : Tr) (op : Int) (s s1 : St), vd m t op s = some s1 → s.n ≤ 100 → s1.n ≤ 100
  | 0, _, _, _, _, h, _ => by cases h
  | m + 1, t, op, s, s1, h, hn => by
    unfold vd at h
    split at h
    · cases h
    · cases hm : mid (t []) { s with k := s.k + 1 } with
      | none => rw [hm] at h; cases h
      | some s2 =>
        rw [hm] at h
        exact vds_all (P := fun s => s.n ≤ 100) (fun t' op' s s' h hp => vd_n m t' op' s s' h hp) h (mid_n hm hn)
theorem vds_k {m : Nat} {t : Tr} {op : Int} {j : Nat} {s s' : St} (h : vds (vd m) t op j s = some s') (hk : s.k ≤ 8194) : s.k ≤ s'.k ∧ s'.k ≤ 8194 :=
  vds_all (P := fun x => s.k ≤ x.k ∧ x.k ≤ 8194) (fun t' op' a b h hp => by have := vd_k m t' op' a b h; omega) h ⟨Nat.le_refl _, hk⟩
theorem vds_n {m : Nat} {t : Tr} {op : Int} {j : Nat} {s s' : St} (h : vds (vd m) t op j s = some s') (hn : s.n ≤ 100) : s'.n ≤ 100 :=
  vds_all (P := fun x => x.n ≤ 100) (fun t' op' a b h hp => vd_n m t' op' a b h hp) h hn
def NodeOk (S B m : Nat) : Prop := ∀ (t : Tr) (op : Int) (s : St) (v : Value) (w : World), Sv S w B v s → Tat S w t → s.k ≤ 8194 → 8194 ≤ s.k + m → s.n ≤ 100 → S ≤ w.heap.size → 0 ≤ op → op ≤ 1000 →
  Calls Tryd.prog 36 #[.pointer (some ⟨B, 0, none⟩), ndV (t []), .int .i64 op] w (Np S B v (vd m t op s) w)
theorem vds_succ {m : Nat} {t : Tr} {op : Int} {i : Nat} {s s' : St} (h : vds (vd m) t op i s = some s') : vds (vd m) t op (i + 1) s = vd m (kid t i) (if brB (t []).kind (t [i]).kind = true then op + 1 else op) s' := by
  show (vds (vd m) t op i s).bind _ = _
  rw [h]
  rfl
end Go.Proofs.YtbciclnffokjjaaDoor
/- Trees: node. -/
namespace Go.Proofs.YtbciclnffokjjaaDoor
open Go.RowKit
set_option maxHeartbeats 4000000 in
set_option maxRecDepth 100000 in
theorem node_else (S B m : Nat) (v : Value) (t : Tr) (op : Int) (s : St) (w : World) (hIH : NodeOk S B m) (hv : Sv S w B v s) (ht : Tat S w t) (hk : s.k + 1 ≤ 8194) (hm : 8194 ≤ s.k + (m + 1)) (hn : s.n ≤ 100) (hS : S ≤ w.heap.size) (hop0 : 0 ≤ op) (hop : op ≤ 250) (hnd : ndB (t []) = true) (k7 : ¬ (t []).kind = 7) (k10 : ¬ (t []).kind = 10) (k11 : ¬ (t []).kind = 11) :
    Calls Tryd.prog 36 #[.pointer (some ⟨B, 0, none⟩), ndV (t []), .int .i64 op] w (Np S B v (vd (m + 1) t op s) w) := by
  obtain ⟨hv2, hc2, hk2, hz2, hg2⟩ := node_beg (t []) hv
  have ht2 := ht.below (hv.low hS hk2)
  have kS := isSound_tree (t []) (begW w B (t []) s.k) ht2.ranges.ml (by have := ht.node; omega)
  rw [hnd] at kS
  have c0 := hv.c0
  have c0' := (hv.below ((Below.refl _ w).alloc (Nat.le_refl _) (ndX (t [])))).c0
  have f0' := (hv.below ((Below.refl _ w).alloc (Nat.le_refl _) (ndX (t [])))).fz 0
  have hnode := ht.node
  obtain ⟨W, hW⟩ : ∃ W, W = begW w B (t []) s.k := ⟨_, rfl⟩
  rw [← hW] at hv2 hc2 hk2 hz2 ht2 kS
  have HW' : Hid (W = (w.alloc (ndX (t []))).setCell ⟨B, 0, none⟩ (.int .i64 ((s.k : Int) + 1))) := hW
  obtain ⟨G, hG⟩ : ∃ G, G = w.heap.size := ⟨_, rfl⟩
  have HG : Hid (G = w.heap.size) := hG
  rw [← hG] at hc2 hz2 hg2
  have HC2 : Hid (Cs W G 0 (t [])) := hc2
  have HV2 : Hid (Sv S W B v { s with k := s.k + 1 }) := hv2
  have HT2 : Hid (Tat S W t) := ht2
  have HK2 : Hid (Kp (Mv B v) w W) := hk2
  have HZ2 : Hid (G < W.heap.size) := hz2
  have HS2 : Hid (S ≤ W.heap.size) := Nat.le_trans hS hk2.size
  have HM2 : Hid (¬ Mv B v G) := hg2
  have IH : Hid (NodeOk S B m) := hIH
  have HN0 : Hid (s.n ≤ 100) := hn
  have HK0 : Hid (s.k + 1 ≤ 8194) := hk
  have HM0 : Hid (8194 ≤ s.k + (m + 1)) := hm
  have HND : Hid (ndB (t []) = true) := hnd
  have HVD : Hid (vd (m + 1) t op s = (mid (t []) { s with k := s.k + 1 }).bind fun s1 => vds (vd m) t (if (t []).kind = 7 then op + 1 else op) (t []).kn s1) := by
    show (if _ then _ else _) = _
    rw [if_neg (by rw [hnd]; simp; omega)]
  have d0 := hv2.c0
  obtain ⟨e0, e1, e2, e3, e4, e5, e6, e7, e8⟩ := hc2
  simp only [Nat.zero_add] at e0 e1 e2 e3 e4 e5 e6 e7 e8
  obtain ⟨N, hN⟩ : ∃ N, (t []).kn = N := ⟨_, rfl⟩
  have HN : Hid ((t []).kn = N) := hN
  have hNb : (N : Int) ≤ 140737488351232 := by rw [← hN]; omega
  have hki : (s.k : Int) + 1 ≤ 8194 := by omega
  obtain ⟨KA, hKA⟩ : ∃ KA, (t []).ka = KA := ⟨_, rfl⟩
  have HKA : Hid ((t []).ka = KA) := hKA
  obtain ⟨d, hd⟩ : ∃ d, t [] = d := ⟨_, rfl⟩
  have HD : Hid (t [] = d) := hd
  rw [hd] at e0 e1 e2 e3 e4 e5 e6 e7 e8 kS c0' f0' HC2 HW' HVD hN hKA HND k7 k10 k11
  clear hv ht hW hG hv2 hk2 hz2 ht2 hg2 hIH hn hm hnd hnode hk
  push_cast at d0
  have HN' : Hid (d.kn = N) := hN
  have HKA' : Hid (d.ka = KA) := hKA
  clear hN hKA
  have t7 : (d.kind == 7) = false := by simpa using k7
  have t10 : (d.kind == 10) = false := by simpa using k10
  have t11 : (d.kind == 11) = false := by simpa using k11
  have HV : Hid (vd (m + 1) t op s = vds (vd m) t (op) N { s with k := s.k + 1 }) := by rw [HVD.out]; unfold mid; rw [if_neg (by omega), if_neg k7, if_neg k7, HN'.out]; rfl
  clear k7 k10 k11 HVD
  rw [hd]
  clear hd
  go_enter Tryd.func36, Tryd.ntmps36
  go_upto_region 2 with fail
  rw [← HW'.out, ← HG.out]
  go_wp2_with fail
  go_fit kS
  rintro e w3 ⟨rfl, b3⟩
  have sv3 := HV2.out.below b3
  have cs3 := HC2.out.kp (M := fun _ => False) (Kp.of b3) id
  have tt3 := HT2.out.below (b3.mono HS2.out)
  have kp3 := HK2.out.trans (Kp.of b3)
  have zz3 := Nat.le_trans HS2.out b3.size
  have gg3 := Nat.lt_of_lt_of_le HZ2.out b3.size
  clear e0 e1 e2 e3 e4 e5 e6 e7 e8 d0 c0 c0' f0' b3
  have f0 := cs3.c0
  obtain ⟨s1, hs1⟩ : ∃ s1, s1 = { s with k := s.k + 1 } := ⟨_, rfl⟩
  have hs1k : s1.k = s.k + 1 := by rw [hs1]
  have hs1n : s1.n ≤ 100 := by rw [hs1]; exact HN0.out
  rw [← hs1] at sv3 HV
  clear hs1
  go_upto_region 11 with fail
  have sv4 := sv3
  have tt4 := tt3
  have kp4 := kp3
  have sb4 := Sub.refl w v
  have zz4 := zz3
  have hm4 := HM2.out
  have cs4 := cs3
  clear sv3 tt3 kp3 zz3 gg3 cs3 f0
  have HS4 : Hid (Sv S w3 B v s1) := sv4
  have HT4 : Hid (Tat S w3 t) := tt4
  have HKW : Hid (Kp (Mv B v) w w3) := kp4
  have HSB : Hid (Sub w v v) := sb4
  have HZ4 : Hid (S ≤ w3.heap.size) := zz4
  have HM : Hid (¬ Mv B v G) := hm4
  have E0 : Hid (w3.cell? ⟨G, 0, none⟩ = some (.int .i64 d.kind)) := by have := cs4.c0; exact this
  have HK1 : Hid (8194 ≤ s1.k + m ∧ s1.k ≤ 8194) := by have a := HK0.out; have b := HM0.out; have c := hs1k; exact ⟨by omega, by omega⟩
  have HN1 : Hid (s1.n ≤ 100) := hs1n
  have e8 := cs4.c8
  simp only [Nat.zero_add] at e8
  rw [HN'.out, HKA'.out] at e8
  clear sv4 tt4 kp4 sb4 zz4 hm4 cs4 hs1k hs1n
  go_wp2_with fail
  go_loopw [48] (fun ivv w' => ∃ i : Nat, ivv = .int .i64 (i : Int) ∧ i ≤ N ∧ ∃ v' s', Hid (vds (vd m) t (op) i s1 = some s' ∧ Sv S w' B v' s' ∧ Sub w3 v v' ∧ Kp (Mv B v) w3 w')) (fun ivv _ => N - (RowKit.intOf ivv).toNat)
  case atStart => exact ⟨0, rfl, by omega, v, s1, rfl, HS4.out, Sub.refl _ _, Kp.refl _ _⟩
  case round =>
    obtain ⟨i, rfl, hi, v', s', hI⟩ := hrel
    by_cases hlt : i < N
    · have hii : (i : Int) < N := by omega
      have HI : Hid (i < N) := hlt
      obtain ⟨hvd, hsv, hsub, hkp⟩ := hI.out
      have htr := HT4.out.below (HS4.out.low HZ4.out hkp)
      have hsz : S ≤ wr.heap.size := Nat.le_trans HZ4.out hkp.size
      obtain ⟨g1, o1, hka, hg1, hcs⟩ := htr.kids.at i (by rw [HN.out]; exact hlt)
      have hc0 := hkp.cell E0.out HM.out
      have hc0' : ∀ o, (wr.alloc o).cell? ⟨G, 0, none⟩ = some (.int .i64 d.kind) := fun o => bcell2 ((Below.refl _ wr).alloc (Nat.le_refl _) o) hc0
      have kBr := fun W => bracketed_any d.kind (t [i]).kind W
      have hal : Below wr.heap.size wr (wr.alloc (ndX (t [i]))) := (Below.refl _ wr).alloc (Nat.le_refl _) _
      have hks := vds_k hvd HK1.out.2
      have hns := vds_n hvd HN1.out
      have hk1 := HK1.out
      have hSc := vds_succ hvd
      rw [HD.out] at hSc
      have kN := fun op' h0 h1 => IH.out (kid t i) op' s' v' (wr.alloc (ndX (t [i]))) (hsv.below hal) ((htr.kid i (by rw [HN.out]; exact hlt)).below (hal.mono hsz)) hks.2 (by omega) hns (Nat.le_trans hsz hal.size) h0 h1
      change ∀ op', 0 ≤ op' → op' ≤ 1000 → Calls Tryd.prog 36 #[.pointer (some ⟨B, 0, none⟩), ndV (t [i]), .int .i64 op'] (wr.alloc (ndX (t [i]))) (Np S B v' (vd m (kid t i) op' s') (wr.alloc (ndX (t [i])))) at kN
      have HR : Hid (∀ w2 v2, Sub (wr.alloc (ndX (t [i]))) v' v2 → Kp (Mv B v') (wr.alloc (ndX (t [i]))) w2 → Sub w3 v v2 ∧ Kp (Mv B v) w3 w2) := fun w2 v2 a b => ⟨hsub.trans a (Nat.le_trans hkp.size hal.size), (hkp.trans (Kp.of hal)).next hsub b⟩
      have HR2 : Hid (∀ w2, Kp (Mv B v') (wr.alloc (ndX (t [i]))) w2 → Kp (Mv B v) w3 w2) := fun w2 b => (hkp.trans (Kp.of hal)).next hsub b
      rw [HKA.out] at hka
      cases hka
      obtain ⟨p0, p1, p2, p3, p4, p5, p6, p7, p8⟩ := hcs
      have HSC : Hid (vds (vd m) t (op) (i + 1) s1 = _) := hSc
      clear hvd hsv hsub hkp htr hal hks hns hSc hk1
      generalize hdk : t [i] = dk at *
      have HDK : Hid (t [i] = dk) := hdk
      clear hdk
      have hbr : ∀ q : Bool, brB d.kind dk.kind = q → True := fun _ _ => trivial
      cases hb : brB d.kind dk.kind
      · rw [hb] at HSC
        simp only [hb] at kBr
        have kN := kN (op) (by omega) (by omega)
        simp only [Bool.false_eq_true, if_false] at HSC
        cases hvk : vd m (kid t i) (op) s' with
        | none =>
          rw [hvk] at kN HSC
          have HV0 : Hid (vd (m + 1) t op s = none) := by rw [HV.out]; exact vds_none HSC.out HI.out
          go_wp2_with fail
          go_fit (kBr _)
          rintro e w5 ⟨rfl, rfl⟩
          go_wp2_with fail
          go_fit kN
          rintro e w6 ⟨hno, _, hk6⟩
          have hp := hno rfl
          have HK6 : Hid _ := HR2.out _ hk6
          clear hno hk6
          have hp' : e = _ := hp
          subst hp'
          go_wp2
          exact ⟨rfl, by rw [HV0.out]; exact Np.no rfl (HKW.out.next HSB.out HK6.out)⟩
        | some s2 =>
          rw [hvk] at kN HSC
          go_wp2_with fail
          go_fit (kBr _)
          rintro e w5 ⟨rfl, rfl⟩
          go_wp2_with fail
          go_fit kN
          rintro e w6 ⟨_, hyes, hk6⟩
          obtain ⟨rfl, v2, sv2, sb2⟩ := hyes s2 rfl
          have HK6 : Hid _ := HR.out _ _ sb2 hk6
          have HS6 : Hid _ := sv2
          clear hyes hk6 sv2 sb2
          go_wp2
          exact ⟨⟨i + 1, by go_num, HI.out, v2, s2, HSC.out, HS6.out, HK6.out.1, HK6.out.2⟩, by simp [RowKit.intOf]; omega⟩
      · rw [hb] at HSC
        simp only [hb] at kBr
        have kN := kN (op + 1) (by omega) (by omega)
        simp only [if_true] at HSC
        cases hvk : vd m (kid t i) (op + 1) s' with
        | none =>
          rw [hvk] at kN HSC
          have HV0 : Hid (vd (m + 1) t op s = none) := by rw [HV.out]; exact vds_none HSC.out HI.out
          go_wp2_with fail
          go_fit (kBr _)
          rintro e w5 ⟨rfl, rfl⟩
          go_wp2_with fail
          go_fit kN
          rintro e w6 ⟨hno, _, hk6⟩
          have hp := hno rfl
          have HK6 : Hid _ := HR2.out _ hk6
          clear hno hk6
          have hp' : e = _ := hp
          subst hp'
          go_wp2
          exact ⟨rfl, by rw [HV0.out]; exact Np.no rfl (HKW.out.next HSB.out HK6.out)⟩
        | some s2 =>
          rw [hvk] at kN HSC
          go_wp2_with fail
          go_fit (kBr _)
          rintro e w5 ⟨rfl, rfl⟩
          go_wp2_with fail
          go_fit kN
          rintro e w6 ⟨_, hyes, hk6⟩
          obtain ⟨rfl, v2, sv2, sb2⟩ := hyes s2 rfl
          have HK6 : Hid _ := HR.out _ _ sb2 hk6
          have HS6 : Hid _ := sv2
          clear hyes hk6 sv2 sb2
          go_wp2
          exact ⟨⟨i + 1, by go_num, HI.out, v2, s2, HSC.out, HS6.out, HK6.out.1, HK6.out.2⟩, by simp [RowKit.intOf]; omega⟩
    · have hii : ¬ (i : Int) < N := by omega
      obtain rfl : i = N := by omega
      go_wp2
      go_end0
      rw [HV.out, hI.out.1]
      exact Np.yes ⟨v', hI.out.2.1, HSB.out.trans hI.out.2.2.1 HKW.out.size⟩ (HKW.out.next HSB.out hI.out.2.2.2)
end Go.Proofs.YtbciclnffokjjaaDoor
