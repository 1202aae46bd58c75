
/- The reference's Merge. -/
import Derived.Test.YtcgpjmpppajfdaaLq
import Derived.Test.YtcgpjmpppajfdaaRf
namespace Go.Proofs.Ytcgpjmpppajfdaa.Li
open Go.RowKit

theorem bcell2 {W W' : World} {p : Addr} {v : Value} (b : Below W.heap.size W W') (h : W.cell? p = some v) : W'.cell? p = some v := (Kp.of (M := fun _ => False) b).cell h id
/-- A row of numbers of one's own. -/
def ja (a : Nat → Nat) (n : Nat) : List Value := (List.range n).map fun j => .int .i64 ((a j : Nat) : Int)
theorem ja_len (a : Nat → Nat) (n : Nat) : (ja a n).length = n := by simp [ja]
theorem ja_get (a : Nat → Nat) (n j : Nat) (h : j < n) : (ja a n)[j]? = some (.int .i64 ((a j : Nat) : Int)) := by simp [ja, h]
theorem ja_push (a : Nat → Nat) (n : Nat) (h : a n = 0) : ja a (n + 1) = ja a n ++ [.int .i64 0] := by
  unfold ja
  rw [List.range_succ, List.map_append]
  simp [h]
theorem ja_set (a : Nat → Nat) (n i u : Nat) : (ja a n).set i (.int .i64 ((u : Nat) : Int)) = ja (up a i u) n := by
  apply List.ext_getElem?
  intro j
  by_cases hj : j < n
  · rw [ja_get _ _ _ hj]
    by_cases e : i = j
    · subst e
      rw [List.getElem?_set_self (by rw [ja_len]; exact hj), up_same]
    · rw [List.getElem?_set_ne e, ja_get _ _ _ hj, up_other _ _ _ _ (fun h => e h.symm)]
  · rw [List.getElem?_eq_none (by rw [List.length_set, ja_len]; omega), List.getElem?_eq_none (by rw [ja_len]; omega)]
def Jr (w : World) (S : Nat) (v : Value) (n : Nat) (a : Nat → Nat) : Prop := w.ownsRow S 3 1 v n (ja a n)
theorem infJ : (Try.prog.info? 3).map (fun i => (i.zero, i.size, i.bytes)) = some (some (.int .i64 0), 1, 8) := by kernel_rfl
theorem append_j (w : World) (S : Nat) (v : Value) (n : Nat) (a : Nat → Nat) (h0 : a n = 0) (hS : S ≤ w.heap.size) (hn : (n + 1) * 8 ≤ 140737488355328) (o : Jr w S v n a) :
    ∃ g c w', (Builtin.append_ #[118, 118] 118 #[v, .slice (some ⟨w.heap.size, 0, none⟩) 1 1]).run Try.prog (w.alloc (.cells #[.int .i64 0] 3)) = .ok (.slice (some ⟨g, 0, none⟩) (n + 1) c) w' ∧ Jr w' S (.slice (some ⟨g, 0, none⟩) (n + 1) c) (n + 1) a ∧ Kp (fun k => v.ownBlock = some k) w w' := by
  obtain ⟨i0, hi, hz0, hz1, hz2⟩ := info_parts infJ
  have o0 := World.ownsRow.alloc o (.cells #[.int .i64 0] 3)
  obtain ⟨v', w', r, o', g, _, _⟩ := run_append_own_at (P := Try.prog) (w.alloc (.cells #[.int .i64 0] 3)) S 118 118 3 i0 (.int .i64 0) 1 8 Try.underlying118 hi hz0 hz1 hz2 rfl (by decide) _ n (ja a n) o0 ⟨w.heap.size, 0, none⟩ 1 1 [.int .i64 0] (by rfl)
    (cell_one_new w (.int .i64 0) 3) (by intro u hu; simp at hu; rw [hu]; rfl) (by unfold maxLen; omega) hn (by simp; omega)
  rw [← ja_push a n h0] at o'
  rcases o'.2 with ⟨_, h0⟩ | ⟨G, C, cur, rfl, _⟩
  · omega
  · exact ⟨G, C, w', r, o', ((Kp.refl _ w).alloc _).grown g (fun k hk _ => hk)⟩
theorem Jr.cell {w : World} {S g c n : Nat} {a : Nat → Nat} (h : Jr w S (.slice (some ⟨g, 0, none⟩) n c) n a) (j : Nat) (hj : j < n) : w.cell? ⟨g, j, none⟩ = some (.int .i64 ((a j : Nat) : Int)) := by
  rw [World.ownsRow.cellAt h j (by omega), ja_get a n j hj]
theorem Jr.set {w : World} {S g c n : Nat} {a : Nat → Nat} (h : Jr w S (.slice (some ⟨g, 0, none⟩) n c) n a) (j u : Nat) : Jr (w.setCell ⟨g, j, none⟩ (.int .i64 ((u : Nat) : Int))) S (.slice (some ⟨g, 0, none⟩) n c) n (up a j u) := by
  unfold Jr
  rw [← ja_set a n j u]
  exact (World.ownsRow.stored h j _).1

/-- What is left of each list. -/
def RT (q : Nat → Ls) (a : Nat → Nat) : Nat → List It := fun i => (things (q i)).drop (a i)
theorem RT_ne {q : Nat → Ls} {a : Nat → Nat} {i : Nat} (h : a i < (q i).2.1) : RT q a i ≠ [] := fun e => by
  have := congrArg List.length e
  unfold RT at this
  rw [List.length_drop, things_len] at this
  simp at this
  omega
theorem RT_nil {q : Nat → Ls} {a : Nat → Nat} {i : Nat} (h : ¬ a i < (q i).2.1) : RT q a i = [] := List.eq_nil_of_length_eq_zero (by unfold RT; rw [List.length_drop, things_len]; omega)
theorem RT_head {q : Nat → Ls} {a : Nat → Nat} {i : Nat} (h : a i < (q i).2.1) : (RT q a i).getD 0 (0, 0) = (q i).2.2.2 (a i) := by
  unfold RT
  rw [← things_get (q i) (a i) h]
  simp [List.getD]
theorem RT_up (q : Nat → Ls) (a : Nat → Nat) (b : Nat) : RT q (up a b (a b + 1)) = up (RT q a) b ((RT q a b).drop 1) := by
  funext i
  by_cases e : i = b
  · subst e
    rw [up_same]
    unfold RT
    rw [up_same, List.drop_drop]
  · rw [up_other _ _ _ _ e]
    unfold RT
    rw [up_other _ _ _ _ e]
theorem KL_RT (fl : Bool) {q : Nat → Ls} {a : Nat → Nat} {i : Nat} (h : a i < (q i).2.1) : KL fl (RT q a i) = Kf fl ((q i).2.2.2 (a i)) := by
  unfold KL Kf
  rw [RT_head h]
/-- best, as the number that is held. -/
def bsI (fl : Bool) (R : Nat → List It) (n : Nat) : Int := match bst fl R n with
  | none => -1
  | some b => (b : Int)
theorem bsI_none {fl : Bool} {R : Nat → List It} {n : Nat} (h : bst fl R n = none) : bsI fl R n = -1 := by unfold bsI; rw [h]
theorem bsI_some {fl : Bool} {R : Nat → List It} {n b : Nat} (h : bst fl R n = some b) : bsI fl R n = (b : Int) := by unfold bsI; rw [h]
theorem bst_skip {fl : Bool} {R : Nat → List It} {n : Nat} (h : R n = []) : bst fl R (n + 1) = bst fl R n := by
  rw [bst]
  cases e : bst fl R n with
  | none => dsimp only; rw [if_pos h]
  | some b => dsimp only; rw [if_neg (fun x => x.1 h)]
theorem bst_first {fl : Bool} {R : Nat → List It} {n : Nat} (h : R n ≠ []) (e : bst fl R n = none) : bst fl R (n + 1) = some n := by
  rw [bst, e]
  dsimp only
  rw [if_neg h]
theorem bst_yes {fl : Bool} {R : Nat → List It} {n b : Nat} (h : R n ≠ []) (e : bst fl R n = some b) (hk : KL fl (R n) < KL fl (R b)) : bst fl R (n + 1) = some n := by
  rw [bst, e]
  dsimp only
  rw [if_pos ⟨h, hk⟩]
theorem bst_no {fl : Bool} {R : Nat → List It} {n b : Nat} (e : bst fl R n = some b) (hk : ¬ KL fl (R n) < KL fl (R b)) : bst fl R (n + 1) = some b := by
  rw [bst, e]
  dsimp only
  rw [if_neg (fun x => hk x.2)]
theorem Jr.some {w : World} {S n : Nat} {v : Value} {a : Nat → Nat} (h : Jr w S v n a) (hn : 0 < n) : ∃ g c, v = .slice (some ⟨g, 0, none⟩) n c ∧ S ≤ g := by
  rcases h.2 with ⟨_, e2⟩ | ⟨G, C, _, e, hb, _⟩
  · omega
  · exact ⟨_, _, e, hb⟩
theorem Jr.sl {w : World} {S n : Nat} {v : Value} {a : Nat → Nat} (h : Jr w S v n a) : ∃ g c, v = .slice g n c := by
  rcases h.2 with ⟨e, e2⟩ | ⟨G, C, _, e, hb, _⟩
  · exact ⟨none, 0, by rw [e, e2]⟩
  · exact ⟨_, _, e⟩
/-- The loop: places, and what has come out. -/
structure RM (fl : Bool) (n : Nat) (q : Nat → Ls) (w0 : World) (va : Value) (a : Nat → Nat) (vo : Value) (j : Nat) (w : World) : Prop where
  row : Jr w w0.heap.size va n a
  out : ∃ pre, Ir w w0.heap.size vo j (lk pre) ∧ pre.length = j ∧ pre ++ mrA fl n (RT q a) = mrA fl n (QL q)
  tt : tot (RT q a) n + j = tot (QL q) n
  ap : ∀ g, va.ownBlock = some g → vo.ownBlock ≠ some g
  bel : Below w0.heap.size w0 w
theorem RM.below {fl : Bool} {n : Nat} {q : Nat → Ls} {w0 : World} {va : Value} {a : Nat → Nat} {vo : Value} {j : Nat} {w w' : World} (h : RM fl n q w0 va a vo j w) (hb : Below w.heap.size w w') : RM fl n q w0 va a vo j w' := by
  obtain ⟨pre, h1, h2⟩ := h.out
  exact ⟨(Kp.of (M := fun _ => False) hb).row h.row (fun _ _ => id), ⟨pre, h1.below hb, h2⟩, h.tt, h.ap, h.bel.trans (hb.mono h.bel.size)⟩
end Go.Proofs.Ytcgpjmpppajfdaa.Li
