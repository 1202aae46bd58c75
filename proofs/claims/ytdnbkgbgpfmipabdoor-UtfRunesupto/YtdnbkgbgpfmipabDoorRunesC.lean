/- UtfRunes: the walk of the law's own texts1. -/
import Derived.Test.YtdnbkgbgpfmipabDoorRunesB
import Derived.Laws.CopyOwn
import Derived.Laws.IdiomCopy
import Derived.Laws.OwnMore
namespace Go.Proofs.YtdnbkgbgpfmipabDoor
open Go.RowKit Go.Lib

theorem wp_copy_run {P : Program} {ops : Array Oper} {rest : List Oper} {o : Oper} {a : Act} {w w' : World} {v' : Value} {Q : Exit → Act → World → Prop} (hw : Region.wanted o (yielded ops a.tmps) = true) (s x : Operand) (t tx : TypeId)
    (ho : o.op = .call { callee := .builtin .copy, args := #[s, x], argTypes := #[t, tx] }) (vs vx : Value) (hs : a.eval s = vs) (hx : a.eval x = vx)
    (hr : (Builtin.copy_ #[t, tx] o.type #[vs, vx]).run P w = .ok v' w') (h : wpList P ops Q rest (a.put o.dst v') w') : wpList P ops Q (o :: rest) a w := by
  unfold wpList
  rw [if_pos hw]
  left
  unfold Oper.wp execOp
  simp only [ho, resolve, invoke, builtin, Sem.run_bind, Sem.run_pure, Result.andThen_ok, List.map_toArray, List.map_cons, List.map_nil, hs, hx, hr]
  exact h

theorem rcells_len (xs : List Int) : (rcells xs).length = xs.length := by simp [rcells]
theorem rcells_app (xs ys : List Int) : rcells (xs ++ ys) = rcells xs ++ rcells ys := by simp [rcells]

/-- A list that came in copied to the head of a new row of noughts. -/
theorem copy_in (w : World) (B G : Nat) (xs : List Int) (a : Option Addr) (c : Nat) (ty : TypeId) (h : NumsIn w a xs) (o : w.ownsRow B 21 1 (.slice (some ⟨G, 0, none⟩) (xs.length + 8) (xs.length + 8)) (xs.length + 8) (rcells (List.replicate (xs.length + 8) 0))) :
    ∃ v w', (Builtin.copy_ #[22, 22] ty #[.slice (some ⟨G, 0, none⟩) (xs.length + 8) (xs.length + 8), .slice a xs.length c]).run Tryd.prog w = .ok v w' ∧
      w'.ownsRow B 21 1 (.slice (some ⟨G, 0, none⟩) (xs.length + 8) (xs.length + 8)) (xs.length + 8) (rcells (xs ++ List.replicate 8 0)) ∧ Below B w w' := by
  have hsz : (Tryd.prog.info? 21).map (·.size) = some 1 := by kernel_rfl
  rcases h with ⟨rfl, rfl⟩ | ⟨x, rfl, hc⟩
  · exact ⟨_, w, run_copy_none (P := Tryd.prog) w 22 22 ty 21 (some ⟨G, 0, none⟩) none _ _ _ c Tryd.underlying22 hsz (by simp), o, Below.refl _ _⟩
  · have hl := o.lt G rfl
    rcases o.2 with ⟨h0, _⟩ | ⟨g, cap, cur, hv, hb, hg, hnc, hcm, hcs, htake⟩
    · simp at h0
    · simp only [Value.slice.injEq, Option.some.injEq, Addr.mk.injEq, and_true, true_and] at hv
      obtain ⟨rfl, rfl⟩ := hv
      rw [Nat.mul_one] at hcs htake
      have hcur : cur.toList = rcells (List.replicate (xs.length + 8) 0) := by
        rw [← htake, List.take_of_length_le (by simp [hcs])]
      have hr := run_copy_row (P := Tryd.prog) w 22 22 ty 21 G 0 (xs.length + 8) (xs.length + 8) x xs.length c cur 21 (rcells xs) Tryd.underlying22 hsz hg (by simp [rcells]) hc (by rw [hcs, rcells_len]; omega) (rcells_one xs)
      refine ⟨_, _, hr, ⟨by simp [rcells], .inr ⟨G, xs.length + 8, _, rfl, hb, setRow_heap w G cur _ 21 _ hg, Nat.le_refl _, hcm, ?_, ?_⟩⟩, below_setRow (Below.refl _ _) hb _⟩
      · simp [rcells, hcs]
      · rw [Nat.mul_one]
        have e : cur.toList.drop (0 + (rcells xs).length) = rcells (List.replicate 8 0) := by
          rw [hcur, rcells_len, Nat.zero_add]
          simp [rcells]
        rw [e, List.take_of_length_le (by simp [rcells])]
        simp [rcells]

/-- The room behind a list, filled up to a place. -/
def fl (xs : List Int) (k : Nat) : List Int := xs ++ (List.replicate k 77 ++ List.replicate (8 - k) 0)
theorem fl_len (xs : List Int) (k : Nat) (h : k ≤ 8) : (fl xs k).length = xs.length + 8 := by simp [fl]; omega
theorem set_mid2 {α : Type} (L R : List α) (x y : α) : (L ++ x :: R).set L.length y = L ++ y :: R := by
  rw [List.set_append_right _ _ (Nat.le_refl _), Nat.sub_self]; rfl
theorem fl_set (xs : List Int) (k : Nat) (h : k < 8) : (rcells (fl xs k)).set (xs.length + k) (.int .i32 77) = rcells (fl xs (k + 1)) := by
  obtain ⟨m, hm⟩ : ∃ m, 8 - k = m + 1 := ⟨8 - k - 1, by omega⟩
  have e1 : rcells (fl xs k) = rcells (xs ++ List.replicate k 77) ++ .int .i32 0 :: rcells (List.replicate m 0) := by
    unfold fl
    rw [hm, List.replicate_succ]
    simp [rcells]
  have e2 : rcells (fl xs (k + 1)) = rcells (xs ++ List.replicate k 77) ++ .int .i32 77 :: rcells (List.replicate m 0) := by
    unfold fl
    rw [show 8 - (k + 1) = m by omega, List.replicate_succ']
    simp [rcells]
  rw [e1, e2, show xs.length + k = (rcells (xs ++ List.replicate k 77)).length by simp [rcells]]
  exact set_mid2 _ _ _ _
/-- A list written over up to a place. -/
def ov (xs : List Int) (k : Nat) : List Int := List.replicate k 98 ++ (xs.drop k ++ List.replicate 8 77)
theorem ov_len (xs : List Int) (k : Nat) (h : k ≤ xs.length) : (ov xs k).length = xs.length + 8 := by simp [ov]; omega
theorem ov_set (xs : List Int) (k : Nat) (h : k < xs.length) : (rcells (ov xs k)).set k (.int .i32 98) = rcells (ov xs (k + 1)) := by
  have e1 : rcells (ov xs k) = rcells (List.replicate k 98) ++ .int .i32 xs[k] :: rcells (xs.drop (k + 1) ++ List.replicate 8 77) := by
    unfold ov
    rw [List.drop_eq_getElem_cons h, rcells_app]
    rfl
  have e2 : rcells (ov xs (k + 1)) = rcells (List.replicate k 98) ++ .int .i32 98 :: rcells (xs.drop (k + 1) ++ List.replicate 8 77) := by
    unfold ov
    rw [List.replicate_succ', List.append_assoc, rcells_app]
    rfl
  rw [e1, e2]
  have := set_mid2 (rcells (List.replicate k 98)) (rcells (xs.drop (k + 1) ++ List.replicate 8 77)) (.int .i32 xs[k]) (.int .i32 98)
  rw [show (rcells (List.replicate k 98)).length = k by simp [rcells]] at this
  exact this
theorem row_cell {w : World} {B G n c : Nat} {ys : List Int} (o : w.ownsRow B 21 1 (.slice (some ⟨G, 0, none⟩) n c) n (rcells ys)) (j : Nat) (h : j < ys.length) : w.cell? ⟨G, j, none⟩ = some (.int .i32 (ys.getD j 0)) := by
  have := o.cells (g := G) rfl j (.int .i32 (ys.getD j 0)) (by simp [rcells, List.getD, h])
  rw [Go.WideShapes.add_plain, Nat.zero_add] at this
  exact this
end Go.Proofs.YtdnbkgbgpfmipabDoor
