/- The search's book-keeping. -/
import Derived.Test.YtnpgkiidpeaapaaDoorPk
namespace Go.Proofs.YtnpgkiidpeaapaaDoor
open Go.RowKit

/-- What holds of a search between two steps. -/
structure Iv (k : Cx) (sl0 : Nat → Int) (st : List Fr) (tr : Pt → Bool) (sl : Nat → Int) (g : Nat) : Prop where
  in1 : In1 k.y k.J k.s0 st tr
  res : ∀ r, Res k.y k.J st tr sl r → Res k.y k.J [Sum.inl k.s0] (fun _ => false) sl0 r
  me : mea k.n k.L tr st ≤ g
  bd : g ≤ 100000000000
section
variable {k : Cx} {sl0 : Nat → Int} {st : List Fr} {tr : Pt → Bool} {sl : Nat → Int} {g : Nat} {p : Pt}
theorem Iv.len (h : Iv k sl0 st tr sl g) : (st.length + 1) * 16 ≤ 140737488355328 := by
  have h1 := h.me
  have h2 := h.bd
  unfold mea at h1
  omega
theorem Iv.less {st' : List Fr} (h : Iv k sl0 st tr sl g) (hl : st'.length ≤ st.length + 1) : (st'.length + 1) * 16 ≤ 140737488355328 := by
  have h1 := h.me
  have h2 := h.bd
  unfold mea at h1
  omega
theorem Iv.seen (h : Iv k sl0 (Sum.inl p :: st) tr sl g) (hs : (k.J p.1 && tr p) = true) : ∃ g', g' < g ∧ Iv k sl0 st (mark tr p) sl g' := by
  have hm : mark tr p = tr := mark_new tr p (by rw [Bool.and_eq_true] at hs; exact hs.2)
  have h1 := h.me
  have h2 : mea k.n k.L tr (Sum.inl p :: st) = mea k.n k.L tr st + 1 := by unfold mea; simp; omega
  rw [hm]
  exact ⟨mea k.n k.L tr st, by omega, h.in1.drop, fun r hr => h.res r (Res.seen hs hr), Nat.le_refl _, by have := h.bd; omega⟩
theorem Iv.back {i : Nat} {v : Int} (h : Iv k sl0 (Sum.inr (i, v) :: st) tr sl g) : ∃ g', g' < g ∧ Iv k sl0 st tr (upd sl i v) g' := by
  have h1 := h.me
  have h2 : mea k.n k.L tr (Sum.inr (i, v) :: st) = mea k.n k.L tr st + 1 := by unfold mea; simp; omega
  exact ⟨mea k.n k.L tr st, by omega, h.in1.drop, fun r hr => h.res r (Res.back hr), Nat.le_refl _, by have := h.bd; omega⟩
theorem Iv.on {W0 : World} (f : Fix k W0) (h : Iv k sl0 (Sum.inl p :: st) tr sl g) (hs : (k.J p.1 && tr p) = false) (hw : k.y.win p = false) (h1 : p.1 < k.n) (h2 : p.2 ≤ k.L) : ∃ g', g' < g ∧ Iv k sl0 (aft k.y p st sl) (mark tr p) (aftS k.y p sl) g' := by
  have hL : Lone k.y k.J k.s0 := lone f.sin f.st0
  have ht : tr p = false := by
    cases hJ : k.J p.1 with
    | true => rw [hJ] at hs; exact hs
    | false => exact h.in1.new hL hJ
  have hm := mea_on k.y k.n k.L tr st sl p h1 h2 ht (ots_len k.x k.n k.s p)
  have h3 := h.me
  exact ⟨mea k.n k.L (mark tr p) (aft k.y p st sl), by omega, h.in1.on sl hL ht, fun r hr => h.res r (Res.on hs hw hr), Nat.le_refl _, by have := h.bd; omega⟩
theorem Iv.won (h : Iv k sl0 (Sum.inl p :: st) tr sl g) (hs : (k.J p.1 && tr p) = false) (hw : k.y.win p = true) : Res k.y k.J [Sum.inl k.s0] (fun _ => false) sl0 (some sl) := h.res _ (Res.won hs hw)
theorem Iv.none (h : Iv k sl0 [] tr sl g) : Res k.y k.J [Sum.inl k.s0] (fun _ => false) sl0 none := h.res _ (Res.nil _ _ _ _)
theorem Iv.start {W0 : World} (f : Fix k W0) (sl0 : Nat → Int) : ∃ g, Iv k sl0 [Sum.inl k.s0] (fun _ => false) sl0 g := by
  refine ⟨mea k.n k.L (fun _ => false) [Sum.inl k.s0], In1.start _ _ _, fun r hr => hr, Nat.le_refl _, ?_⟩
  have h1 := f.size_le.1
  have h2 := unT_bd (fun _ => false) (k.n * (k.L + 1))
  show 3 * unT (fun _ => false) (k.n * (k.L + 1)) + 1 ≤ _
  omega
/-- The steps, kind by kind. -/
theorem win_at (h1 : p.1 < k.n) (ho : (k.x p.1).op = 1) (he : p.2 = k.s.size) : k.y.win p = true := by
  show decide _ = true
  rw [decide_eq_true_iff]
  exact ⟨h1, ho, he⟩
theorem win_not (h : ¬ ((k.x p.1).op = 1 ∧ p.2 = k.s.size)) : k.y.win p = false := by
  show decide _ = false
  rw [decide_eq_false_iff_not]
  exact fun e => h e.2
theorem sav_not (h : (k.x p.1).op ≠ 4) : k.y.sav p = none := if_neg (fun e => h e.2)
theorem aft_not (h : (k.x p.1).op ≠ 4) : aft k.y p st sl = (k.y.outs p).map Sum.inl ++ st ∧ aftS k.y p sl = sl := by
  unfold aft aftS
  rw [sav_not h]
  exact ⟨rfl, rfl⟩
theorem aft_end (h : (k.x p.1).op = 1 ∨ (k.x p.1).op = 11) : aft k.y p st sl = st ∧ aftS k.y p sl = sl := by
  have h0 := aft_not (k := k) (p := p) (st := st) (sl := sl) (by omega)
  have e : k.y.outs p = [] := by
    show ots _ _ _ _ = _
    unfold ots
    rw [if_pos h]
    exact ite_self _
  rw [h0.1, e, h0.2]
  exact ⟨rfl, rfl⟩
theorem aft_rune (h1 : p.1 < k.n) (h : (k.x p.1).op = 2) : aft k.y p st sl = (if rnB (k.x p.1) k.s p.2 = true then Sum.inl ((k.x p.1).out.toNat, p.2 + (nxt k.s p.2).2.toNat) :: st else st) ∧ aftS k.y p sl = sl := by
  have h0 := aft_not (k := k) (p := p) (st := st) (sl := sl) (by omega)
  have e : k.y.outs p = (if rnB (k.x p.1) k.s p.2 = true then [((k.x p.1).out.toNat, p.2 + (nxt k.s p.2).2.toNat)] else []) := by
    show ots _ _ _ _ = _
    unfold ots
    rw [if_neg (by omega), if_neg (by omega), if_pos h]
  rw [h0.1, e, h0.2]
  refine ⟨?_, rfl⟩
  split <;> rfl
theorem aft_split (h1 : p.1 < k.n) (h : (k.x p.1).op = 3) : aft k.y p st sl = Sum.inl ((k.x p.1).out.toNat, p.2) :: Sum.inl ((k.x p.1).alt.toNat, p.2) :: st ∧ aftS k.y p sl = sl := by
  have h0 := aft_not (k := k) (p := p) (st := st) (sl := sl) (by omega)
  have e : k.y.outs p = [((k.x p.1).out.toNat, p.2), ((k.x p.1).alt.toNat, p.2)] := by
    show ots _ _ _ _ = _
    unfold ots
    rw [if_neg (by omega), if_neg (by omega), if_neg (by omega), if_pos h]
  rw [h0.1, e, h0.2]
  exact ⟨rfl, rfl⟩
theorem aft_save (h1 : p.1 < k.n) (h : (k.x p.1).op = 4) : aft k.y p st sl = Sum.inl ((k.x p.1).out.toNat, p.2) :: Sum.inr ((k.x p.1).arg.toNat, sl (k.x p.1).arg.toNat) :: st ∧ aftS k.y p sl = upd sl (k.x p.1).arg.toNat (p.2 : Int) := by
  have es : k.y.sav p = some (k.x p.1).arg.toNat := if_pos ⟨h1, h⟩
  have e : k.y.outs p = [((k.x p.1).out.toNat, p.2)] := by
    show ots _ _ _ _ = _
    unfold ots
    rw [if_neg (by omega), if_neg (by omega), if_neg (by omega), if_neg (by omega), if_pos h]
  unfold aft aftS
  rw [es, e]
  exact ⟨rfl, rfl⟩
theorem aft_look (h1 : p.1 < k.n) (h : 5 ≤ (k.x p.1).op ∧ (k.x p.1).op ≤ 10) : aft k.y p st sl = (if stB (k.x p.1).op (k.x p.1).arg k.s p.2 = true then Sum.inl ((k.x p.1).out.toNat, p.2) :: st else st) ∧ aftS k.y p sl = sl := by
  have h0 := aft_not (k := k) (p := p) (st := st) (sl := sl) (by omega)
  have e : k.y.outs p = (if stB (k.x p.1).op (k.x p.1).arg k.s p.2 = true then [((k.x p.1).out.toNat, p.2)] else []) := by
    show ots _ _ _ _ = _
    unfold ots
    rw [if_neg (by omega), if_neg (by omega), if_neg (by omega), if_neg (by omega), if_neg (by omega)]
  rw [h0.1, e, h0.2]
  refine ⟨?_, rfl⟩
  split <;> rfl
end
/-- An instruction's cells. -/
theorem Gs.inst {k : Cx} {W0 w : World} {tr : Pt → Bool} {st : List Fr} {sl : Nat → Int} {g o : Nat} (f : Fix k W0) (G : Gs k W0 w tr st sl) (hia : k.ia = some ⟨g, o, none⟩) (i : Nat) (hi : i < k.n) :
    w.cell? ⟨k.mb, 0, none⟩ = some (.slice (some ⟨g, o, none⟩) k.n k.ic) ∧ w.cell? ⟨g, o + i * 5, none⟩ = some (.int .i64 (k.x i).op) ∧ w.cell? ⟨g, o + i * 5 + 1, none⟩ = some (.int .i64 (k.x i).out) ∧ w.cell? ⟨g, o + i * 5 + 2, none⟩ = some (.int .i64 (k.x i).alt) ∧ w.cell? ⟨g, o + i * 5 + 3, none⟩ = some (.int .i64 (k.x i).arg) ∧ w.cell? ⟨g, o + i * 5 + 4, none⟩ = some (.slice (k.x i).ra (k.x i).rn (k.x i).rc) ∧ Rml w (k.x i).ra (k.x i).rf (k.x i).rn ∧ (k.x i).rn * 8 ≤ 140737488351232 := by
  have fx := G.fix f
  obtain ⟨g', o', e, _, c0, c1, c2, c3, c4, c5, c6⟩ := fx.ins.at i hi
  rw [hia] at e
  cases e
  exact ⟨by rw [← hia]; exact fx.mach.m0, c0, c1, c2, c3, c4, c5, c6⟩
/-- What a search answers. -/
def GW (k : Cx) (W0 : World) (sl0 : Nat → Int) (e : Ending) (w' : World) : Prop := ∃ r, Res k.y k.J [Sum.inl k.s0] (fun _ => false) sl0 r ∧ e = .returned (.bool r.isSome) ∧ Below k.sb W0 w' ∧ ∀ sl, r = some sl → w'.ownsRow 0 3 1 (.slice (some ⟨k.sb, 0, none⟩) k.sn k.sp) k.sn (sc (slc sl) k.sn)
theorem Gs.won {k : Cx} {W0 w : World} {tr : Pt → Bool} {st : List Fr} {sl sl0 : Nat → Int} (G : Gs k W0 w tr st sl) (h : Res k.y k.J [Sum.inl k.s0] (fun _ => false) sl0 (some sl)) : GW k W0 sl0 (.returned (.bool true)) w := by
  obtain ⟨Ls, Lm, τ, N, wd, h1, h2, h3, h4⟩ := G
  exact ⟨some sl, h, rfl, h4, fun sl' e => by cases e; exact h1.slots⟩
theorem Gs.lost {k : Cx} {W0 w : World} {tr : Pt → Bool} {st : List Fr} {sl sl0 : Nat → Int} (G : Gs k W0 w tr st sl) (h : Res k.y k.J [Sum.inl k.s0] (fun _ => false) sl0 none) : GW k W0 sl0 (.returned (.bool false)) w := by
  obtain ⟨Ls, Lm, τ, N, wd, h1, h2, h3, h4⟩ := G
  exact ⟨none, h, rfl, h4, fun sl' e => by cases e⟩
end Go.Proofs.YtnpgkiidpeaapaaDoor
