/- lent, whole. -/
import Derived.Test.YtjmninjaoemhjaaDoorKi
import Derived.Laws.CopyOwn
namespace Go.Proofs.YtjmninjaoemhjaaDoor.K
open Go.RowKit Go.Lib

attribute [local go_sem] Oper.semAt_some

abbrev zL : Lb := (⟨#[]⟩, ⟨#[]⟩)
abbrev tT : ByteArray := ⟨#[108, 101, 110, 116]⟩
abbrev tL : Lb := (tT, tT)
def up {α : Type} (f : Nat → α) (j : Nat) (u : α) : Nat → α := fun i => if i = j then u else f i
theorem up_same {α : Type} (f : Nat → α) (j : Nat) (u : α) : up f j u j = u := if_pos rfl
theorem up_other {α : Type} (f : Nat → α) (j : Nat) (u : α) (i : Nat) (h : i ≠ j) : up f j u i = f i := if_neg h
theorem lc_congr (f g : Nat → Lb) (n : Nat) (h : ∀ j, j < n → f j = g j) : lc f n = lc g n := by
  induction n with
  | zero => rfl
  | succ n ih => rw [lc_succ, lc_succ, ih fun j hj => h j (by omega), h n (by omega)]
theorem lc_app (f : Nat → Lb) (n : Nat) : ∀ m, lc f (n + m) = lc f n ++ lc (fun j => f (n + j)) m
  | 0 => by simp [lc]
  | m + 1 => by rw [← Nat.add_assoc, lc_succ, lc_app f n m, lc_succ, List.append_assoc]
/-- A row of things of one's own. -/
def Ir (w : World) (S : Nat) (v : Value) (n : Nat) (f : Nat → Lb) : Prop := w.ownsRow S 26 2 v n (lc f n)
theorem Ir.below {w w' : World} {S n : Nat} {v : Value} {f : Nat → Lb} (h : Ir w S v n f) (hb : Below w.heap.size w w') : Ir w' S v n f := (Kp.of (M := fun _ => False) hb).row h (fun _ _ => id)
theorem Ir.congr {w : World} {S n : Nat} {v : Value} {f g : Nat → Lb} (h : Ir w S v n f) (e : ∀ j, j < n → f j = g j) : Ir w S v n g := by
  unfold Ir
  rw [← lc_congr f g n e]
  exact h
theorem Ir.iml {w : World} {S n : Nat} {v : Value} {f : Nat → Lb} (h : Ir w S v n f) : ∃ a c, v = .slice a n c ∧ Lm w a f n ∧ n ≤ c := by
  have hc := fun g => h.cells (g := g)
  rcases h.2 with ⟨rfl, h0⟩ | ⟨g, c, cur, rfl, _, hg, hnc, _⟩
  · subst h0
    exact ⟨none, 0, rfl, .inl rfl, Nat.le_refl _⟩
  · refine ⟨_, c, rfl, .inr ⟨g, 0, rfl, (Array.getElem?_eq_some_iff.1 hg).1, fun j hj => ?_⟩, hnc⟩
    have h1 := hc g rfl (j * 2 + 0) _ (by rw [lc_get f n j 0 hj (by omega)]; rfl)
    have h2 := hc g rfl (j * 2 + 1) _ (by rw [lc_get f n j 1 hj (by omega)]; rfl)
    rw [Go.WideShapes.add_plain] at h1 h2
    exact ⟨h1, by rw [Nat.add_assoc]; exact h2⟩
theorem made_i (k : Nat) : (madeCells #[Value.string ⟨#[]⟩, Value.string ⟨#[]⟩] (k * 2)).toList = lc (fun _ => zL) k := by
  apply List.ext_getElem?
  intro j
  by_cases hj : j < k * 2
  · have e : j = (j / 2) * 2 + j % 2 := by omega
    have h2 : (lc (fun _ => zL) k)[j]? = some (.string ⟨#[]⟩) := by
      rw [e, lc_get _ k (j / 2) (j % 2) (by omega) (by omega)]
      have : j % 2 = 0 ∨ j % 2 = 1 := by omega
      rcases this with h | h <;> rw [h] <;> rfl
    rw [h2]
    simp [madeCells, hj]
    have : j % 2 = 0 ∨ j % 2 = 1 := by omega
    rcases this with h | h <;> rw [h] <;> rfl
  · rw [List.getElem?_eq_none (by simp [madeCells]; omega), List.getElem?_eq_none (by rw [lc_len]; omega)]
theorem make_i (w : World) (S k : Nat) (hS : S ≤ w.heap.size) (hk : k * 32 ≤ 281474976710656) : ∃ w', (Instr.makeSlice 22 (.int .i64 (k : Int)) (.int .i64 (k : Int))).run Tryd.prog w = .ok (.slice (some ⟨w.heap.size, 0, none⟩) k k) w' ∧ Ir w' S (.slice (some ⟨w.heap.size, 0, none⟩) k k) k (fun _ => zL) ∧ Below w.heap.size w w' := by
  obtain ⟨i0, hi, hz0, hz1, hz2⟩ := info_parts infL
  obtain ⟨w1, r, o, g⟩ := run_make_full (P := Tryd.prog) w S 22 26 i0 (.agg #[.string ⟨#[]⟩, .string ⟨#[]⟩]) 2 Tryd.underlying22 hi hz0 hz1 .i64 .i64 k (by rw [hz2]; omega) (by unfold maxLen; omega) hS
  refine ⟨w1, r, ?_, (Below.refl _ w).grown g (Nat.le_refl _) (fun k hk => by cases hk)⟩
  unfold Ir
  rw [← made_i k]
  exact o
theorem lc_set (f : Nat → Lb) (j : Nat) (u : Lb) : ∀ n, j < n → ((lc f n).set (j * 2) (.string u.1)).set (j * 2 + 1) (.string u.2) = lc (up f j u) n
  | 0, h => by omega
  | n + 1, h => by
    rw [lc_succ, lc_succ]
    by_cases hj : j < n
    · rw [List.set_append_left _ _ (by rw [lc_len]; omega), List.set_append_left _ _ (by rw [List.length_set, lc_len]; omega), lc_set f j u n hj]
      congr 1
      congr 1
      exact (if_neg (by omega)).symm
    · obtain rfl : j = n := by omega
      rw [List.set_append_right _ _ (by rw [lc_len]; omega), List.set_append_right _ _ (by rw [lc_len]; omega), lc_len, Nat.sub_self, show j * 2 + 1 - j * 2 = 1 by omega]
      congr 1
      · exact lc_congr _ _ _ fun i hi => (if_neg (by omega)).symm
      · have : up f j u j = u := if_pos rfl
        rw [this]
        rfl
theorem Ir.set {w : World} {S g c n : Nat} {f : Nat → Lb} (h : Ir w S (.slice (some ⟨g, 0, none⟩) n c) n f) (j : Nat) (hj : j < n) (u : Lb) : Ir ((w.setCell ⟨g, j * 2, none⟩ (.string u.1)).setCell ⟨g, j * 2 + 1, none⟩ (.string u.2)) S (.slice (some ⟨g, 0, none⟩) n c) n (up f j u) := by
  unfold Ir
  rw [← lc_set f j u n hj]
  exact (World.ownsRow.stored (World.ownsRow.stored h (j * 2) (.string u.1)).1 (j * 2 + 1) (.string u.2)).1
theorem Ir.cells {w : World} {S g c n : Nat} {f : Nat → Lb} (h : Ir w S (.slice (some ⟨g, 0, none⟩) n c) n f) (j : Nat) (hj : j < n) : w.cell? ⟨g, j * 2, none⟩ = some (.string (f j).1) ∧ w.cell? ⟨g, j * 2 + 1, none⟩ = some (.string (f j).2) ∧ w.frozen? ⟨g, j * 2, none⟩ = false ∧ w.frozen? ⟨g, j * 2 + 1, none⟩ = false := by
  obtain ⟨a, c', e, im, _⟩ := h.iml
  cases e
  rcases im with h0 | ⟨g', o', e, _, hat⟩
  · omega
  · cases e
    have := hat j hj
    rw [Nat.zero_add] at this
    exact ⟨this.1, this.2, World.ownsRow.frozenAt h _, World.ownsRow.frozenAt h _⟩
theorem wpList_copy_run {P : Program} {ops : Array Oper} {rest : List Oper} {o : Oper} {a : Act} {w w' : World} {v' : Value} {Q : Exit → Act → World → Prop} (hw : Region.wanted o (yielded ops a.tmps) = true) (s x : Operand) (t tx : TypeId)
    (ho : o.op = .call { callee := .builtin .copy, args := #[s, x], argTypes := #[t, tx] }) (vs vx : Value) (hs : a.eval s = vs) (hx : a.eval x = vx)
    (hr : (Builtin.copy_ #[t, tx] o.type #[vs, vx]).run P w = .ok v' w') (h : wpList P ops Q rest (a.put o.dst v') w') : wpList P ops Q (o :: rest) a w := by
  unfold wpList
  rw [if_pos hw]
  left
  unfold Oper.wp execOp
  simp only [ho, resolve, invoke, builtin, Sem.run_bind, Sem.run_pure, Result.andThen_ok, List.map_toArray, List.map_cons, List.map_nil, hs, hx, hr]
  exact h
set_option maxRecDepth 100000 in
/-- A copy of things to the beginning of a row. -/
theorem copy_i (w : World) (S g L c n : Nat) (f xs : Nat → Lb) (a : Option Addr) (ca : Nat) (ty : TypeId) (o : Ir w S (.slice (some ⟨g, 0, none⟩) L c) L f) (hn : n ≤ L) (hx : Lm w a xs n) :
    ∃ w', (Builtin.copy_ #[22, 22] ty #[.slice (some ⟨g, 0, none⟩) L c, .slice a n ca]).run Tryd.prog w = .ok (goInt n) w' ∧ Ir w' S (.slice (some ⟨g, 0, none⟩) L c) L (fun j => if j < n then xs j else f j) ∧ w.grownBy w' (some g) := by
  obtain ⟨i0, hi, hz0, hz1, hz2⟩ := info_parts infL
  have hcs : ∀ ad, a = some ad → ∀ j v, (lc xs n)[j]? = some v → w.cell? (ad.add j) = some v := fun ad e j v hj => by
    rcases hx with h | ⟨g2, o2, e2, _, hat⟩
    · subst h; simp [lc] at hj
    · rw [e] at e2
      cases e2
      have hjl : j < n * 2 := by
        have := (List.getElem?_eq_some_iff.1 hj).1
        rwa [lc_len] at this
      rw [Go.WideShapes.add_plain]
      have e3 : j = (j / 2) * 2 + j % 2 := by omega
      rw [e3] at hj ⊢
      rw [lc_get xs n (j / 2) (j % 2) (by omega) (by omega)] at hj
      obtain ⟨q0, q1⟩ := hat (j / 2) (by omega)
      have : j % 2 = 0 ∨ j % 2 = 1 := by omega
      rcases this with h | h
      · rw [h] at hj ⊢
        simp [l2] at hj
        rw [← hj, Nat.add_zero]
        exact q0
      · rw [h] at hj ⊢
        simp [l2] at hj
        rw [← hj, ← Nat.add_assoc]
        exact q1
  rcases o.2 with ⟨h0, _⟩ | ⟨g', cap, cur, hv, hb, hgg, h1, h2, h3, h4⟩
  · cases h0
  · cases hv
    have hmin : Nat.min n L = n := Nat.min_eq_left hn
    have hfin : ∀ w', w' = w.setRow g (lc xs n ++ cur.toList.drop (n * 2)).toArray → Ir w' S (.slice (some ⟨g, 0, none⟩) L c) L (fun j => if j < n then xs j else f j) ∧ w.grownBy w' (some g) := fun w' e => by
      subst e
      refine ⟨⟨lc_len _ _, .inr ⟨g, c, _, rfl, hb, setRow_heap w g cur _ 26 _ hgg, h1, h2, ?_, ?_⟩⟩, ⟨rfl, rfl, rfl, by simp, fun k _ hk => setRow_other w g k _ (fun e => hk (by simp [e]))⟩⟩
      · simp only [List.size_toArray, List.length_append, lc_len, List.length_drop, Array.length_toList]
        have : n * 2 ≤ cur.size := by rw [h3]; omega
        omega
      · have e1 : lc (fun j => if j < n then xs j else f j) L = lc xs n ++ (lc f L).drop (n * 2) := by
          have hLn : L = n + (L - n) := by omega
          rw [hLn, lc_app, lc_app, lc_congr (fun j => if j < n then xs j else f j) xs n (fun j hj => if_pos hj), lc_congr (fun j => if n + j < n then xs (n + j) else f (n + j)) (fun j => f (n + j)) (L - n) (fun j _ => if_neg (by omega))]
          rw [List.drop_append_of_le_length (by rw [lc_len]; exact Nat.le_refl _), List.drop_of_length_le (by rw [lc_len]; exact Nat.le_refl _), List.nil_append]
        rw [e1, ← h4]
        rw [List.take_append, lc_len, List.take_of_length_le (by rw [lc_len]; omega)]
        congr 1
        rw [List.drop_take]
    cases a with
    | none =>
      have h0 : n = 0 := by
        rcases hx with h | ⟨_, _, e, _⟩
        · exact h
        · cases e
      subst h0
      refine ⟨w, ?_, ?_⟩
      · simp [Builtin.copy_, run_underlying Tryd.underlying22, Builtin.lenOf, Builtin.firstCells, sizeOf, typeInfo, hi, storeCells]
      · exact ⟨Ir.congr o (fun j _ => (if_neg (by omega)).symm), ⟨rfl, rfl, rfl, Nat.le_refl _, fun _ _ _ => rfl⟩⟩
    | some ad =>
      have hl := run_loadCells_list (P := Tryd.prog) w ad (lc xs n) (hcs ad rfl)
      have hst := run_storeCells_at Tryd.prog g 0 26 (lc xs n) 0 cur w hgg (by rw [lc_len, h3]; omega) (lc_one xs n)
      rw [lc_len] at hl hst
      refine ⟨_, ?_, hfin _ rfl⟩
      simp [Builtin.copy_, run_underlying Tryd.underlying22, Builtin.lenOf, Builtin.firstCells, sizeOf, typeInfo, hi, hz1, hmin, hl]
      have hst' : (storeCells ⟨g, 0, none⟩ (lc xs n)).run Tryd.prog w = .ok () (w.setRow g (lc xs n ++ cur.toList.drop (n * 2)).toArray) := by simpa using hst
      rw [hst']
      rfl
/-- A list as put lays it. -/
def pf (xs : Nat → Lb) (n j : Nat) : Lb := if j < n then xs j else tL
end Go.Proofs.YtjmninjaoemhjaaDoor.K
