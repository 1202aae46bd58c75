/- A bundle of texts. -/
import Derived.Test.YtmjenemjbpimcaaBk22
/- Rows of samples that a call makes. -/
namespace Go.Proofs.Ytmjenemjbpimcaa
open Go.RowKit

/-- Samples as cells. -/
def c3 (x : Smp) : List Value := [.int .i64 x.t, .float .f64 x.v, .bool x.s]
def smc (l : List Smp) : List Value := l.flatMap c3
theorem smc_snoc (l : List Smp) (x : Smp) : smc (l ++ [x]) = smc l ++ c3 x := by simp [smc]
theorem smc_get (l : List Smp) : ∀ (j : Nat) (x : Smp), l[j]? = some x → (smc l)[j * 3]? = some (.int .i64 x.t) ∧ (smc l)[j * 3 + 1]? = some (.float .f64 x.v) ∧ (smc l)[j * 3 + 2]? = some (.bool x.s) := by
  induction l with
  | nil => intro j x h; simp at h
  | cons y l ih =>
    intro j x h
    cases j with
    | zero =>
      cases h
      exact ⟨rfl, rfl, rfl⟩
    | succ j =>
      have := ih j x (by simpa using h)
      have e : ∀ k, (smc (y :: l))[k + 3]? = (smc l)[k]? := fun k => by
        show ([.int .i64 y.t, .float .f64 y.v, .bool y.s] ++ smc l : List Value)[k + 3]? = _
        simp
      rw [show (j + 1) * 3 = j * 3 + 3 by omega, show j * 3 + 3 + 1 = (j * 3 + 1) + 3 by omega, show j * 3 + 3 + 2 = (j * 3 + 2) + 3 by omega, e, e, e]
      exact this
theorem info37 : (Try.prog.info? 37).map (fun i => (i.zero, i.size, i.bytes)) = some (some (.agg #[.int .i64 0, .float .f64 0, .bool false]), 3, 24) := by kernel_rfl
/-- A row of samples of the call's own. -/
def Pr (w : World) (S : Nat) (v : Value) (l : List Smp) : Prop := w.ownsRow S 37 3 v l.length (smc l)
theorem Pr.below {w w' : World} {S : Nat} {v : Value} {l : List Smp} (h : Pr w S v l) (hb : Below w.heap.size w w') : Pr w' S v l := by
  refine ⟨h.1, ?_⟩
  rcases h.2 with h0 | ⟨g, cap, cur, hv, hB, hg, r⟩
  · exact .inl h0
  · exact .inr ⟨g, cap, cur, hv, hB, (hb.block g (Array.getElem?_eq_some_iff.1 hg).1).trans hg, r⟩
/-- .. as samples that a slice shows. -/
theorem Pr.sml {w : World} {S : Nat} {v : Value} {l : List Smp} (h : Pr w S v l) : ∃ a c, v = .slice a l.length c ∧ Sml w a (fun j => l.getD j ⟨0, 0, false⟩) l.length ∧ l.length ≤ c ∧ (∀ g o, a = some ⟨g, o, none⟩ → S ≤ g) := by
  have hc := fun g => h.cells (g := g)
  rcases h.2 with ⟨rfl, h0⟩ | ⟨g, c, cur, rfl, hS, hg, hle, _⟩
  · have hl : l = [] := List.eq_nil_of_length_eq_zero h0
    subst hl
    exact ⟨none, 0, rfl, .inl rfl, Nat.le_refl _, fun g o e => by cases e⟩
  · refine ⟨_, c, rfl, .inr ⟨g, 0, rfl, (Array.getElem?_eq_some_iff.1 hg).1, fun j hj => ?_⟩, ?_, fun g' o e => by cases e; exact hS⟩
    · obtain ⟨h1, h2, h3⟩ := smc_get l j (l.getD j ⟨0, 0, false⟩) (by simp [List.getD, hj])
      have k1 := hc g rfl _ _ h1
      have k2 := hc g rfl _ _ h2
      have k3 := hc g rfl _ _ h3
      rw [Go.WideShapes.add_plain, Nat.zero_add] at k1 k2 k3
      rw [Nat.zero_add]
      exact ⟨k1, k2, k3⟩
    · exact hle
theorem append_p (w : World) (S : Nat) (v : Value) (l : List Smp) (x : Smp) (hS : S ≤ w.heap.size) (hn : (l.length + 1) * 24 ≤ 140737488355328) (o : Pr w S v l) :
    ∃ v' w', (Builtin.append_ #[28, 28] 28 #[v, .slice (some ⟨w.heap.size, 0, none⟩) 1 1]).run Try.prog (w.alloc (cp x)) = .ok v' w' ∧ Pr w' S v' (l ++ [x]) ∧ Below S w w' := by
  obtain ⟨i0, hi, hz0, hz1, hz2⟩ := info_parts info37
  have o0 := World.ownsRow.alloc o (cp x)
  obtain ⟨v', w', r, o', g, _⟩ := run_append_own (P := Try.prog) (w.alloc (cp x)) S 28 28 37 i0 (.agg #[.int .i64 0, .float .f64 0, .bool false]) 3 24 Try.underlying28 hi hz0 hz1 hz2 rfl (by decide) _ l.length (smc l) o0 ⟨w.heap.size, 0, none⟩ 1 1 (c3 x) (by rfl)
    (fun j u hj => by
      rw [Go.WideShapes.add_plain, Nat.zero_add]
      unfold World.cell?
      rw [show (w.alloc (cp x)).heap[w.heap.size]? = some (cp x) from heap_alloc_new w _]
      simpa [c3] using hj) (by intro u hu; simp [c3] at hu; rcases hu with rfl | rfl | rfl <;> rfl) (by unfold maxLen; omega) hn (by simp; omega)
  refine ⟨v', w', r, ?_, ?_⟩
  · unfold Pr
    rw [List.length_append, smc_snoc]; exact o'
  · exact ((Below.refl S w).alloc hS _).grown g (by simp; omega) (fun k hk => (World.ownsRow.lt o k hk).1)
theorem make_p (w : World) (n : Nat) (hn : n * 24 ≤ 140737488355328) : ∃ w', (Instr.makeSlice 28 (.int .i64 0) (.int .i64 (n : Nat))).run Try.prog w = .ok (.slice (some ⟨w.heap.size, 0, none⟩) 0 n) w' ∧ Pr w' w.heap.size (.slice (some ⟨w.heap.size, 0, none⟩) 0 n) [] ∧ Below w.heap.size w w' ∧ w.heap.size < w'.heap.size := by
  obtain ⟨i0, hi, hz0, hz1, hz2⟩ := info_parts info37
  obtain ⟨w2, r2, o2, g2⟩ := run_make_own (P := Try.prog) w w.heap.size 28 37 i0 _ 3 Try.underlying28 hi hz0 hz1 .i64 .i64 n (by rw [hz2]; omega) (by unfold maxLen; omega) (Nat.le_refl _)
  refine ⟨w2, r2, o2, (Below.refl _ _).grown g2 (Nat.le_refl _) (fun k hk => by cases hk), ?_⟩
  rcases o2.2 with ⟨h, _⟩ | ⟨g, cap, cur, e, hg, hh, _⟩
  · cases h
  · cases e
    exact (Array.getElem?_eq_some_iff.1 hh).1
end Go.Proofs.Ytmjenemjbpimcaa
/- Over: a window copied, moved in time. -/
namespace Go.Proofs.Ytmjenemjbpimcaa
open Go.RowKit

/-- A point moved. -/
def mvS (d : Int) (x : Smp) : Smp := ⟨wrap64 (x.t + d), x.v, x.s⟩
def mvL (ss : Nat → Smp) (d : Int) (i : Nat) : List Smp := (List.range i).map fun j => mvS d (ss j)
theorem mvL_len (ss : Nat → Smp) (d : Int) (i : Nat) : (mvL ss d i).length = i := by simp [mvL]
theorem mvL_succ (ss : Nat → Smp) (d : Int) (i : Nat) : mvL ss d (i + 1) = mvL ss d i ++ [mvS d (ss i)] := by simp [mvL, List.range_succ]
theorem mvL_at (ss : Nat → Smp) (d : Int) (i j : Nat) (h : j < i) : (mvL ss d i).getD j ⟨0, 0, false⟩ = mvS d (ss j) := by simp [mvL, List.getD, h]
theorem res17 (cs : Array Value) (W : World) (g : Nat) (tmps : Array Value) (e2 : (loadVar 30 ⟨g, 0, none⟩).run Try.prog W = .ok (.agg cs) W) (h0 : tmps.getD 4 undef = .pointer (some ⟨g, 0, none⟩)) : (results Try.f17 tmps).run Try.prog W = .ok (.agg cs) W := by
  have hr : Try.f17.results = #[.cell 4 30] := rfl
  unfold results
  rw [hr]
  simp only [h0, Sem.run_bind, Sem.run_pure, List.mapM_toArray, List.mapM_cons, List.mapM_nil]
  have ea : (asAddr (.pointer (some ⟨g, 0, none⟩))).run Try.prog W = .ok ⟨g, 0, none⟩ W := rfl
  simp [ea, e2]

set_option maxHeartbeats 8000000 in
set_option maxRecDepth 100000 in
theorem copied_any (a : Option Addr) (n c : Nat) (F T N d : Int) (ss : Nat → Smp) (w : World) (hf : Sml w a ss n) (hl : 24 * n ≤ 140737488355328) :
    Calls Try.prog 17 #[Wn a n c F T N, .int .i64 d] w fun r w' => Below w.heap.size w w' ∧ ∃ a' c', r = .returned (Wn a' n c' (wrap64 (F + d)) (wrap64 (T + d)) (wrap64 (N + d))) ∧ n ≤ c' ∧ Sml w' a' (fun j => mvS d (ss j)) n ∧ (∀ g o, a' = some ⟨g, o, none⟩ → w.heap.size ≤ g) := by
  obtain ⟨rz, hrz⟩ : ∃ rz : Obj, rz = .cells #[.slice none 0 0, .int .i64 0, .int .i64 0, .int .i64 0] 30 := ⟨_, rfl⟩
  have hsz : ((w.alloc (wnX a n c F T N)).alloc (.cells #[.slice none 0 0, .int .i64 0, .int .i64 0, .int .i64 0] 30)).heap.size = w.heap.size + 2 := by simp
  obtain ⟨w1, r1, o1, b1, s1⟩ := make_p ((w.alloc (wnX a n c F T N)).alloc (.cells #[.slice none 0 0, .int .i64 0, .int .i64 0, .int .i64 0] 30)) n (by omega)
  have hrs : w1.heap[w.heap.size + 1]? = some (.cells #[.slice none 0 0, .int .i64 0, .int .i64 0, .int .i64 0] 30) := (b1.block (w.heap.size + 1) (by rw [hsz]; omega)).trans (heap_alloc_two w _ _)
  have bw : Below w.heap.size w ((w.alloc (wnX a n c F T N)).alloc (.cells #[.slice none 0 0, .int .i64 0, .int .i64 0, .int .i64 0] 30)) := ((Below.refl _ w).alloc (Nat.le_refl _) _).alloc (by simp) _
  have bx : Below (w.alloc (wnX a n c F T N)).heap.size (w.alloc (wnX a n c F T N)) ((w.alloc (wnX a n c F T N)).alloc (.cells #[.slice none 0 0, .int .i64 0, .int .i64 0, .int .i64 0] 30)) := (Below.refl _ _).alloc (Nat.le_refl _) _
  rw [hsz] at r1 o1 b1 s1
  have hw1 : w.heap.size + 2 ≤ w1.heap.size := by omega
  have HBW : Hid (∀ W, Below (w.heap.size + 2) w1 W → Below w.heap.size w W) := (show ∀ W, _ → _ from fun W b => bw.trans ((b1.mono (by omega)).trans (b.mono (by omega))))
  have HC : Hid (∀ W, Below (w.heap.size + 2) w1 W → WnC a n c F T N w.heap.size W) := (show ∀ W, _ → _ from fun W b => wnC_new a n c F T N w W (bx.trans ((b1.mono (by simp)).trans (b.mono (by simp)))))
  have HR : Hid (∀ W, Below (w.heap.size + 2) w1 W → W.heap[w.heap.size + 1]? = some (.cells #[.slice none 0 0, .int .i64 0, .int .i64 0, .int .i64 0] 30)) := (show ∀ W, _ → _ from fun W b => (b.block (w.heap.size + 1) (by omega)).trans hrs)
  have HSZ : Hid (∀ W, Below (w.heap.size + 2) w1 W → w.heap.size + 2 ≤ W.heap.size) := (show ∀ W, _ → _ from fun W b => Nat.le_trans hw1 b.size)
  have HF : Hid (Sml w a ss n) := hf
  have O1 : Hid (Pr w1 (w.heap.size + 2) (.slice (some ⟨w.heap.size + 2, 0, none⟩) 0 n) (mvL ss d 0)) := o1
  have B1 : Hid (Below (w.heap.size + 2) w1 w1) := Below.refl _ _
  have HL : Hid (24 * n ≤ 140737488355328) := hl
  have hsi := @run_store_int Try.prog
  have hsf := @run_store_float Try.prog
  clear hf hsz o1 b1 s1 hrs bw bx hw1 hrz rz hl
  go_enter Try.func17, Try.ntmps17
  go_wp2_with fail
  go_loopw [5, 6] (fun lv iv W => ∃ (i : Nat), iv = .int .i64 (i : Int) ∧ i ≤ n ∧ Hid (Pr W (w.heap.size + 2) lv (mvL ss d i)) ∧ Hid (Below (w.heap.size + 2) w1 W)) (fun _ iv _ => n - (RowKit.intOf iv).toNat)
  case atStart => exact ⟨0, rfl, by omega, O1, B1⟩
  case round =>
    obtain ⟨i, rfl, hi, o, hb⟩ := hrel
    obtain ⟨x0, x1, x2, x3⟩ := HC.out wr hb.out
    by_cases hlt : i < n
    · have hii : (i : Int) < (n : Int) := by omega
      rcases HF.out with h0 | ⟨g, o', rfl, hg, hat⟩
      · omega
      obtain ⟨f1, f2, f3⟩ := hat i hlt
      have q1 := bcell (HBW.out wr hb.out) f1 hg
      have q2 := bcell (HBW.out wr hb.out) f2 hg
      have q3 := bcell (HBW.out wr hb.out) f3 hg
      have HI : Hid (i + 1 ≤ n) := hlt
      have HV : Hid (mvL ss d (i + 1) = mvL ss d i ++ [mvS d (ss i)]) := mvL_succ ss d i
      have HLE : Hid ((mvL ss d i).length = i) := mvL_len ss d i
      clear f1 f2 f3 hat hg
      obtain ⟨u, hu⟩ : ∃ u, ss i = u := ⟨_, rfl⟩
      rw [hu] at q1 q2 q3 HV
      clear hu
      have n0 := cp_cell wr u 0 (.int .i64 u.t) rfl
      have e2 : (wr.alloc (cp (mvS d u))).heap.size = wr.heap.size + 1 := by simp
      have hgr : Below wr.heap.size wr (wr.alloc (cp (mvS d u))) := (Below.refl _ wr).alloc (Nat.le_refl _) _
      have hS2 := HSZ.out wr hb.out
      obtain ⟨v3, w3, r3, o3, b3⟩ := append_p (wr.alloc (cp (mvS d u))) (w.heap.size + 2) u5 (mvL ss d i) (mvS d u) (by omega) (by rw [HLE.out]; have := HL.out; omega) (o.out.below hgr)
      rw [e2] at r3
      dsimp only [cp, mvS] at r3
      have n9 : (n : Int) ≤ 9223372036854775807 := by have := HL.out; omega
      have O3 : Hid (Pr w3 (w.heap.size + 2) v3 (mvL ss d (i + 1))) := (show Pr _ _ _ _ by rw [HV.out]; exact o3)
      have B3 : Hid (Below (w.heap.size + 2) w1 w3) := (show Below _ _ _ from (hb.out.alloc hS2 _).trans b3)
      clear o3 b3 hgr hS2 e2
      go_wp2_with (at_builtin; refine wpList_append_run rfl (.tmp 29) (.tmp 31) 28 28 rfl _ _ rfl rfl r3 ?_)
      clear r3 n0 q1 q2 q3 o
      exact ⟨⟨i + 1, by go_num, HI.out, O3, B3⟩, by simp [RowKit.intOf]; omega⟩
    · have hii : ¬ (i : Int) < (n : Int) := by omega
      obtain rfl : i = n := by omega
      obtain ⟨a', c', rfl, hs, hle, hge⟩ := o.out.sml
      rw [mvL_len] at hs hle
      have HS : Hid (Sml wr a' (fun j => mvS d (ss j)) i) := (show Sml _ _ _ _ by
        rcases hs with h | ⟨g, o', e, hg, hat⟩
        · exact .inl h
        · refine .inr ⟨g, o', e, hg, fun j hj => ?_⟩
          have := hat j hj
          dsimp only at this
          rw [mvL_at ss d i j hj] at this
          exact this)
      have HLE : Hid (i ≤ c') := hle
      have HGE : Hid (∀ g o, a' = some ⟨g, o, none⟩ → w.heap.size + 2 ≤ g) := hge
      clear hs hle hge o
      rw [mvL_len]
      go_wp2_with (refine wpList_store_row rfl 30 _ _ rfl (w.heap.size + 1) #[.slice a' i c', .int .i64 (wrap64 (F + d)), .int .i64 (wrap64 (T + d)), .int .i64 (wrap64 (N + d))] rfl rfl 30 _ (HR.out wr hb.out) (by kernel_rfl) rfl (by kernel_rfl) ?_)
      refine bodyPost_ret (v := Wn a' i c' (wrap64 (F + d)) (wrap64 (T + d)) (wrap64 (N + d))) (res17 _ _ (w.heap.size + 1) _ (run_loadVar_row (P := Try.prog) _ (w.heap.size + 1) 30 30 _ (0, 0) _ (setRow_heap _ _ _ _ _ _ (HR.out wr hb.out)) Try.underlying30 rfl (by kernel_rfl)) rfl) rfl ⟨below_setRow (HBW.out wr hb.out) (by omega) _, a', c', rfl, HLE.out, ?_, fun g o e => by have := HGE.out g o e; omega⟩
      rcases HS.out with h | ⟨g, o', e, hg, hat⟩
      · exact .inl h
      · have hgg := HGE.out g o' e
        refine .inr ⟨g, o', e, by simpa using hg, fun j hj => ?_⟩
        rw [cell_setRow_other _ _ _ _ (by show g ≠ _; omega), cell_setRow_other _ _ _ _ (by show g ≠ _; omega), cell_setRow_other _ _ _ _ (by show g ≠ _; omega)]
        exact hat j hj
end Go.Proofs.Ytmjenemjbpimcaa
/- OverKeeps: rows of the call's own. -/
namespace Go.Proofs.Ytmjenemjbpimcaa
open Go.RowKit

set_option maxHeartbeats 8000000 in
set_option maxRecDepth 100000 in
theorem copied_own (a : Option Addr) (n c : Nat) (F T N d : Int) (ss : Nat → Smp) (w : World) (hf : Sml w a ss n) (hl : 24 * n ≤ 140737488355328) :
    Calls Try.prog 17 #[Wn a n c F T N, .int .i64 d] w fun r w' => Below w.heap.size w w' ∧ ∃ a' c', r = .returned (Wn a' n c' (wrap64 (F + d)) (wrap64 (T + d)) (wrap64 (N + d))) ∧ n ≤ c' ∧ Pr w' w.heap.size (.slice a' n c') (mvL ss d n) := by
  obtain ⟨rz, hrz⟩ : ∃ rz : Obj, rz = .cells #[.slice none 0 0, .int .i64 0, .int .i64 0, .int .i64 0] 30 := ⟨_, rfl⟩
  have hsz : ((w.alloc (wnX a n c F T N)).alloc (.cells #[.slice none 0 0, .int .i64 0, .int .i64 0, .int .i64 0] 30)).heap.size = w.heap.size + 2 := by simp
  obtain ⟨w1, r1, o1, b1, s1⟩ := make_p ((w.alloc (wnX a n c F T N)).alloc (.cells #[.slice none 0 0, .int .i64 0, .int .i64 0, .int .i64 0] 30)) n (by omega)
  have hrs : w1.heap[w.heap.size + 1]? = some (.cells #[.slice none 0 0, .int .i64 0, .int .i64 0, .int .i64 0] 30) := (b1.block (w.heap.size + 1) (by rw [hsz]; omega)).trans (heap_alloc_two w _ _)
  have bw : Below w.heap.size w ((w.alloc (wnX a n c F T N)).alloc (.cells #[.slice none 0 0, .int .i64 0, .int .i64 0, .int .i64 0] 30)) := ((Below.refl _ w).alloc (Nat.le_refl _) _).alloc (by simp) _
  have bx : Below (w.alloc (wnX a n c F T N)).heap.size (w.alloc (wnX a n c F T N)) ((w.alloc (wnX a n c F T N)).alloc (.cells #[.slice none 0 0, .int .i64 0, .int .i64 0, .int .i64 0] 30)) := (Below.refl _ _).alloc (Nat.le_refl _) _
  rw [hsz] at r1 o1 b1 s1
  have hw1 : w.heap.size + 2 ≤ w1.heap.size := by omega
  have HBW : Hid (∀ W, Below (w.heap.size + 2) w1 W → Below w.heap.size w W) := (show ∀ W, _ → _ from fun W b => bw.trans ((b1.mono (by omega)).trans (b.mono (by omega))))
  have HC : Hid (∀ W, Below (w.heap.size + 2) w1 W → WnC a n c F T N w.heap.size W) := (show ∀ W, _ → _ from fun W b => wnC_new a n c F T N w W (bx.trans ((b1.mono (by simp)).trans (b.mono (by simp)))))
  have HR : Hid (∀ W, Below (w.heap.size + 2) w1 W → W.heap[w.heap.size + 1]? = some (.cells #[.slice none 0 0, .int .i64 0, .int .i64 0, .int .i64 0] 30)) := (show ∀ W, _ → _ from fun W b => (b.block (w.heap.size + 1) (by omega)).trans hrs)
  have HSZ : Hid (∀ W, Below (w.heap.size + 2) w1 W → w.heap.size + 2 ≤ W.heap.size) := (show ∀ W, _ → _ from fun W b => Nat.le_trans hw1 b.size)
  have HF : Hid (Sml w a ss n) := hf
  have O1 : Hid (Pr w1 (w.heap.size + 2) (.slice (some ⟨w.heap.size + 2, 0, none⟩) 0 n) (mvL ss d 0)) := o1
  have B1 : Hid (Below (w.heap.size + 2) w1 w1) := Below.refl _ _
  have HL : Hid (24 * n ≤ 140737488355328) := hl
  have hsi := @run_store_int Try.prog
  have hsf := @run_store_float Try.prog
  clear hf hsz o1 b1 s1 hrs bw bx hw1 hrz rz hl
  go_enter Try.func17, Try.ntmps17
  go_wp2_with fail
  go_loopw [5, 6] (fun lv iv W => ∃ (i : Nat), iv = .int .i64 (i : Int) ∧ i ≤ n ∧ Hid (Pr W (w.heap.size + 2) lv (mvL ss d i)) ∧ Hid (Below (w.heap.size + 2) w1 W)) (fun _ iv _ => n - (RowKit.intOf iv).toNat)
  case atStart => exact ⟨0, rfl, by omega, O1, B1⟩
  case round =>
    obtain ⟨i, rfl, hi, o, hb⟩ := hrel
    obtain ⟨x0, x1, x2, x3⟩ := HC.out wr hb.out
    by_cases hlt : i < n
    · have hii : (i : Int) < (n : Int) := by omega
      rcases HF.out with h0 | ⟨g, o', rfl, hg, hat⟩
      · omega
      obtain ⟨f1, f2, f3⟩ := hat i hlt
      have q1 := bcell (HBW.out wr hb.out) f1 hg
      have q2 := bcell (HBW.out wr hb.out) f2 hg
      have q3 := bcell (HBW.out wr hb.out) f3 hg
      have HI : Hid (i + 1 ≤ n) := hlt
      have HV : Hid (mvL ss d (i + 1) = mvL ss d i ++ [mvS d (ss i)]) := mvL_succ ss d i
      have HLE : Hid ((mvL ss d i).length = i) := mvL_len ss d i
      clear f1 f2 f3 hat hg
      obtain ⟨u, hu⟩ : ∃ u, ss i = u := ⟨_, rfl⟩
      rw [hu] at q1 q2 q3 HV
      clear hu
      have n0 := cp_cell wr u 0 (.int .i64 u.t) rfl
      have e2 : (wr.alloc (cp (mvS d u))).heap.size = wr.heap.size + 1 := by simp
      have hgr : Below wr.heap.size wr (wr.alloc (cp (mvS d u))) := (Below.refl _ wr).alloc (Nat.le_refl _) _
      have hS2 := HSZ.out wr hb.out
      obtain ⟨v3, w3, r3, o3, b3⟩ := append_p (wr.alloc (cp (mvS d u))) (w.heap.size + 2) u5 (mvL ss d i) (mvS d u) (by omega) (by rw [HLE.out]; have := HL.out; omega) (o.out.below hgr)
      rw [e2] at r3
      dsimp only [cp, mvS] at r3
      have n9 : (n : Int) ≤ 9223372036854775807 := by have := HL.out; omega
      have O3 : Hid (Pr w3 (w.heap.size + 2) v3 (mvL ss d (i + 1))) := (show Pr _ _ _ _ by rw [HV.out]; exact o3)
      have B3 : Hid (Below (w.heap.size + 2) w1 w3) := (show Below _ _ _ from (hb.out.alloc hS2 _).trans b3)
      clear o3 b3 hgr hS2 e2
      go_wp2_with (at_builtin; refine wpList_append_run rfl (.tmp 29) (.tmp 31) 28 28 rfl _ _ rfl rfl r3 ?_)
      clear r3 n0 q1 q2 q3 o
      exact ⟨⟨i + 1, by go_num, HI.out, O3, B3⟩, by simp [RowKit.intOf]; omega⟩
    · have hii : ¬ (i : Int) < (n : Int) := by omega
      obtain rfl : i = n := by omega
      obtain ⟨a', c', rfl, hs, hle, hge⟩ := o.out.sml
      rw [mvL_len] at hle
      have HLE : Hid (i ≤ c') := hle
      have HGE : Hid (∀ g o, a' = some ⟨g, o, none⟩ → w.heap.size + 2 ≤ g) := hge
      have HO : Hid (Pr wr (w.heap.size + 2) (.slice a' i c') (mvL ss d i)) := (show Pr _ _ _ _ by have h := o.out; rw [mvL_len] at h; exact h)
      clear hs hle hge o
      rw [mvL_len]
      go_wp2_with (refine wpList_store_row rfl 30 _ _ rfl (w.heap.size + 1) #[.slice a' i c', .int .i64 (wrap64 (F + d)), .int .i64 (wrap64 (T + d)), .int .i64 (wrap64 (N + d))] rfl rfl 30 _ (HR.out wr hb.out) (by kernel_rfl) rfl (by kernel_rfl) ?_)
      refine bodyPost_ret (v := Wn a' i c' (wrap64 (F + d)) (wrap64 (T + d)) (wrap64 (N + d))) (res17 _ _ (w.heap.size + 1) _ (run_loadVar_row (P := Try.prog) _ (w.heap.size + 1) 30 30 _ (0, 0) _ (setRow_heap _ _ _ _ _ _ (HR.out wr hb.out)) Try.underlying30 rfl (by kernel_rfl)) rfl) rfl ⟨below_setRow (HBW.out wr hb.out) (by omega) _, a', c', rfl, HLE.out, ?_⟩
      have h := HO.out
      refine ⟨h.1, ?_⟩
      rcases h.2 with h0 | ⟨g, cap, cur, hv, hB, hg, r⟩
      · exact .inl h0
      · exact .inr ⟨g, cap, cur, hv, by omega, (setRow_other _ _ _ _ (by omega)).trans hg, r⟩

/-- Two samples behind a row. -/
abbrev cp2 (x y : Smp) : Obj := .cells #[.int .i64 x.t, .float .f64 x.v, .bool x.s, .int .i64 y.t, .float .f64 y.v, .bool y.s] 37
theorem append_pp (w : World) (S : Nat) (v : Value) (l : List Smp) (x y : Smp) (hS : S ≤ w.heap.size) (hn : (l.length + 2) * 24 ≤ 140737488355328) (o : Pr w S v l) :
    ∃ v' w', (Builtin.append_ #[28, 28] 28 #[v, .slice (some ⟨w.heap.size, 0, none⟩) 2 2]).run Try.prog (w.alloc (cp2 x y)) = .ok v' w' ∧ Pr w' S v' (l ++ [x, y]) ∧ Below S w w' ∧ (∀ k, k < w.heap.size → v.ownBlock ≠ some k → w'.heap[k]? = w.heap[k]?) := by
  obtain ⟨i0, hi, hz0, hz1, hz2⟩ := info_parts info37
  have o0 := World.ownsRow.alloc o (cp2 x y)
  obtain ⟨v', w', r, o', g, _⟩ := run_append_own (P := Try.prog) (w.alloc (cp2 x y)) S 28 28 37 i0 (.agg #[.int .i64 0, .float .f64 0, .bool false]) 3 24 Try.underlying28 hi hz0 hz1 hz2 rfl (by decide) _ l.length (smc l) o0 ⟨w.heap.size, 0, none⟩ 2 2 (c3 x ++ c3 y) (by rfl)
    (fun j u hj => by
      rw [Go.WideShapes.add_plain, Nat.zero_add]
      unfold World.cell?
      rw [show (w.alloc (cp2 x y)).heap[w.heap.size]? = some (cp2 x y) from heap_alloc_new w _]
      simpa [c3] using hj) (by intro u hu; simp [c3] at hu; rcases hu with rfl | rfl | rfl | rfl | rfl | rfl <;> rfl) (by unfold maxLen; omega) hn (by simp; omega)
  refine ⟨v', w', r, ?_, ?_⟩
  · unfold Pr
    rw [List.length_append, show smc (l ++ [x, y]) = smc l ++ (c3 x ++ c3 y) by simp [smc]]; exact o'
  · refine ⟨((Below.refl S w).alloc hS _).grown g (by simp; omega) (fun k hk => (World.ownsRow.lt o k hk).1), fun k hk hne => ?_⟩
    exact (g.block k (by simp; omega) (fun e => hne e.symm)).trans (Below.heap_alloc w _ k hk)
/-- Two floats behind a row. -/
theorem append_ff (w : World) (S : Nat) (v : Value) (ys : List Nat) (x y : Nat) (hS : S ≤ w.heap.size) (hn : (ys.length + 2) * 8 ≤ 140737488355328) (o : Fr w S v ys) :
    ∃ v' w', (Builtin.append_ #[32, 32] 32 #[v, .slice (some ⟨w.heap.size, 0, none⟩) 2 2]).run Try.prog (w.alloc (.cells #[.float .f64 x, .float .f64 y] 25)) = .ok v' w' ∧ Fr w' S v' (ys ++ [x, y]) ∧ Below S w w' := by
  obtain ⟨i0, hi, hz0, hz1, hz2⟩ := info_parts info23
  have o0 := World.ownsRow.alloc o (.cells #[.float .f64 x, .float .f64 y] 25)
  obtain ⟨v', w', r, o', g, _⟩ := run_append_own (P := Try.prog) (w.alloc (.cells #[.float .f64 x, .float .f64 y] 25)) S 32 32 25 i0 (.float .f64 0) 1 8 Try.underlying32 hi hz0 hz1 hz2 rfl (by decide) _ ys.length (fc ys) o0 ⟨w.heap.size, 0, none⟩ 2 2 [.float .f64 x, .float .f64 y] (by simp)
    (fun j u hj => by
      rw [Go.WideShapes.add_plain, Nat.zero_add]
      unfold World.cell?
      rw [show (w.alloc (.cells #[.float .f64 x, .float .f64 y] 25)).heap[w.heap.size]? = some (.cells #[.float .f64 x, .float .f64 y] 25) from heap_alloc_new w _]
      simpa using hj) (by intro u hu; simp at hu; rcases hu with rfl | rfl <;> rfl) (by unfold maxLen; omega) hn (by simp; omega)
  refine ⟨v', w', r, ?_, ?_⟩
  · unfold Fr
    rw [List.length_append, fc_app]; exact o'
  · exact ((Below.refl S w).alloc hS _).grown g (by simp; omega) (fun k hk => (World.ownsRow.lt o k hk).1)
theorem fr_new1 (w : World) (a : Nat) : Fr (w.alloc (.cells #[.float .f64 a] 25)) w.heap.size (.slice (some ⟨w.heap.size, 0, none⟩) 1 1) [a] :=
  ⟨rfl, .inr ⟨w.heap.size, 1, _, rfl, Nat.le_refl _, heap_alloc_new w _, Nat.le_refl _, by decide, rfl, rfl⟩⟩
theorem fr_new2 (w : World) (a b : Nat) : Fr (w.alloc (.cells #[.float .f64 a, .float .f64 b] 25)) w.heap.size (.slice (some ⟨w.heap.size, 0, none⟩) 2 2) [a, b] :=
  ⟨rfl, .inr ⟨w.heap.size, 2, _, rfl, Nat.le_refl _, heap_alloc_new w _, Nat.le_refl _, by decide, rfl, rfl⟩⟩
set_option maxHeartbeats 4000000 in
set_option maxRecDepth 100000 in
theorem numbers_own (k : Nat) (hk : k < 23) (nm : ByteArray) (hnm : nm = (fnAt k).1) (a b : Nat) (w : World) : Calls Try.prog 16 #[.string nm, .float .f64 a, .float .f64 b] w fun r w' => Below w.heap.size w w' ∧ ∃ aa ca, r = .returned (.slice aa (fnAt k).2.1 ca) ∧ Fr w' w.heap.size (.slice aa (fnAt k).2.1 ca) (nums k a b) := by
  have hb0 := Below.refl w.heap.size w
  have hq := nm_q k hk
  rw [← hnm] at hq
  have hq9 : (fnAt k).2.1 = 0 ∨ (fnAt k).2.1 = 1 ∨ (fnAt k).2.1 = 2 := (show ∀ k, k < 23 → (fnAt k).2.1 = 0 ∨ (fnAt k).2.1 = 1 ∨ (fnAt k).2.1 = 2 by decide +kernel) k hk
  have HN : Hid (nums k a b = if (fnAt k).2.1 = 1 then [a] else if (fnAt k).2.1 = 2 then [a, b] else []) := rfl
  generalize nums k a b = L at *
  generalize (fnAt k).2.1 = sc at *
  obtain ⟨c1, e1, t1⟩ := eqB nm q1 [113, 117, 97, 110, 116, 105, 108, 101, 95, 111, 118, 101, 114, 95, 116, 105, 109, 101] (by rw [Lib.toList_data]; rfl)
  obtain ⟨c2, e2, t2⟩ := eqB nm q2 [112, 114, 101, 100, 105, 99, 116, 95, 108, 105, 110, 101, 97, 114] (by rw [Lib.toList_data]; rfl)
  obtain ⟨c3, e3, t3⟩ := eqB nm q3 [98, 101, 97, 116, 95, 111, 118, 101, 114, 95, 116, 105, 109, 101] (by rw [Lib.toList_data]; rfl)
  obtain ⟨c4, e4, t4⟩ := eqB nm q4 [100, 111, 117, 98, 108, 101, 95, 101, 120, 112, 111, 110, 101, 110, 116, 105, 97, 108, 95, 115, 109, 111, 111, 116, 104, 105, 110, 103] (by rw [Lib.toList_data]; rfl)
  rw [← t1, ← t2, ← t3, ← t4] at hq
  have H1 : Hid (∀ (w : World), sc = 1 → Fr (w.alloc (.cells #[.float .f64 a] 25)) w.heap.size (.slice (some ⟨w.heap.size, 0, none⟩) sc 1) L) := (show ∀ w, _ → _ from fun w h => by rw [HN.out, if_pos h, h]; exact fr_new1 w a)
  have H2 : Hid (∀ (w : World), sc = 2 → Fr (w.alloc (.cells #[.float .f64 a, .float .f64 b] 25)) w.heap.size (.slice (some ⟨w.heap.size, 0, none⟩) sc 2) L) := (show ∀ w, _ → _ from fun w h => by rw [HN.out, if_neg (by omega), if_pos h, h]; exact fr_new2 w a b)
  have H0 : Hid (∀ (w : World), sc = 0 → Fr w w.heap.size (.slice none sc 0) L) := (show ∀ w, _ → _ from fun w h => by rw [HN.out, if_neg (by omega), if_neg (by omega), h]; exact Fr.nil w _)
  clear HN t1 t2 t3 t4 hnm hk
  obtain ⟨h1, h2, h3⟩ := hq
  have HQ1 : Hid (sc = 1 ↔ c1 = true ∨ c2 = true ∨ c3 = true) := h1
  have HQ2 : Hid (sc = 2 ↔ c4 = true) := h2
  have HQ9 : Hid (sc = 0 ∨ sc = 1 ∨ sc = 2) := hq9
  clear h1 h2 h3 hq9
  have fin1 : Hid (sc = 1 → ∃ aa ca, (Ending.returned (.slice (some ⟨w.heap.size, 0, none⟩) 1 1) = .returned (.slice aa sc ca)) ∧ Fr (w.alloc (.cells #[.float .f64 a] 25)) w.heap.size (.slice aa sc ca) L) := fun h => ⟨_, 1, by rw [h], H1.out w h⟩
  have fin2 : Hid (sc = 2 → ∃ aa ca, (Ending.returned (.slice (some ⟨w.heap.size, 0, none⟩) 2 2) = .returned (.slice aa sc ca)) ∧ Fr (w.alloc (.cells #[.float .f64 a, .float .f64 b] 25)) w.heap.size (.slice aa sc ca) L) := fun h => ⟨_, 2, by rw [h], H2.out w h⟩
  have fin0 : Hid (sc = 0 → ∃ aa ca, (Ending.returned (.slice none 0 0) = .returned (.slice aa sc ca)) ∧ Fr w w.heap.size (.slice aa sc ca) L) := fun h => ⟨none, 0, by rw [h], H0.out w h⟩
  have B1 : Hid (∀ o, Below w.heap.size w (w.alloc o)) := fun o => hb0.alloc (Nat.le_refl _) o
  clear H0 H1 H2
  cases c1
  · cases c2
    · cases c3
      · cases c4
        · have hs : sc = 0 := by
            rcases HQ9.out with h | h | h
            · exact h
            · have := HQ1.out.1 h; simp at this
            · have := HQ2.out.1 h; cases this
          have F : Hid _ := fin0.out hs
          clear fin0 fin1 fin2 hs
          go_enter Try.func16, Try.ntmps16
          go_wp2
          go_ret
          exact ⟨hb0, F.out⟩
        · have F : Hid _ := fin2.out (HQ2.out.2 rfl)
          clear fin0 fin1 fin2
          go_enter Try.func16, Try.ntmps16
          go_wp2
          go_ret
          exact ⟨B1.out _, F.out⟩
      · have F : Hid _ := fin1.out (HQ1.out.2 (by simp))
        clear fin0 fin1 fin2
        go_enter Try.func16, Try.ntmps16
        go_wp2
        go_ret
        exact ⟨B1.out _, F.out⟩
    · have F : Hid _ := fin1.out (HQ1.out.2 (by simp))
      clear fin0 fin1 fin2
      go_enter Try.func16, Try.ntmps16
      go_wp2
      go_ret
      exact ⟨B1.out _, F.out⟩
  · have F : Hid _ := fin1.out (HQ1.out.2 (by simp))
    clear fin0 fin1 fin2
    go_enter Try.func16, Try.ntmps16
    go_wp2
    go_ret
    exact ⟨B1.out _, F.out⟩
end Go.Proofs.Ytmjenemjbpimcaa
