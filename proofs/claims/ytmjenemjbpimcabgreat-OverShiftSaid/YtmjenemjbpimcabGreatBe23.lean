/- A bundle of texts. -/
import Derived.Test.YtmjenemjbpimcabGreatBe22
import Derived.Test.YtmjenemjbpimcabGreatBe21
/- Rows of samples that a call makes. -/
namespace Go.Proofs.YtmjenemjbpimcabGreat
open Go.RowKit

/-- Samples as cells. -/
def c3 (x : Smp) : List Value := [.int .i64 x.t, .float .f64 x.v, .bool x.s]
def smc (l : List Smp) : List Value := l.flatMap c3
theorem smc_snoc (l : List Smp) (x : Smp) : smc (l ++ [x]) = smc l ++ c3 x := by simp [smc]
theorem smc_get (l : List Smp) : ∀ (j : Nat) (x : Smp), l[j]? = some x → (smc l)[j * 3]? = some (.int .i64 x.t) ∧ (smc l)[j * 3 + 1]? = some (.float .f64 x.v) ∧ (smc l)[j * 3 + 2]? = some (.bool x.s) := by
  induction l with
  | nil => intro j x h; simp at h
  | cons y l ih =>
    intro j x h
    cases j with
    | zero =>
      cases h
      exact ⟨rfl, rfl, rfl⟩
    | succ j =>
      have := ih j x (by simpa using h)
      have e : ∀ k, (smc (y :: l))[k + 3]? = (smc l)[k]? := fun k => by
        show ([.int .i64 y.t, .float .f64 y.v, .bool y.s] ++ smc l : List Value)[k + 3]? = _
        simp
      rw [show (j + 1) * 3 = j * 3 + 3 by omega, show j * 3 + 3 + 1 = (j * 3 + 1) + 3 by omega, show j * 3 + 3 + 2 = (j * 3 + 2) + 3 by omega, e, e, e]
      exact this
theorem info37 : (Tryz.prog.info? 43).map (fun i => (i.zero, i.size, i.bytes)) = some (some (.agg #[.int .i64 0, .float .f64 0, .bool false]), 3, 24) := by kernel_rfl
/-- A row of samples of the call's own. -/
def Pr (w : World) (S : Nat) (v : Value) (l : List Smp) : Prop := w.ownsRow S 43 3 v l.length (smc l)
theorem Pr.below {w w' : World} {S : Nat} {v : Value} {l : List Smp} (h : Pr w S v l) (hb : Below w.heap.size w w') : Pr w' S v l := by
  refine ⟨h.1, ?_⟩
  rcases h.2 with h0 | ⟨g, cap, cur, hv, hB, hg, r⟩
  · exact .inl h0
  · exact .inr ⟨g, cap, cur, hv, hB, (hb.block g (Array.getElem?_eq_some_iff.1 hg).1).trans hg, r⟩
/-- .. as samples that a slice shows. -/
theorem Pr.sml {w : World} {S : Nat} {v : Value} {l : List Smp} (h : Pr w S v l) : ∃ a c, v = .slice a l.length c ∧ Sml w a (fun j => l.getD j ⟨0, 0, false⟩) l.length ∧ l.length ≤ c ∧ (∀ g o, a = some ⟨g, o, none⟩ → S ≤ g) := by
  have hc := fun g => h.cells (g := g)
  rcases h.2 with ⟨rfl, h0⟩ | ⟨g, c, cur, rfl, hS, hg, hle, _⟩
  · have hl : l = [] := List.eq_nil_of_length_eq_zero h0
    subst hl
    exact ⟨none, 0, rfl, .inl rfl, Nat.le_refl _, fun g o e => by cases e⟩
  · refine ⟨_, c, rfl, .inr ⟨g, 0, rfl, (Array.getElem?_eq_some_iff.1 hg).1, fun j hj => ?_⟩, ?_, fun g' o e => by cases e; exact hS⟩
    · obtain ⟨h1, h2, h3⟩ := smc_get l j (l.getD j ⟨0, 0, false⟩) (by simp [List.getD, hj])
      have k1 := hc g rfl _ _ h1
      have k2 := hc g rfl _ _ h2
      have k3 := hc g rfl _ _ h3
      rw [Go.WideShapes.add_plain, Nat.zero_add] at k1 k2 k3
      rw [Nat.zero_add]
      exact ⟨k1, k2, k3⟩
    · exact hle
theorem append_p (w : World) (S : Nat) (v : Value) (l : List Smp) (x : Smp) (hS : S ≤ w.heap.size) (hn : (l.length + 1) * 24 ≤ 140737488355328) (o : Pr w S v l) :
    ∃ v' w', (Builtin.append_ #[22, 22] 22 #[v, .slice (some ⟨w.heap.size, 0, none⟩) 1 1]).run Tryz.prog (w.alloc (cp x)) = .ok v' w' ∧ Pr w' S v' (l ++ [x]) ∧ Below S w w' := by
  obtain ⟨i0, hi, hz0, hz1, hz2⟩ := info_parts info37
  have o0 := World.ownsRow.alloc o (cp x)
  obtain ⟨v', w', r, o', g, _⟩ := run_append_own (P := Tryz.prog) (w.alloc (cp x)) S 22 22 43 i0 (.agg #[.int .i64 0, .float .f64 0, .bool false]) 3 24 Tryz.underlying22 hi hz0 hz1 hz2 rfl (by decide) _ l.length (smc l) o0 ⟨w.heap.size, 0, none⟩ 1 1 (c3 x) (by rfl)
    (fun j u hj => by
      rw [Go.WideShapes.add_plain, Nat.zero_add]
      unfold World.cell?
      rw [show (w.alloc (cp x)).heap[w.heap.size]? = some (cp x) from heap_alloc_new w _]
      simpa [c3] using hj) (by intro u hu; simp [c3] at hu; rcases hu with rfl | rfl | rfl <;> rfl) (by unfold maxLen; omega) hn (by simp; omega)
  refine ⟨v', w', r, ?_, ?_⟩
  · unfold Pr
    rw [List.length_append, smc_snoc]; exact o'
  · exact ((Below.refl S w).alloc hS _).grown g (by simp; omega) (fun k hk => (World.ownsRow.lt o k hk).1)
theorem make_p (w : World) (n : Nat) (hn : n * 24 ≤ 140737488355328) : ∃ w', (Instr.makeSlice 22 (.int .i64 0) (.int .i64 (n : Nat))).run Tryz.prog w = .ok (.slice (some ⟨w.heap.size, 0, none⟩) 0 n) w' ∧ Pr w' w.heap.size (.slice (some ⟨w.heap.size, 0, none⟩) 0 n) [] ∧ Below w.heap.size w w' ∧ w.heap.size < w'.heap.size := by
  obtain ⟨i0, hi, hz0, hz1, hz2⟩ := info_parts info37
  obtain ⟨w2, r2, o2, g2⟩ := run_make_own (P := Tryz.prog) w w.heap.size 22 43 i0 _ 3 Tryz.underlying22 hi hz0 hz1 .i64 .i64 n (by rw [hz2]; omega) (by unfold maxLen; omega) (Nat.le_refl _)
  refine ⟨w2, r2, o2, (Below.refl _ _).grown g2 (Nat.le_refl _) (fun k hk => by cases hk), ?_⟩
  rcases o2.2 with ⟨h, _⟩ | ⟨g, cap, cur, e, hg, hh, _⟩
  · cases h
  · cases e
    exact (Array.getElem?_eq_some_iff.1 hh).1
end Go.Proofs.YtmjenemjbpimcabGreat
/- Over: a window copied, moved in time. -/
namespace Go.Proofs.YtmjenemjbpimcabGreat
open Go.RowKit

/-- A point moved. -/
def mvS (d : Int) (x : Smp) : Smp := ⟨wrap64 (x.t + d), x.v, x.s⟩
def mvL (ss : Nat → Smp) (d : Int) (i : Nat) : List Smp := (List.range i).map fun j => mvS d (ss j)
theorem mvL_len (ss : Nat → Smp) (d : Int) (i : Nat) : (mvL ss d i).length = i := by simp [mvL]
theorem mvL_succ (ss : Nat → Smp) (d : Int) (i : Nat) : mvL ss d (i + 1) = mvL ss d i ++ [mvS d (ss i)] := by simp [mvL, List.range_succ]
theorem mvL_at (ss : Nat → Smp) (d : Int) (i j : Nat) (h : j < i) : (mvL ss d i).getD j ⟨0, 0, false⟩ = mvS d (ss j) := by simp [mvL, List.getD, h]
theorem res17 (cs : Array Value) (W : World) (g : Nat) (tmps : Array Value) (e2 : (loadVar 24 ⟨g, 0, none⟩).run Tryz.prog W = .ok (.agg cs) W) (h0 : tmps.getD 4 undef = .pointer (some ⟨g, 0, none⟩)) : (results Tryz.f7 tmps).run Tryz.prog W = .ok (.agg cs) W := by
  have hr : Tryz.f7.results = #[.cell 4 24] := rfl
  unfold results
  rw [hr]
  simp only [h0, Sem.run_bind, Sem.run_pure, List.mapM_toArray, List.mapM_cons, List.mapM_nil]
  have ea : (asAddr (.pointer (some ⟨g, 0, none⟩))).run Tryz.prog W = .ok ⟨g, 0, none⟩ W := rfl
  simp [ea, e2]

set_option maxHeartbeats 8000000 in
set_option maxRecDepth 100000 in
theorem copied_any (a : Option Addr) (n c : Nat) (F T N d : Int) (ss : Nat → Smp) (w : World) (hf : Sml w a ss n) (hl : 24 * n ≤ 140737488355328) :
    Calls Tryz.prog 7 #[Wn a n c F T N, .int .i64 d] w fun r w' => Below w.heap.size w w' ∧ ∃ a' c', r = .returned (Wn a' n c' (wrap64 (F + d)) (wrap64 (T + d)) (wrap64 (N + d))) ∧ n ≤ c' ∧ Sml w' a' (fun j => mvS d (ss j)) n ∧ (∀ g o, a' = some ⟨g, o, none⟩ → w.heap.size ≤ g) := by
  obtain ⟨rz, hrz⟩ : ∃ rz : Obj, rz = .cells #[.slice none 0 0, .int .i64 0, .int .i64 0, .int .i64 0] 24 := ⟨_, rfl⟩
  have hsz : ((w.alloc (wnX a n c F T N)).alloc (.cells #[.slice none 0 0, .int .i64 0, .int .i64 0, .int .i64 0] 24)).heap.size = w.heap.size + 2 := by simp
  obtain ⟨w1, r1, o1, b1, s1⟩ := make_p ((w.alloc (wnX a n c F T N)).alloc (.cells #[.slice none 0 0, .int .i64 0, .int .i64 0, .int .i64 0] 24)) n (by omega)
  have hrs : w1.heap[w.heap.size + 1]? = some (.cells #[.slice none 0 0, .int .i64 0, .int .i64 0, .int .i64 0] 24) := (b1.block (w.heap.size + 1) (by rw [hsz]; omega)).trans (heap_alloc_two w _ _)
  have bw : Below w.heap.size w ((w.alloc (wnX a n c F T N)).alloc (.cells #[.slice none 0 0, .int .i64 0, .int .i64 0, .int .i64 0] 24)) := ((Below.refl _ w).alloc (Nat.le_refl _) _).alloc (by simp) _
  have bx : Below (w.alloc (wnX a n c F T N)).heap.size (w.alloc (wnX a n c F T N)) ((w.alloc (wnX a n c F T N)).alloc (.cells #[.slice none 0 0, .int .i64 0, .int .i64 0, .int .i64 0] 24)) := (Below.refl _ _).alloc (Nat.le_refl _) _
  rw [hsz] at r1 o1 b1 s1
  have hw1 : w.heap.size + 2 ≤ w1.heap.size := by omega
  have HBW : Hid (∀ W, Below (w.heap.size + 2) w1 W → Below w.heap.size w W) := (show ∀ W, _ → _ from fun W b => bw.trans ((b1.mono (by omega)).trans (b.mono (by omega))))
  have HC : Hid (∀ W, Below (w.heap.size + 2) w1 W → WnC a n c F T N w.heap.size W) := (show ∀ W, _ → _ from fun W b => wnC_new a n c F T N w W (bx.trans ((b1.mono (by simp)).trans (b.mono (by simp)))))
  have HR : Hid (∀ W, Below (w.heap.size + 2) w1 W → W.heap[w.heap.size + 1]? = some (.cells #[.slice none 0 0, .int .i64 0, .int .i64 0, .int .i64 0] 24)) := (show ∀ W, _ → _ from fun W b => (b.block (w.heap.size + 1) (by omega)).trans hrs)
  have HSZ : Hid (∀ W, Below (w.heap.size + 2) w1 W → w.heap.size + 2 ≤ W.heap.size) := (show ∀ W, _ → _ from fun W b => Nat.le_trans hw1 b.size)
  have HF : Hid (Sml w a ss n) := hf
  have O1 : Hid (Pr w1 (w.heap.size + 2) (.slice (some ⟨w.heap.size + 2, 0, none⟩) 0 n) (mvL ss d 0)) := o1
  have B1 : Hid (Below (w.heap.size + 2) w1 w1) := Below.refl _ _
  have HL : Hid (24 * n ≤ 140737488355328) := hl
  have hsi := @run_store_int Tryz.prog
  have hsf := @run_store_float Tryz.prog
  clear hf hsz o1 b1 s1 hrs bw bx hw1 hrz rz hl
  go_enter Tryz.func7, Tryz.ntmps7
  go_wp2_with fail
  go_loopw [5, 6] (fun lv iv W => ∃ (i : Nat), iv = .int .i64 (i : Int) ∧ i ≤ n ∧ Hid (Pr W (w.heap.size + 2) lv (mvL ss d i)) ∧ Hid (Below (w.heap.size + 2) w1 W)) (fun _ iv _ => n - (RowKit.intOf iv).toNat)
  case atStart => exact ⟨0, rfl, by omega, O1, B1⟩
  case round =>
    obtain ⟨i, rfl, hi, o, hb⟩ := hrel
    obtain ⟨x0, x1, x2, x3⟩ := HC.out wr hb.out
    by_cases hlt : i < n
    · have hii : (i : Int) < (n : Int) := by omega
      rcases HF.out with h0 | ⟨g, o', rfl, hg, hat⟩
      · omega
      obtain ⟨f1, f2, f3⟩ := hat i hlt
      have q1 := bcell (HBW.out wr hb.out) f1 hg
      have q2 := bcell (HBW.out wr hb.out) f2 hg
      have q3 := bcell (HBW.out wr hb.out) f3 hg
      have HI : Hid (i + 1 ≤ n) := hlt
      have HV : Hid (mvL ss d (i + 1) = mvL ss d i ++ [mvS d (ss i)]) := mvL_succ ss d i
      have HLE : Hid ((mvL ss d i).length = i) := mvL_len ss d i
      clear f1 f2 f3 hat hg
      obtain ⟨u, hu⟩ : ∃ u, ss i = u := ⟨_, rfl⟩
      rw [hu] at q1 q2 q3 HV
      clear hu
      have n0 := cp_cell wr u 0 (.int .i64 u.t) rfl
      have e2 : (wr.alloc (cp (mvS d u))).heap.size = wr.heap.size + 1 := by simp
      have hgr : Below wr.heap.size wr (wr.alloc (cp (mvS d u))) := (Below.refl _ wr).alloc (Nat.le_refl _) _
      have hS2 := HSZ.out wr hb.out
      obtain ⟨v3, w3, r3, o3, b3⟩ := append_p (wr.alloc (cp (mvS d u))) (w.heap.size + 2) u5 (mvL ss d i) (mvS d u) (by omega) (by rw [HLE.out]; have := HL.out; omega) (o.out.below hgr)
      rw [e2] at r3
      dsimp only [cp, mvS] at r3
      have n9 : (n : Int) ≤ 9223372036854775807 := by have := HL.out; omega
      have O3 : Hid (Pr w3 (w.heap.size + 2) v3 (mvL ss d (i + 1))) := (show Pr _ _ _ _ by rw [HV.out]; exact o3)
      have B3 : Hid (Below (w.heap.size + 2) w1 w3) := (show Below _ _ _ from (hb.out.alloc hS2 _).trans b3)
      clear o3 b3 hgr hS2 e2
      go_wp2_with (at_builtin; refine wpList_append_run rfl (.tmp 29) (.tmp 31) 22 22 rfl _ _ rfl rfl r3 ?_)
      clear r3 n0 q1 q2 q3 o
      exact ⟨⟨i + 1, by go_num, HI.out, O3, B3⟩, by simp [RowKit.intOf]; omega⟩
    · have hii : ¬ (i : Int) < (n : Int) := by omega
      obtain rfl : i = n := by omega
      obtain ⟨a', c', rfl, hs, hle, hge⟩ := o.out.sml
      rw [mvL_len] at hs hle
      have HS : Hid (Sml wr a' (fun j => mvS d (ss j)) i) := (show Sml _ _ _ _ by
        rcases hs with h | ⟨g, o', e, hg, hat⟩
        · exact .inl h
        · refine .inr ⟨g, o', e, hg, fun j hj => ?_⟩
          have := hat j hj
          dsimp only at this
          rw [mvL_at ss d i j hj] at this
          exact this)
      have HLE : Hid (i ≤ c') := hle
      have HGE : Hid (∀ g o, a' = some ⟨g, o, none⟩ → w.heap.size + 2 ≤ g) := hge
      clear hs hle hge o
      rw [mvL_len]
      go_wp2_with (refine wpList_store_row rfl 24 _ _ rfl (w.heap.size + 1) #[.slice a' i c', .int .i64 (wrap64 (F + d)), .int .i64 (wrap64 (T + d)), .int .i64 (wrap64 (N + d))] rfl rfl 24 _ (HR.out wr hb.out) (by kernel_rfl) rfl (by kernel_rfl) ?_)
      refine bodyPost_ret (v := Wn a' i c' (wrap64 (F + d)) (wrap64 (T + d)) (wrap64 (N + d))) (res17 _ _ (w.heap.size + 1) _ (run_loadVar_row (P := Tryz.prog) _ (w.heap.size + 1) 24 24 _ (0, 0) _ (setRow_heap _ _ _ _ _ _ (HR.out wr hb.out)) Tryz.underlying24 rfl (by kernel_rfl)) rfl) rfl ⟨below_setRow (HBW.out wr hb.out) (by omega) _, a', c', rfl, HLE.out, ?_, fun g o e => by have := HGE.out g o e; omega⟩
      rcases HS.out with h | ⟨g, o', e, hg, hat⟩
      · exact .inl h
      · have hgg := HGE.out g o' e
        refine .inr ⟨g, o', e, by simpa using hg, fun j hj => ?_⟩
        rw [cell_setRow_other _ _ _ _ (by show g ≠ _; omega), cell_setRow_other _ _ _ _ (by show g ≠ _; omega), cell_setRow_other _ _ _ _ (by show g ≠ _; omega)]
        exact hat j hj
end Go.Proofs.YtmjenemjbpimcabGreat
/- OverShift: a function of the table over a window and over the window moved in time. -/
namespace Go.Proofs.YtmjenemjbpimcabGreat
open Go.RowKit

theorem df_add (a b d : Int) : df (a + d) (b + d) = df a b := by
  unfold df
  rw [show a + d - (b + d) = a - b by omega]
set_option maxHeartbeats 1000000 in
theorem fn_pair (k : Nat) (hk : k < 23) (ss ss' : Nat → Smp) (n : Nat) (d : Int) (args : List Nat) (hl : 24 * n ≤ 140737488355328) (ev : ∀ j, (ss' j).v = (ss j).v) (et : ∀ j, (ss' j).t = (ss j).t + d) :
    ∃ R R', Gen k ss n args R ∧ Gen k ss' n args R' ∧ ∀ F T N, R F T N = R' (F + d) (T + d) (N + d) := by
  have hlen : (cs (vls ss n)).length * 8 ≤ 140737488355328 := by rw [cs_len, vls_len]; omega
  have evl : vls ss' n = vls ss n := by unfold vls; simp only [ev]
  have elv : lvB ss' n = lvB ss n := by unfold lvB; simp only [ev]
  have edf := df_add
  have eex : ∀ F T ctr per, exF ss' n (F + d) (T + d) ctr per = exF ss n F T ctr per := fun F T ctr per => by simp only [exF, ev, et, edf]
  have ein : ∀ ctr, inF ss' n ctr = inF ss n ctr := fun ctr => by simp only [inF, ev, et, edf]
  rcases (show k = 0 ∨ k = 1 ∨ k = 2 ∨ k = 3 ∨ k = 4 ∨ k = 5 ∨ k = 6 ∨ k = 7 ∨ k = 8 ∨ k = 9 ∨ k = 10 ∨ k = 11 ∨ k = 12 ∨ k = 13 ∨ k = 14 ∨ k = 15 ∨ k = 16 ∨ k = 17 ∨ k = 18 ∨ k = 19 ∨ k = 20 ∨ k = 21 ∨ k = 22 by omega) with rfl | rfl | rfl | rfl | rfl | rfl | rfl | rfl | rfl | rfl | rfl | rfl | rfl | rfl | rfl | rfl | rfl | rfl | rfl | rfl | rfl | rfl | rfl
  · exact ⟨fun F T N => some (nW n), fun F T N => some (nW n), fun F T N W a c aa ca h hc hA hn1 hn2 => count_fn a n c F T N _ W, fun F T N W a c aa ca h hc hA hn1 hn2 => count_fn a n c F T N _ W, fun F T N => by rfl⟩
  · exact ⟨fun F T N => some 4607182418800017408, fun F T N => some 4607182418800017408, fun F T N W a c aa ca h hc hA hn1 hn2 => present_fn a n c F T N _ W, fun F T N W a c aa ca h hc hA hn1 hn2 => present_fn a n c F T N _ W, fun F T N => by rfl⟩
  · exact ⟨fun F T N => cl (ss 0).v, fun F T N => cl (ss' 0).v, fun F T N W a c aa ca h hc hA hn1 hn2 => first_fn a n c F T N ss _ W h hn2, fun F T N W a c aa ca h hc hA hn1 hn2 => first_fn a n c F T N ss' _ W h hn2, fun F T N => by rw [ev]⟩
  · exact ⟨fun F T N => cl (ss (n - 1)).v, fun F T N => cl (ss' (n - 1)).v, fun F T N W a c aa ca h hc hA hn1 hn2 => last_fn a n c F T N ss _ W h hn2, fun F T N W a c aa ca h hc hA hn1 hn2 => last_fn a n c F T N ss' _ W h hn2, fun F T N => by rw [ev]⟩
  · exact ⟨fun F T N => sumF (cs (vls ss n)), fun F T N => sumF (cs (vls ss' n)), fun F T N W a c aa ca h hc hA hn1 hn2 => sum_fn a n c F T N ss _ W h, fun F T N W a c aa ca h hc hA hn1 hn2 => sum_fn a n c F T N ss' _ W h, fun F T N => by rw [evl]⟩
  · exact ⟨fun F T N => meanF (vls ss n), fun F T N => meanF (vls ss' n), fun F T N W a c aa ca h hc hA hn1 hn2 => mean_fn a n c F T N ss _ W h, fun F T N W a c aa ca h hc hA hn1 hn2 => mean_fn a n c F T N ss' _ W h, fun F T N => by rw [evl]⟩
  · exact ⟨fun F T N => sprF (vls ss n), fun F T N => sprF (vls ss' n), fun F T N W a c aa ca h hc hA hn1 hn2 => spread_fn a n c F T N ss _ W h, fun F T N W a c aa ca h hc hA hn1 hn2 => spread_fn a n c F T N ss' _ W h, fun F T N => by rw [evl]⟩
  · exact ⟨fun F T N => varF (vls ss n), fun F T N => varF (vls ss' n), fun F T N W a c aa ca h hc hA hn1 hn2 => variance_fn a n c F T N ss _ W h, fun F T N W a c aa ca h hc hA hn1 hn2 => variance_fn a n c F T N ss' _ W h, fun F T N => by rw [evl]⟩
  · exact ⟨fun F T N => outI true (fun j => (ss j).v) (n - 1), fun F T N => outI true (fun j => (ss' j).v) (n - 1), fun F T N W a c aa ca h hc hA hn1 hn2 => highest_fn a n c F T N ss _ W h hn2 hc, fun F T N W a c aa ca h hc hA hn1 hn2 => highest_fn a n c F T N ss' _ W h hn2 hc, fun F T N => by simp only [ev]⟩
  · exact ⟨fun F T N => outI false (fun j => (ss j).v) (n - 1), fun F T N => outI false (fun j => (ss' j).v) (n - 1), fun F T N W a c aa ca h hc hA hn1 hn2 => lowest_fn a n c F T N ss _ W h hn2 hc, fun F T N W a c aa ca h hc hA hn1 hn2 => lowest_fn a n c F T N ss' _ W h hn2 hc, fun F T N => by simp only [ev]⟩
  · obtain ⟨C, hC⟩ := quantile_cs (args.getD 0 0) (cs (vls ss n)) hlen
    exact ⟨fun F T N => C, fun F T N => C, fun F T N W a c aa ca h hc hA hn1 hn2 => quantile_fn a n c F T N ss aa ca args C W h hA hn1 hC, fun F T N W a c aa ca h hc hA hn1 hn2 => quantile_fn a n c F T N ss' aa ca args C W h hA hn1 (by rw [evl]; exact hC), fun F T N => rfl⟩
  · obtain ⟨C1, h1⟩ := quantile_cs 4602678819172646912 (cs (vls ss n)) hlen
    obtain ⟨C2, h2⟩ := quantile_cs 4602678819172646912 ((List.range (vls ss n).length).map (dsF (vls ss n) C1)) (by rw [List.length_map, List.length_range, vls_len]; omega)
    exact ⟨fun F T N => C2, fun F T N => C2, fun F T N W a c aa ca h hc hA hn1 hn2 => mad_fn a n c F T N ss _ C1 C2 W h hn2 h1 h2, fun F T N W a c aa ca h hc hA hn1 hn2 => mad_fn a n c F T N ss' _ C1 C2 W h hn2 (by rw [evl]; exact h1) (by rw [evl]; exact h2), fun F T N => rfl⟩
  · exact ⟨fun F T N => some (nW (ctI chB (fun j => (ss j).v) (n - 1))), fun F T N => some (nW (ctI chB (fun j => (ss' j).v) (n - 1))), fun F T N W a c aa ca h hc hA hn1 hn2 => changes_fn a n c F T N ss _ W h hn2 hc, fun F T N W a c aa ca h hc hA hn1 hn2 => changes_fn a n c F T N ss' _ W h hn2 hc, fun F T N => by simp only [ev]⟩
  · exact ⟨fun F T N => some (nW (ctI (fun x y => ltB y x) (fun j => (ss j).v) (n - 1))), fun F T N => some (nW (ctI (fun x y => ltB y x) (fun j => (ss' j).v) (n - 1))), fun F T N W a c aa ca h hc hA hn1 hn2 => resets_fn a n c F T N ss _ W h hn2 hc, fun F T N W a c aa ca h hc hA hn1 hn2 => resets_fn a n c F T N ss' _ W h hn2 hc, fun F T N => by simp only [ev]⟩
  · exact ⟨fun F T N => exF ss n F T true true, fun F T N => exF ss' n F T true true, fun F T N W a c aa ca h hc hA hn1 hn2 => rate_fn a n c F T N ss _ W h hn2, fun F T N W a c aa ca h hc hA hn1 hn2 => rate_fn a n c F T N ss' _ W h hn2, fun F T N => by exact (eex _ _ _ _).symm⟩
  · exact ⟨fun F T N => exF ss n F T true false, fun F T N => exF ss' n F T true false, fun F T N W a c aa ca h hc hA hn1 hn2 => increase_fn a n c F T N ss _ W h hn2, fun F T N W a c aa ca h hc hA hn1 hn2 => increase_fn a n c F T N ss' _ W h hn2, fun F T N => by exact (eex _ _ _ _).symm⟩
  · exact ⟨fun F T N => exF ss n F T false false, fun F T N => exF ss' n F T false false, fun F T N W a c aa ca h hc hA hn1 hn2 => delta_fn a n c F T N ss _ W h hn2, fun F T N W a c aa ca h hc hA hn1 hn2 => delta_fn a n c F T N ss' _ W h hn2, fun F T N => by exact (eex _ _ _ _).symm⟩
  · exact ⟨fun F T N => inF ss n true, fun F T N => inF ss' n true, fun F T N W a c aa ca h hc hA hn1 hn2 => irate_fn a n c F T N ss _ W h hn2, fun F T N W a c aa ca h hc hA hn1 hn2 => irate_fn a n c F T N ss' _ W h hn2, fun F T N => by exact (ein _).symm⟩
  · exact ⟨fun F T N => inF ss n false, fun F T N => inF ss' n false, fun F T N W a c aa ca h hc hA hn1 hn2 => idelta_fn a n c F T N ss _ W h hn2, fun F T N W a c aa ca h hc hA hn1 hn2 => idelta_fn a n c F T N ss' _ W h hn2, fun F T N => by exact (ein _).symm⟩
  · exact ⟨fun F T N => liS (fun j => df (ss j).t (ss 0).t) (fun j => (ss j).v) n (lvB ss n), fun F T N => liS (fun j => df (ss' j).t (ss' 0).t) (fun j => (ss' j).v) n (lvB ss' n), fun F T N W a c aa ca h hc hA hn1 hn2 => slope_fn a n c F T N ss _ W h (Nat.le_trans (by decide) hn2) hc, fun F T N W a c aa ca h hc hA hn1 hn2 => slope_fn a n c F T N ss' _ W h (Nat.le_trans (by decide) hn2) hc, fun F T N => by simp only [elv, ev, et, edf]⟩
  · exact ⟨fun F T N => fb .add (liV (fun j => df (ss j).t N) (fun j => (ss j).v) n (lvB ss n)) (fb .mul (liS (fun j => df (ss j).t N) (fun j => (ss j).v) n (lvB ss n)) (cl (args.getD 0 0))), fun F T N => fb .add (liV (fun j => df (ss' j).t N) (fun j => (ss' j).v) n (lvB ss' n)) (fb .mul (liS (fun j => df (ss' j).t N) (fun j => (ss' j).v) n (lvB ss' n)) (cl (args.getD 0 0))), fun F T N W a c aa ca h hc hA hn1 hn2 => predict_fn a n c F T N ss aa ca args W h hc hA hn1, fun F T N W a c aa ca h hc hA hn1 hn2 => predict_fn a n c F T N ss' aa ca args W h hc hA hn1, fun F T N => by simp only [elv, ev, et, edf]⟩
  · exact ⟨fun F T N => smoF (cl (args.getD 0 0)) (cl (args.getD 1 0)) (vls ss n), fun F T N => smoF (cl (args.getD 0 0)) (cl (args.getD 1 0)) (vls ss' n), fun F T N W a c aa ca h hc hA hn1 hn2 => smooth_fn a n c F T N ss aa ca args W h hA hn1, fun F T N W a c aa ca h hc hA hn1 hn2 => smooth_fn a n c F T N ss' aa ca args W h hA hn1, fun F T N => by rw [evl]⟩
  · exact ⟨fun F T N => btF ss n (cl (args.getD 0 0)), fun F T N => btF ss' n (cl (args.getD 0 0)), fun F T N W a c aa ca h hc hA hn1 hn2 => beat_fn a n c F T N ss aa ca args W h hA hn1, fun F T N W a c aa ca h hc hA hn1 hn2 => beat_fn a n c F T N ss' aa ca args W h hA hn1, fun F T N => by simp only [btF, ev, et, edf]⟩
end Go.Proofs.YtmjenemjbpimcabGreat
