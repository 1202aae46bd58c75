/- CalcLeaves: what the walk wants. -/
import Derived.Test.YtfjfpplemgjcmabCj
import Derived.Test.YtfjfpplemgjcmabQl
import Derived.Test.YtfjfpplemgjcmabNd
import Derived.Test.YtfjfpplemgjcmabNe
import Derived.Test.YtfjfpplemgjcmabTu
import Derived.Test.YtfjfpplemgjcmabWi
import Derived.Deep.RegionLaw
import Derived.BigRegion
namespace Go.Proofs.Ytfjfpplemgjcmab
open Go.RowKit

/-- The quantile of a list of floats. -/
def QV (q : Nat) (xs : List Nat) (C : Option Nat) : Prop := (xs = [] ∧ C = none) ∨ (xs ≠ [] ∧ byP q C) ∨ (xs ≠ [] ∧ Pt q ∧ ∃ N y z K M, N + 1 = xs.length ∧ Qp q N y z K M ∧ C = quV (isrt xs) K M z)
theorem byP.one {q : Nat} {c d : Option Nat} (h : byP q c) (h' : byP q d) : c = d := by
  rcases h with ⟨a, rfl⟩ | ⟨a, b, rfl⟩ | ⟨a, b, rfl⟩ <;> rcases h' with ⟨a', rfl⟩ | ⟨a', b', rfl⟩ | ⟨a', b', rfl⟩
  all_goals first | rfl | (rw [a] at a'; cases a'; done) | omega
theorem byP.not {q : Nat} {c : Option Nat} (h : byP q c) (h' : Pt q) : False := by
  rcases h with ⟨a, _⟩ | ⟨_, b, _⟩ | ⟨_, b, _⟩
  · rw [h'.1] at a; cases a
  · have := h'.2.1; omega
  · have := h'.2.2; omega
theorem QV.one {q : Nat} {xs : List Nat} {c d : Option Nat} (h : QV q xs c) (h' : QV q xs d) : c = d := by
  rcases h with ⟨e, rfl⟩ | ⟨e, h⟩ | ⟨e, p, N, y, z, K, M, hN, ⟨q1, _, q3, _, q5, q6⟩, rfl⟩ <;> rcases h' with ⟨e', rfl⟩ | ⟨e', h'⟩ | ⟨e', p', N', y', z', K', M', hN', ⟨q1', _, q3', _, q5', q6'⟩, rfl⟩
  · rfl
  · exact absurd e e'
  · exact absurd e e'
  · exact absurd e' e
  · exact h.one h'
  · exact (h.not p').elim
  · exact absurd e' e
  · exact (h'.not p).elim
  · obtain rfl : N = N' := by omega
    rw [q1] at q1'
    obtain rfl := Option.some.inj q1'
    rw [q3] at q3'
    have hK : K = K' := by have := Option.some.inj q3'; omega
    subst hK
    rw [q5] at q5'
    obtain rfl := Option.some.inj q5'
    rw [q6, q6']
theorem quant_prog (q : Nat) (a : Option Addr) (c : Nat) (xs : List Nat) (w : World) (hf : Fm w a xs) (hw : Wd xs) (hl : xs.length ≤ 4096) :
    Calls Try.prog 19 #[.float .f64 q, .slice a xs.length c] w fun r w' => ∃ C, QV q xs C ∧ RB w C r w' := by
  by_cases h0 : xs = []
  · subst h0
    exact (quantile_nil q a c w).mono fun r w' h => ⟨none, .inl ⟨rfl, rfl⟩, h⟩
  · have hlen : xs.length ≠ 0 := fun e => h0 (List.eq_nil_of_length_eq_zero e)
    rcases part_or q with hq | ⟨d, hq⟩
    · rcases hf with h | ⟨g, o, rfl, hg, hat⟩
      · exact absurd h h0
      · obtain ⟨N, hN⟩ : ∃ N, N + 1 = xs.length := ⟨xs.length - 1, by omega⟩
        obtain ⟨y, z, K, M, hQ⟩ := qp_ex q N hq (by omega)
        exact (quantile_part q g o c xs w N y z K M hq hg hat hw (by omega) hN hQ).mono fun r w' h => ⟨_, .inr (.inr ⟨h0, hq, N, y, z, K, M, hN, hQ, rfl⟩), h⟩
    · exact (quantile_no q d hq _ _ a c rfl hlen w).mono fun r w' h => ⟨d, .inr (.inl ⟨h0, hq⟩), h⟩
/-- The quantile of buckets. -/
def DQ (q : Nat) (bs : Nat → Bk) (n : Nat) (d : Option Nat) : Prop := (Pt q ∧ BuV bs n (cl q) d) ∨ byP q d
theorem DQ.one {q : Nat} {bs : Nat → Bk} {n : Nat} {c d : Option Nat} (h : DQ q bs n c) (h' : DQ q bs n d) : c = d := by
  rcases h with ⟨p, h⟩ | h <;> rcases h' with ⟨p', h'⟩ | h'
  · exact h.one h'
  · exact (h'.not p).elim
  · exact (h.not p').elim
  · exact h.one h'
theorem rf_rb {w w' : World} {d : Option Nat} {r : Ending} (h : RF w d r w') : RB w d r w' := by
  obtain ⟨z, k, h1, rfl, h2, h3⟩ := h
  exact ⟨z, h1, below_drewN (Below.refl _ _) k, h2, h3⟩
theorem bu_prog (q : Nat) (a : Option Addr) (c n : Nat) (bs : Nat → Bk) (w : World) (hf : Bml w a bs n) (hw : BW bs n) (hl : 16 * n ≤ 140737488355328) :
    Calls Try.prog 22 #[.float .f64 q, .slice a n c] w fun r w' => ∃ d, DQ q bs n d ∧ RB w d r w' := by
  rcases part_or q with hq | ⟨d, hq⟩
  · exact (buckets_part q hq a c n bs w hf hw hl).mono fun r w' ⟨d, h1, h2⟩ => ⟨d, .inl ⟨hq, h1⟩, h2⟩
  · exact (buckets_beyond q d hq _ w).mono fun r w' h => ⟨d, .inr hq, rf_rb h⟩
theorem BuV.congr {bs bs' : Nat → Bk} {n : Nat} {q d : Option Nat} (h : BuV bs n q d) (e : ∀ j, j < n → bs j = bs' j) : BuV bs' n q d := by
  obtain ⟨k, f, h1, h2, h3⟩ := h
  have es : seg bs 0 n = seg bs' 0 n := seg_congr _ _ _ _ _ fun j hj => by rw [Nat.zero_add]; exact e j hj
  exact ⟨k, f, by rw [← es]; exact h1, h2, h3⟩
theorem DQ.congr {q : Nat} {bs bs' : Nat → Bk} {n : Nat} {d : Option Nat} (h : DQ q bs n d) (e : ∀ j, j < n → bs j = bs' j) : DQ q bs' n d := by
  rcases h with ⟨p, h⟩ | h
  · exact .inl ⟨p, h.congr e⟩
  · exact .inr h
/-- A list of floats copied behind nothing. -/
theorem copy_f (w : World) (a : Option Addr) (c : Nat) (xs : List Nat) (hf : Fm w a xs) (hc : a = none → c = 0) (hn : xs.length ≤ 4096) :
    ∃ v' w', (Builtin.append_ #[35, 35] 35 #[.slice (some ⟨w.heap.size, 0, none⟩) 0 0, .slice a xs.length c]).run Try.prog (w.alloc (.cells #[] 23)) = .ok v' w' ∧ Fr w' w.heap.size v' xs ∧ Below w.heap.size w w' := by
  by_cases h0 : xs = []
  · subst h0
    obtain ⟨i0, hi, hz0, hz1, hz2⟩ := info_parts info23
    have o0 : (w.alloc (.cells #[] 23)).ownsRow w.heap.size 23 1 (.slice (some ⟨w.heap.size, 0, none⟩) 0 0) 0 [] := World.ownsRow_made w #[] 0 (Nat.le_refl _) (Nat.zero_le _) rfl
    have hb : Below w.heap.size w (w.alloc (.cells #[] 23)) := (Below.refl _ w).alloc (Nat.le_refl _) _
    cases a with
    | none =>
      rw [hc rfl]
      exact ⟨_, _, run_append_owned_none _ w.heap.size 35 35 23 i0 1 Try.underlying35 hi _ 0 [] o0, o0, hb⟩
    | some x =>
      obtain ⟨v', w', r, o', gr, _⟩ := run_append_own (P := Try.prog) (w.alloc (.cells #[] 23)) w.heap.size 35 35 23 i0 (.float .f64 0) 1 8 Try.underlying35 hi hz0 hz1 hz2 rfl (by decide) _ 0 [] o0 x 0 c [] rfl (fun j u hj => by simp at hj) (fun u hu => by cases hu) (by unfold maxLen; omega) (by omega) (by simp)
      exact ⟨v', w', r, o', hb.grown gr (by simp) (fun k hk => by simp [Value.ownBlock] at hk; omega)⟩
  · rcases hf with h | ⟨g, o, rfl, hg, hat⟩
    · exact absurd h h0
    · exact copy_all w g o c xs hg hat (by omega)
/-- Three floats more. -/
theorem app3 (w : World) (S : Nat) (v : Value) (ys : List Nat) (x y z : Nat) (hS : S ≤ w.heap.size) (hn : ys.length ≤ 4096) (o : Fr w S v ys) :
    ∃ v' w', (Builtin.append_ #[35, 35] 35 #[v, .slice (some ⟨w.heap.size, 0, none⟩) 3 3]).run Try.prog (w.alloc (.cells #[.float .f64 x, .float .f64 y, .float .f64 z] 23)) = .ok v' w' ∧ Fr w' S v' (ys ++ [x, y, z]) ∧ Below S w w' := by
  obtain ⟨i0, hi, hz0, hz1, hz2⟩ := info_parts info23
  have o0 := World.ownsRow.alloc o (.cells #[.float .f64 x, .float .f64 y, .float .f64 z] 23)
  obtain ⟨v', w', r, o', g, _⟩ := run_append_own (P := Try.prog) (w.alloc (.cells #[.float .f64 x, .float .f64 y, .float .f64 z] 23)) S 35 35 23 i0 (.float .f64 0) 1 8 Try.underlying35 hi hz0 hz1 hz2 rfl (by decide) _ ys.length (fc ys) o0 ⟨w.heap.size, 0, none⟩ 3 3 [.float .f64 x, .float .f64 y, .float .f64 z] (by simp)
    (fun j u hj => by
      rw [Go.WideShapes.add_plain]
      unfold World.cell?
      rw [show (w.alloc (.cells #[.float .f64 x, .float .f64 y, .float .f64 z] 23)).heap[w.heap.size]? = some (.cells #[.float .f64 x, .float .f64 y, .float .f64 z] 23) from heap_alloc_new w _]
      simpa using hj) (by intro u hu; simp at hu; rcases hu with rfl | rfl | rfl <;> rfl) (by unfold maxLen; omega) (by omega) (by simp; omega)
  refine ⟨v', w', r, ?_, ?_⟩
  · unfold Fr
    rw [List.length_append, fc_app]; exact o'
  · exact ((Below.refl S w).alloc hS _).grown g (by simp; omega) (fun k hk => (World.ownsRow.lt o k hk).1)
theorem bc_mem (bs : Nat → Bk) (n : Nat) (u : Value) (h : u ∈ bc bs n) : u.oneCell' = true := by
  unfold bc at h
  rw [List.mem_flatMap] at h
  obtain ⟨j, _, hu⟩ := h
  simp [b2] at hu
  rcases hu with rfl | rfl <;> rfl
/-- Buckets copied behind nothing. -/
theorem copy_b (w : World) (a : Option Addr) (c n : Nat) (bs : Nat → Bk) (hf : Bml w a bs n) (hc : a = none → c = 0) (hn : n ≤ 4096) :
    ∃ v' w', (Builtin.append_ #[38, 38] 38 #[.slice (some ⟨w.heap.size, 0, none⟩) 0 0, .slice a n c]).run Try.prog (w.alloc (.cells #[] 40)) = .ok v' w' ∧ Br w' w.heap.size v' n bs ∧ Below w.heap.size w w' := by
  obtain ⟨i0, hi, hz0, hz1, hz2⟩ := info_parts info34
  have o0 : (w.alloc (.cells #[] 40)).ownsRow w.heap.size 40 2 (.slice (some ⟨w.heap.size, 0, none⟩) 0 0) 0 [] := World.ownsRow_made w #[] 0 (Nat.le_refl _) (Nat.zero_le _) rfl
  have hb : Below w.heap.size w (w.alloc (.cells #[] 40)) := (Below.refl _ w).alloc (Nat.le_refl _) _
  by_cases h0 : n = 0
  · subst h0
    cases a with
    | none =>
      rw [hc rfl]
      exact ⟨_, _, run_append_owned_none _ w.heap.size 38 38 40 i0 2 Try.underlying38 hi _ 0 [] o0, o0, hb⟩
    | some x =>
      obtain ⟨v', w', r, o', gr, _⟩ := run_append_own (P := Try.prog) (w.alloc (.cells #[] 40)) w.heap.size 38 38 40 i0 (.agg #[.float .f64 0, .float .f64 0]) 2 16 Try.underlying38 hi hz0 hz1 hz2 rfl (by decide) _ 0 [] o0 x 0 c [] rfl (fun j u hj => by simp at hj) (fun u hu => by cases hu) (by unfold maxLen; omega) (by omega) (by simp)
      exact ⟨v', w', r, o', hb.grown gr (by simp) (fun k hk => by simp [Value.ownBlock] at hk; omega)⟩
  · rcases hf with h | ⟨g, o, rfl, hg, hat⟩
    · exact absurd h h0
    · obtain ⟨v', w', r, o', gr, _⟩ := run_append_own (P := Try.prog) (w.alloc (.cells #[] 40)) w.heap.size 38 38 40 i0 (.agg #[.float .f64 0, .float .f64 0]) 2 16 Try.underlying38 hi hz0 hz1 hz2 rfl (by decide) _ 0 [] o0 ⟨g, o, none⟩ n c (bc bs n) (bc_len bs n) (fun j u hj => by
        have hj2 : j < n * 2 := by
          have := (List.getElem?_eq_some_iff.1 hj).1
          rw [bc_len] at this
          exact this
        obtain ⟨e1, e2⟩ := hat (j / 2) (by omega)
        have hg := bc_get bs n (j / 2) (j % 2) (by omega) (by omega)
        rw [show j / 2 * 2 + j % 2 = j by omega] at hg
        rw [hg] at hj
        rw [Go.WideShapes.add_plain, hb.cell (p := ⟨g, o + j, none⟩) (by assumption)]
        have hm : j % 2 = 0 ∨ j % 2 = 1 := by omega
        rcases hm with hm | hm
        · rw [hm] at hj
          rw [show o + j = o + j / 2 * 2 by omega, e1]
          exact hj
        · rw [hm] at hj
          rw [show o + j = o + j / 2 * 2 + 1 by omega, e2]
          exact hj) (bc_mem bs n) (by unfold maxLen; omega) (by omega) (by simp)
      refine ⟨v', w', r, ?_, hb.grown gr (by simp) (fun k hk => by simp [Value.ownBlock] at hk; omega)⟩
      unfold Br
      simpa using o'
end Go.Proofs.Ytfjfpplemgjcmab
/- CalcLeaves: rows of samples and of buckets, a list of ones. -/
namespace Go.Proofs.Ytfjfpplemgjcmab
open Go.RowKit

/-- The cells of samples. -/
def c3 (u : Smp) : List Value := [.int .i64 u.t, .float .f64 u.v, .bool u.s]
def sc (us : Nat → Smp) (n : Nat) : List Value := (List.range n).flatMap fun j => c3 (us j)
theorem sc_succ (us : Nat → Smp) (n : Nat) : sc us (n + 1) = sc us n ++ c3 (us n) := by
  unfold sc
  rw [List.range_succ, List.flatMap_append]
  simp
theorem sc_len (us : Nat → Smp) (n : Nat) : (sc us n).length = n * 3 := by
  induction n with
  | zero => rfl
  | succ n ih => rw [sc_succ, List.length_append, ih]; simp [c3]; omega
theorem sc_get (us : Nat → Smp) : ∀ (n j k : Nat), j < n → k < 3 → (sc us n)[j * 3 + k]? = (c3 (us j))[k]?
  | 0, j, k, h, _ => by omega
  | n + 1, j, k, h, hk => by
    rw [sc_succ]
    by_cases hj : j < n
    · rw [List.getElem?_append_left (by rw [sc_len]; omega)]
      exact sc_get us n j k hj hk
    · obtain rfl : j = n := by omega
      rw [List.getElem?_append_right (by rw [sc_len]; omega), sc_len]
      congr 1
      omega
theorem info27 : (Try.prog.info? 27).map (fun i => (i.zero, i.size, i.bytes)) = some (some (.agg #[.int .i64 0, .float .f64 0, .bool false]), 3, 24) := by kernel_rfl
/-- A row of samples of the call's own. -/
def Sr (w : World) (S : Nat) (v : Value) (n : Nat) (us : Nat → Smp) : Prop := w.ownsRow S 27 3 v n (sc us n)
theorem Sr.sml {w : World} {S : Nat} {v : Value} {n : Nat} {us : Nat → Smp} (h : Sr w S v n us) : ∃ a c, v = .slice a n c ∧ Sml w a us n ∧ n ≤ c := by
  have hc := fun g => h.cells (g := g)
  rcases h.2 with ⟨rfl, h0⟩ | ⟨g, c, cur, rfl, _, hg, hnc, _⟩
  · subst h0
    exact ⟨none, 0, rfl, .inl rfl, Nat.le_refl _⟩
  · refine ⟨_, c, rfl, .inr ⟨g, 0, rfl, (Array.getElem?_eq_some_iff.1 hg).1, fun j hj => ?_⟩, hnc⟩
    have h1 := hc g rfl (j * 3 + 0) _ (by rw [sc_get us n j 0 hj (by omega)]; rfl)
    have h2 := hc g rfl (j * 3 + 1) _ (by rw [sc_get us n j 1 hj (by omega)]; rfl)
    have h3 := hc g rfl (j * 3 + 2) _ (by rw [sc_get us n j 2 hj (by omega)]; rfl)
    rw [Go.WideShapes.add_plain] at h1 h2 h3
    exact ⟨h1, by rw [Nat.add_assoc]; exact h2, by rw [Nat.add_assoc]; exact h3⟩
theorem append_m (w : World) (S : Nat) (v : Value) (n : Nat) (us : Nat → Smp) (hS : S ≤ w.heap.size) (hn : (n + 1) * 24 ≤ 140737488355328) (o : Sr w S v n us) :
    ∃ v' w', (Builtin.append_ #[22, 22] 22 #[v, .slice (some ⟨w.heap.size, 0, none⟩) 1 1]).run Try.prog (w.alloc (cp (us n))) = .ok v' w' ∧ Sr w' S v' (n + 1) us ∧ Below S w w' := by
  obtain ⟨i0, hi, hz0, hz1, hz2⟩ := info_parts info27
  have o0 := World.ownsRow.alloc o (cp (us n))
  obtain ⟨v', w', r, o', g, _⟩ := run_append_own (P := Try.prog) (w.alloc (cp (us n))) S 22 22 27 i0 (.agg #[.int .i64 0, .float .f64 0, .bool false]) 3 24 Try.underlying22 hi hz0 hz1 hz2 rfl (by decide) _ n (sc us n) o0 ⟨w.heap.size, 0, none⟩ 1 1 (c3 (us n)) (by rfl)
    (fun j u hj => by
      rw [Go.WideShapes.add_plain, Nat.zero_add]
      exact cp_cell w (us n) j u (by simpa [c3] using hj)) (by intro u hu; simp [c3] at hu; rcases hu with rfl | rfl | rfl <;> rfl) (by unfold maxLen; omega) hn (by simp; omega)
  refine ⟨v', w', r, ?_, ?_⟩
  · unfold Sr
    rw [sc_succ]; exact o'
  · exact ((Below.refl S w).alloc hS _).grown g (by simp; omega) (fun k hk => (World.ownsRow.lt o k hk).1)
theorem step_append_run {P : Program} {ops : Array Oper} {o : Oper} {a : Act} {w w' : World} {v' : Value} {K : Act → World → Prop} {Q : Exit → Act → World → Prop} {E : Prop} (hgd : o.guard = none) (s x : Operand) (t tx : TypeId)
    (ho : o.op = .call { callee := .builtin .append, args := #[s, x], argTypes := #[t, tx] }) (vs vx : Value) (hs : a.eval s = vs) (hx : a.eval x = vx)
    (hr : (Builtin.append_ #[t, tx] o.type #[vs, vx]).run P w = .ok v' w') (h : K (a.put o.dst v') w') : if Region.wanted o (yielded ops a.tmps) = true then Oper.wp P o a w K Q else E := by
  have hw : Region.wanted o (yielded ops a.tmps) = true := by simp [Region.wanted, hgd]
  rw [if_pos hw]
  unfold Oper.wp execOp
  simp only [ho, resolve, invoke, builtin, Sem.run_bind, Sem.run_pure, Result.andThen_ok, List.map_toArray, List.map_cons, List.map_nil, hs, hx, hr]
  exact h


theorem Sr.below {w w' : World} {S n : Nat} {v : Value} {us : Nat → Smp} (h : Sr w S v n us) (hb : Below w.heap.size w w') : Sr w' S v n us := by
  refine ⟨h.1, ?_⟩
  rcases h.2 with h0 | ⟨g, cap, cur, hv, hB, hg, r⟩
  · exact .inl h0
  · exact .inr ⟨g, cap, cur, hv, hB, (hb.block g (Array.getElem?_eq_some_iff.1 hg).1).trans hg, r⟩
/-- Two buckets more. -/
theorem app2b (w : World) (S : Nat) (v : Value) (n : Nat) (f : Nat → Bk) (x y : Bk) (hS : S ≤ w.heap.size) (hn : n ≤ 4096) (o : Br w S v n f) :
    ∃ v' w', (Builtin.append_ #[38, 38] 38 #[v, .slice (some ⟨w.heap.size, 0, none⟩) 2 2]).run Try.prog (w.alloc (.cells #[.float .f64 x.1, .float .f64 x.2, .float .f64 y.1, .float .f64 y.2] 40)) = .ok v' w' ∧ Br w' S v' (n + 2) (up (up f n x) (n + 1) y) ∧ Below S w w' := by
  obtain ⟨i0, hi, hz0, hz1, hz2⟩ := info_parts info34
  have o0 := World.ownsRow.alloc o (.cells #[.float .f64 x.1, .float .f64 x.2, .float .f64 y.1, .float .f64 y.2] 40)
  obtain ⟨v', w', r, o', g, _⟩ := run_append_own (P := Try.prog) (w.alloc (.cells #[.float .f64 x.1, .float .f64 x.2, .float .f64 y.1, .float .f64 y.2] 40)) S 38 38 40 i0 (.agg #[.float .f64 0, .float .f64 0]) 2 16 Try.underlying38 hi hz0 hz1 hz2 rfl (by decide) _ n (bc f n) o0 ⟨w.heap.size, 0, none⟩ 2 2 [.float .f64 x.1, .float .f64 x.2, .float .f64 y.1, .float .f64 y.2] (by simp)
    (fun j u hj => by
      rw [Go.WideShapes.add_plain]
      unfold World.cell?
      rw [show (w.alloc (.cells #[.float .f64 x.1, .float .f64 x.2, .float .f64 y.1, .float .f64 y.2] 40)).heap[w.heap.size]? = some (.cells #[.float .f64 x.1, .float .f64 x.2, .float .f64 y.1, .float .f64 y.2] 40) from heap_alloc_new w _]
      simpa using hj) (by intro u hu; simp at hu; rcases hu with rfl | rfl | rfl | rfl <;> rfl) (by unfold maxLen; omega) (by omega) (by simp; omega)
  refine ⟨v', w', r, ?_, ?_⟩
  · unfold Br
    rw [up_bc, up_bc, List.append_assoc]; exact o'
  · exact ((Below.refl S w).alloc hS _).grown g (by simp; omega) (fun k hk => (World.ownsRow.lt o k hk).1)

theorem quo_self (x : Nat) (s : Bool) (m : Nat) (i : Int) (hr : Ieee.double.read x = .number s m i) (hm : m ≠ 0) : floatBits .quo .f64 x x = some 4607182418800017408 := by
  show ((Ieee.double.read x).quotient 54 (Ieee.double.read x)).map Ieee.double.write = _
  rw [hr]
  simp only [Ieee.Datum.quotient]
  rw [if_neg hm, Nat.add_sub_cancel, Nat.shiftLeft_eq, Nat.mul_div_cancel_left _ (Nat.pos_of_ne_zero hm), Nat.mul_mod_right]
  show some (Ieee.double.nearest (s ^^ s) (2 * 2 ^ 54 + 0) (i - i - 54 - 1)) = _
  rw [Bool.xor_self, Int.sub_self]
  decide
theorem zs_one : ∀ n : Nat, zsum (fun _ => 1) n = n ∧ zsize (fun _ => 1) n = n
  | 0 => ⟨rfl, rfl⟩
  | n + 1 => by
    obtain ⟨h1, h2⟩ := zs_one n
    constructor
    · show zsum _ n + 1 = _
      rw [h1]; omega
    · show zsize _ n + max 1 (-1) = _
      rw [h2]; omega
theorem iw_one : iw 1 = 4607182418800017408 := by decide +kernel
/-- A list of ones. -/
def Ones (xs : List Nat) : Prop := ∀ j, j < xs.length → xs.getD j 0 = 4607182418800017408
theorem Ones.cs {xs : List Nat} (h : Ones xs) : cs xs = (List.range xs.length).map fun _ => some (iw 1) := by
  apply List.ext_getElem
  · simp [cs_len]
  · intro j h1 h2
    rw [cs_len] at h1
    have := h j h1
    have e : xs[j] = 4607182418800017408 := by simpa [List.getD, h1] using this
    simp only [Ytfjfpplemgjcmab.cs, List.getElem_map, e, iw_one]
    decide
theorem Ones.wd {xs : List Nat} (h : Ones xs) : Wd xs := fun j hj => by rw [h j hj]; decide
theorem Ones.sum {xs : List Nat} (h : Ones xs) (hl : xs.length ≤ 4096) : sumF (Ytfjfpplemgjcmab.cs xs) = some (nW xs.length) := by
  have hz := zs_one xs.length
  rw [h.cs, sumF_iw (fun _ => 1) xs.length (by rw [hz.2]; omega), hz.1]
  rfl
theorem nW_self (n : Nat) (h0 : n ≠ 0) (hl : n ≤ 4096) : nW n % 2 ^ 63 < 0x7ff0000000000000 ∧ fb .quo (some (nW n)) (some (nW n)) = some 4607182418800017408 := by
  obtain ⟨m, i, hr, hu, hf⟩ := iw_read (n : Int) (by omega) (by omega)
  refine ⟨hf, quo_self (nW n) _ m i hr ?_⟩
  intro hm
  rw [hm] at hu
  have : un (decide ((n : Int) < 0)) 0 i = 0 := by
    unfold un
    rw [signed_eq, Nat.zero_mul]
    exact Int.mul_zero _
  rw [this] at hu
  have hp : (0 : Int) < ((2 ^ 1074 : Nat) : Int) := by have := Nat.two_pow_pos 1074; omega
  have := Int.mul_pos (show (0 : Int) < n by omega) hp
  omega
theorem Ones.mean {xs : List Nat} (h : Ones xs) (h0 : xs.length ≠ 0) (hl : xs.length ≤ 4096) : meanF xs = some 4607182418800017408 := by
  obtain ⟨hf, hq⟩ := nW_self xs.length h0 hl
  rw [mean1 h0 (by rw [h.sum hl]; exact infB_of _ hf), h.sum hl]
  exact hq
end Go.Proofs.Ytfjfpplemgjcmab
/- CalcLeaves: the law's two copies. -/
namespace Go.Proofs.Ytfjfpplemgjcmab
open Go.RowKit

theorem own_other {w : World} {S e sz g c n : Nat} {xs : List Value} (h : w.ownsRow S e sz (.slice (some ⟨g, 0, none⟩) n c) n xs) (g' j : Nat) (u : Value) (hne : g ≠ g') : (w.setCell ⟨g', j, none⟩ u).ownsRow S e sz (.slice (some ⟨g, 0, none⟩) n c) n xs := by
  refine ⟨h.1, ?_⟩
  rcases h.2 with ⟨h0, _⟩ | ⟨g1, cap, cur, hv, hB, hg, r⟩
  · simp at h0
  · have e : g1 = g := by simp at hv; exact hv.1.symm
    exact .inr ⟨g1, cap, cur, hv, hB, (heap_setCell_other w ⟨g', j, none⟩ g1 u (fun h => hne (by rw [← e, h]))).trans hg, r⟩

/-- The copies of the list and of the buckets, with what lies behind them. -/
def Lv (w W : World) (g7 c7 : Nat) (ys : List Nat) (N g9 c9 k : Nat) (f : Nat → Bk) : Prop :=
  Below w.heap.size w W ∧ (ys.length = N ∧ Fr W w.heap.size (.slice (some ⟨g7, 0, none⟩) ys.length c7) ys) ∧ Rb W w.heap.size g9 c9 k f ∧ g7 ≠ g9
section
variable {w W : World} {g7 c7 : Nat} {ys : List Nat} {N g9 c9 k : Nat} {f : Nat → Bk}
theorem Lv.bel (h : Lv w W g7 c7 ys N g9 c9 k f) : Below w.heap.size w W := h.1
theorem Lv.below {W' : World} (h : Lv w W g7 c7 ys N g9 c9 k f) (hb : Below W.heap.size W W') : Lv w W' g7 c7 ys N g9 c9 k f :=
  ⟨h.1.trans (hb.mono h.1.size), ⟨h.2.1.1, h.2.1.2.below hb⟩, h.2.2.1.below hb, h.2.2.2⟩
theorem Lv.cell (h : Lv w W g7 c7 ys N g9 c9 k f) (j : Nat) (hj : j < N) : W.cell? ⟨g7, j, none⟩ = some (.float .f64 (ys.getD j 0)) := h.2.1.2.cell j (by rw [h.2.1.1]; exact hj)
theorem Lv.lt7 (h : Lv w W g7 c7 ys N g9 c9 k f) : g7 < W.heap.size := by
  rcases h.2.1.2.2 with ⟨h0, _⟩ | ⟨g', cap, cur, hv, hB, hg, r⟩
  · cases h0
  · cases hv
    exact (Array.getElem?_eq_some_iff.1 hg).1
theorem Lv.fm (h : Lv w W g7 c7 ys N g9 c9 k f) (xs : List Nat) (hl : xs.length ≤ N) (hx : ∀ j, j < xs.length → ys.getD j 0 = xs.getD j 0) : Fm W (some ⟨g7, 0, none⟩) xs :=
  .inr ⟨g7, 0, rfl, h.lt7, fun j hj => by rw [Nat.zero_add, h.cell j (by omega), hx j hj]⟩
theorem Lv.bml (h : Lv w W g7 c7 ys N g9 c9 k f) (m : Nat) (hm : m ≤ k) : Bml W (some ⟨g9, 0, none⟩) f m :=
  .inr ⟨g9, 0, rfl, h.2.2.1.lt, fun j hj => by rw [Nat.zero_add]; exact ⟨h.2.2.1.cellU j (by omega), h.2.2.1.cellC j (by omega)⟩⟩
theorem Lv.set7 (h : Lv w W g7 c7 ys N g9 c9 k f) (j x : Nat) : Lv w (W.setCell ⟨g7, j, none⟩ (.float .f64 x)) g7 c7 (ys.set j x) N g9 c9 k f :=
  ⟨h.1.setCell (p := ⟨g7, j, none⟩) h.2.1.2.ge _, ⟨by rw [List.length_set]; exact h.2.1.1, by rw [List.length_set]; exact h.2.1.2.set j x⟩, own_other h.2.2.1 g7 j _ (Ne.symm h.2.2.2), h.2.2.2⟩
theorem Lv.set9 (h : Lv w W g7 c7 ys N g9 c9 k f) (j : Nat) (hj : j < k) (u : Bk) : Lv w ((W.setCell ⟨g9, j * 2, none⟩ (.float .f64 u.1)).setCell ⟨g9, j * 2 + 1, none⟩ (.float .f64 u.2)) g7 c7 ys N g9 c9 k (up f j u) :=
  ⟨(h.1.setCell (p := ⟨g9, j * 2, none⟩) h.2.2.1.ge _).setCell (p := ⟨g9, j * 2 + 1, none⟩) h.2.2.1.ge _, ⟨h.2.1.1, own_other (own_other h.2.1.2 g9 (j * 2) _ h.2.2.2) g9 (j * 2 + 1) _ h.2.2.2⟩, h.2.2.1.set j hj u, h.2.2.2⟩
theorem Lv.froz7 (h : Lv w W g7 c7 ys N g9 c9 k f) (j : Nat) : W.frozen? ⟨g7, j, none⟩ = false := h.2.1.2.froz j
theorem Lv.froz9 (h : Lv w W g7 c7 ys N g9 c9 k f) (j : Nat) : W.frozen? ⟨g9, j, none⟩ = false := h.2.2.1.froz j
theorem Lv.cellU (h : Lv w W g7 c7 ys N g9 c9 k f) (j : Nat) (hj : j < k) : W.cell? ⟨g9, j * 2, none⟩ = some (.float .f64 (f j).1) := h.2.2.1.cellU j hj
theorem Lv.cellC (h : Lv w W g7 c7 ys N g9 c9 k f) (j : Nat) (hj : j < k) : W.cell? ⟨g9, j * 2 + 1, none⟩ = some (.float .f64 (f j).2) := h.2.2.1.cellC j hj
theorem Lv.drew (h : Lv w W g7 c7 ys N g9 c9 k f) (j : Nat) : Lv w (W.drewN j) g7 c7 ys N g9 c9 k f := ⟨below_drewN h.1 j, h.2.1, h.2.2⟩
end
theorem Fr.some {w : World} {S : Nat} {v : Value} {ys : List Nat} (h : Fr w S v ys) (h0 : ys.length ≠ 0) : ∃ g c, v = .slice (some ⟨g, 0, none⟩) ys.length c ∧ ys.length ≤ c ∧ S ≤ g ∧ g < w.heap.size := by
  rcases h.2 with ⟨_, h1⟩ | ⟨g, c, cur, hv, hB, hg, hnc, _⟩
  · exact absurd h1 h0
  · exact ⟨g, c, hv, hnc, hB, (Array.getElem?_eq_some_iff.1 hg).1⟩
/-- The first copy. -/
theorem mk7 (w1 : World) (a : Option Addr) (c : Nat) (xs : List Nat) (hf : Fm w1 a xs) (hc : a = none → c = 0) (hn : xs.length ≤ 4096) (x y z : Nat) :
    ∃ v5 w5 g7 c7 w6, (Builtin.append_ #[35, 35] 35 #[.slice (some ⟨w1.heap.size, 0, none⟩) 0 0, .slice a xs.length c]).run Try.prog (w1.alloc (.cells #[] 23)) = .ok v5 w5 ∧
      (Builtin.append_ #[35, 35] 35 #[v5, .slice (some ⟨w5.heap.size, 0, none⟩) 3 3]).run Try.prog (w5.alloc (.cells #[.float .f64 x, .float .f64 y, .float .f64 z] 23)) = .ok (.slice (some ⟨g7, 0, none⟩) (xs.length + 3) c7) w6 ∧
      Fr w6 w1.heap.size (.slice (some ⟨g7, 0, none⟩) (xs ++ [x, y, z]).length c7) (xs ++ [x, y, z]) ∧ xs.length + 3 ≤ c7 ∧ g7 < w6.heap.size ∧ Below w1.heap.size w1 w6 := by
  obtain ⟨v5, w5, r5, o5, b5⟩ := copy_f w1 a c xs hf hc hn
  obtain ⟨v6, w6, r6, o6, b6⟩ := app3 w5 w1.heap.size v5 xs x y z b5.size hn o5
  obtain ⟨g7, c7, rfl, hc7, _, hg7⟩ := o6.some (by simp)
  have e : (xs ++ [x, y, z]).length = xs.length + 3 := by simp
  refine ⟨v5, w5, g7, c7, w6, r5, by rw [← e]; exact r6, o6, by rw [← e]; exact hc7, hg7, b5.trans b6⟩
/-- The second copy. -/
theorem mk9 (w1 : World) (a : Option Addr) (c m : Nat) (bs : Nat → Bk) (hf : Bml w1 a bs m) (hc : a = none → c = 0) (hn : m ≤ 4096) (x y : Bk) :
    ∃ v5 w5 g9 c9 w6, (Builtin.append_ #[38, 38] 38 #[.slice (some ⟨w1.heap.size, 0, none⟩) 0 0, .slice a m c]).run Try.prog (w1.alloc (.cells #[] 40)) = .ok v5 w5 ∧
      (Builtin.append_ #[38, 38] 38 #[v5, .slice (some ⟨w5.heap.size, 0, none⟩) 2 2]).run Try.prog (w5.alloc (.cells #[.float .f64 x.1, .float .f64 x.2, .float .f64 y.1, .float .f64 y.2] 40)) = .ok (.slice (some ⟨g9, 0, none⟩) (m + 2) c9) w6 ∧
      Rb w6 w1.heap.size g9 c9 (m + 2) (up (up bs m x) (m + 1) y) ∧ m + 2 ≤ c9 ∧ w1.heap.size ≤ g9 ∧ Below w1.heap.size w1 w6 := by
  obtain ⟨v5, w5, r5, o5, b5⟩ := copy_b w1 a c m bs hf hc hn
  obtain ⟨v6, w6, r6, o6, b6⟩ := app2b w5 w1.heap.size v5 m bs x y b5.size hn o5
  rcases o6.parts with ⟨_, h0⟩ | ⟨g9, c9, rfl, hr, hc9⟩
  · omega
  · exact ⟨v5, w5, g9, c9, w6, r5, r6, hr, hc9, hr.ge, b5.trans b6⟩
theorem own_low {w : World} {S S' e sz n : Nat} {v : Value} {xs : List Value} (h : w.ownsRow S e sz v n xs) (hs : S' ≤ S) : w.ownsRow S' e sz v n xs := by
  refine ⟨h.1, ?_⟩
  rcases h.2 with h0 | ⟨g, cap, cur, hv, hB, r⟩
  · exact .inl h0
  · exact .inr ⟨g, cap, cur, hv, Nat.le_trans hs hB, r⟩
/-- The samples of a list. -/
def smpOf (xs : List Nat) (j : Nat) : Smp := ⟨(j : Int) * 1000 + 7, xs.getD j 0, ((j : Int) % 3 == 0)⟩
theorem qp0 : Qp 0 2 0 0 0 1 := ⟨by decide +kernel, by decide, by decide +kernel, by decide, by decide +kernel, by decide⟩
theorem q0312 : quV (isrt l312) 0 1 0 = some 4607182418800017408 := by decide +kernel
theorem pt0 : Pt 0 := ⟨by decide, by decide, by decide⟩
theorem up_lt {f : Nat → Bk} {m : Nat} {x y : Bk} (j : Nat) (hj : j < m) : up (up f m x) (m + 1) y j = f j := by
  unfold up
  rw [if_neg (by omega), if_neg (by omega)]
end Go.Proofs.Ytfjfpplemgjcmab
