/- A bundle of texts. -/
import Derived.Test.YtmjenemjbpimcaaBk25
import Derived.Test.YtmjenemjbpimcaaBk26
/- OverKeeps: the row. -/
namespace Go.Proofs.Ytmjenemjbpimcaa
open Go.ChangeShapes Go.WideShapes Go.ChangeAt Go.RowKit

/-- Samples that are nought behind the last one. -/
theorem hyp_cut {a : Option Addr} {n : Nat} {ss : Nat → Smp} {w : World} (h : HypW a n ss w) : ∃ s2 : Nat → Smp, HypW a n s2 w ∧ ∀ j, n ≤ j → s2 j = ⟨0, 0, false⟩ := by
  refine ⟨fun j => if j < n then ss j else ⟨0, 0, false⟩, ⟨?_, fun j hj => ?_, h.2.2⟩, fun j hj => if_neg (by omega)⟩
  · rcases h.1 with h0 | ⟨g, o, e, hg, hat⟩
    · exact .inl h0
    · refine .inr ⟨g, o, e, hg, fun j hj => ?_⟩
      dsimp only
      rw [if_pos hj]
      exact hat j hj
  · dsimp only
    rw [if_pos hj]
    exact h.2.1 j hj

theorem samples_room {H : Type} {enc : TypeId × Value → H} {W : World} {a : Option Addr} {n c : Nat} {d : DataW H} {p : List MemPlace} {fuel : Nat}
    (hf : DataW.trod enc Try.prog W 0 (fun _ => true) true fuel 28 [.slice a n c] = some (d, p)) (hz : ∀ n ∈ d.weights Try.prog 28, n ≤ reachBytes) : 24 * n ≤ 140737488351232 := by
  rcases Go.Deep.open_slice Try.underlying28 hf with ⟨hcs, _⟩ | ⟨x, l, c2, m, n2, D, Pl, hcs, _, hl, hm, hmm, hd, hall⟩
  · simp at hcs
    omega
  · simp at hcs
    have hm' : m = c2 := by simpa using hmm
    subst hm'
    obtain ⟨rfl, _⟩ := Prod.mk.inj hd
    have hb : Try.prog.bytesOf 37 = 24 := by kernel_rfl
    have hr : reachBytes = 140737488351232 := by decide
    have := hz ((((List.range l).map D).length + ((List.range (m - l)).map fun j => D (l + j)).length) * 24) (by
      simp only [DataW.weights, Try.underlying28, hb]
      exact List.mem_cons.2 (.inl rfl))
    simp at this
    omega
set_option maxRecDepth 100000 in
/-- A window that came in. -/
theorem window_room {H : Type} {enc : TypeId × Value → H} {W : World} {cl : List Value} {d : DataW H} {p : List MemPlace} {fuel : Nat}
    (hf : DataW.trod enc Try.prog W 0 (fun _ => true) true fuel 30 cl = some (d, p)) (hz : ∀ n ∈ d.weights Try.prog 30, n ≤ reachBytes) :
    ∃ (a : Option Addr) (n c : Nat) (F T N : Int) (ss : Nat → Smp), cl = [.slice a n c, .int .i64 F, .int .i64 T, .int .i64 N] ∧ HypW a n ss W ∧ n ≤ c ∧ 24 * n ≤ 140737488351232 ∧ (-9223372036854775808 ≤ F ∧ F ≤ 9223372036854775807) ∧ (-9223372036854775808 ≤ T ∧ T ≤ 9223372036854775807) ∧ (-9223372036854775808 ≤ N ∧ N ≤ 9223372036854775807) := by
  obtain ⟨xs, k, hk, hxy, hcl, hxl, hff⟩ := DataW.trod_struct Try.underlying30 hf
  have h4 : Try.prog.cellsOf 30 = 4 := by kernel_rfl
  rw [h4] at hcl
  have g0 := hff 0 _ rfl
  have g1 := hff 1 _ rfl
  have g2 := hff 2 _ rfl
  have g3 := hff 3 _ rfl
  have c2 : Try.prog.cellsOf 2 = 1 := by kernel_rfl
  have c28 : Try.prog.cellsOf 28 = 1 := by kernel_rfl
  match xs, hxl, cl, hcl with
  | [(e0, p0), (e1, p1), (e2, p2), (e3, p3)], _, [v0, v1, v2, v3], _ =>
    simp [c28] at g0
    simp [c2] at g1 g2 g3
    have hd0 : d = .agg [e0, e1, e2, e3] := (Prod.mk.inj hxy).1
    have zz : ∀ (j : Nat) t d, [28, 2, 2, 2][j]? = some t → [e0, e1, e2, e3][j]? = some d → ∀ n ∈ d.weights Try.prog t, n ≤ reachBytes := fun j t d ht hd n hn => by
      refine hz n ?_
      rw [hd0]
      simp only [DataW.weights, Try.underlying30]
      exact DataW.weights_mem_each (j := j) (t := t) (d := d) ht hd n hn
    obtain ⟨a, n, c, ss, rfl, hx, hn⟩ := samples_open g0 (zz 0 28 e0 rfl rfl)
    have hrm := samples_room g0 (zz 0 28 e0 rfl rfl)
    obtain ⟨F, ev1, _, f1⟩ := DataW.trod_int Try.underlying2 g1
    obtain ⟨T, ev2, _, f2⟩ := DataW.trod_int Try.underlying2 g2
    obtain ⟨N, ev3, _, f3⟩ := DataW.trod_int Try.underlying2 g3
    have w1 : v1 = .int .i64 F := by simpa using ev1
    have w2 : v2 = .int .i64 T := by simpa using ev2
    have w3 : v3 = .int .i64 N := by simpa using ev3
    simp [Lit.wf, IntKind.min, IntKind.max, IntKind.signed, IntKind.bits] at f1 f2 f3
    exact ⟨a, n, c, F, T, N, ss, by rw [w1, w2, w3], hx, hn, hrm, by omega, by omega, by omega⟩


set_option maxRecDepth 100000 in
theorem keeps_lifted (os : Os) (started : os.Started) (H : Type) (enc : TypeId × Value → H) :
    ReturnsInHanded {} Try.checked os 7 .any (Rows.overKeepsSpec.pre6 enc Try.prog Try.f7 Rows.overKeepsRow.domain false) (Rows.overKeepsSpec.post enc Try.prog Try.f7 false true false false) := by
  refine returnsInHanded_of_change_sized (C := Try.checked) own started (by kernel_rfl) Try.func7
    (ChangeSpec.witness6 (enc := enc) (C := Try.checked) false ⟨#[], #[.agg #[.slice none 0 0, .int .i64 0, .int .i64 0, .int .i64 0], .float .f64 0, .float .f64 0], []⟩ 8 (by kernel_rfl) (by kernel_rfl) (by kernel_rfl) (by kernel_rfl)) ?_
  intro W base args ds gs before hval0 hW hcnd hsz0 _
  have hval : ∀ (j : Nat) t v, Try.f7.params[j]? = some t → args[j]? = some v → Value.okWide Try.prog W .any base t v := hval0
  have hsz : (DataW.weightsEach Try.prog (Try.f7.params.toList ++ Rows.overKeepsSpec.plain.varTypes Try.prog) (ds ++ gs)).all (· ≤ reachBytes) = true := hsz0
  have hW' := hW
  obtain ⟨p, q, hA0, hV, rfl, hfz, hnd⟩ := hW
  have hA : DataW.TrodAll enc Try.prog W 0 (fun _ => true) true Try.f7.params.toList args.toList ds p := hA0
  rw [Try.params7] at hA hval hsz
  obtain ⟨v0, v1, v2, d0, d1, d2, p0, p1, p2, rfl, rfl, rfl, h0, h1, h2⟩ := trodAll_three hA
  obtain ⟨rfl, rfl⟩ := trodVars_none hV
  obtain ⟨cs, rfl, hcs⟩ := okWide_struct Try.underlying30 (hval 0 30 v0 rfl rfl)
  obtain ⟨xa, rfl, rfl, rfl, w1⟩ := open_float Try.underlying25 (hval 1 25 v1 rfl rfl) h1
  obtain ⟨xb, rfl, rfl, rfl, w2⟩ := open_float Try.underlying25 (hval 2 25 v2 rfl rfl) h2
  have k0 := h0
  have lt0 : ∀ x ∈ p0, x.block < W.heap.size := by obtain ⟨m, hm⟩ := k0; exact DataW.trod_lt m _ _ _ hm
  have z0 : ∀ n ∈ d0.weights Try.prog 30, n ≤ reachBytes := fun n hn => by
    have := List.all_eq_true.1 hsz _ (DataW.weights_mem_each (j := 0) (t := 30) (d := d0) rfl rfl n hn)
    simpa using this
  have walk : Calls Try.prog 7 #[.agg cs, .float .f64 xa, .float .f64 xb] W fun e w' => e = .returned (.bool true) ∧ Below W.heap.size W w' := by
    obtain ⟨fuel, hf0⟩ := h0
    have hf : DataW.trod enc Try.prog W 0 (fun _ => true) true fuel 30 cs.toList = some (d0, p0) := hf0
    obtain ⟨a, n, c, F, T, N, ss, ecl, ht, hc, hrm, _⟩ := window_room hf z0
    have ecs : cs = #[.slice a n c, .int .i64 F, .int .i64 T, .int .i64 N] := by rw [← Array.toArray_toList (xs := cs), ecl]
    rw [ecs]
    obtain ⟨s2, ht2, hz2⟩ := hyp_cut ht
    exact keeps_walk a n c F T N xa xb s2 W ht2 hc hz2 (by omega)
  refine walk.mono fun e W' ⟨he, bel⟩ => ?_
  subst he
  exact ⟨_, rfl, _, _, _, [], _, [], hW', trodAll_mk1 (shut_bool Try.underlying4 _), trodAll_mk3 (Below.trod laidOut (by kernel_rfl) (of_decide_eq_true (by kernel_rfl)) k0 bel lt0) (shut_float Try.underlying25 w1) (shut_float Try.underlying25 w2), rfl, bel.frame _, fun h => by cases h⟩

theorem keeps_said : Rows.OverKeepsSaid :=
  OpenClaim.holds_of_wide 7 Try.f7 rfl rfl rfl rfl rfl rfl rfl ⟨rfl, rfl, rfl, rfl, rfl⟩ rfl rfl rfl rfl rfl (by kernel_rfl) Try.func7 (by kernel_rfl)
    (of_decide_eq_true (by kernel_rfl)) (by unfold Func.isWrapper; first | (rw [if_pos (by decide +kernel)]; kernel_rfl) | (rw [if_neg (by decide +kernel)]; exact ⟨rfl, rfl⟩))
    (fun os started H enc _ => keeps_lifted os started H enc)
#print axioms keeps_said
end Go.Proofs.Ytmjenemjbpimcaa
