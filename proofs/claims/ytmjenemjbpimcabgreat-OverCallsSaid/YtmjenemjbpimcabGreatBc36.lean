/- A bundle of texts. -/
import Derived.Test.YtmjenemjbpimcabGreatBc35
import Derived.ProofKit
import Derived.OpenShut
import Derived.ChangeSlices
import Derived.ChangeSame
import Derived.ChangeOld
import Derived.Carry
import Derived.Deep.Slices
import Derived.ChangeMaps5
/- OverCalls: the row. -/
namespace Go.Proofs.YtmjenemjbpimcabGreat
open Go.ChangeShapes Go.WideShapes Go.ChangeAt Go.RowKit
open Go.ChangeMaps (open_string shut_string)

/-- A list of floats that came in. -/
theorem floats_open {H : Type} {enc : TypeId × Value → H} {W : World} {v : Value} {d : DataW H} {p : List MemPlace} {fuel : Nat} {t : TypeId} (ht : Tryz.prog.underlying t = some (.slice 25))
    (hf : DataW.trod enc Tryz.prog W 0 (fun _ => true) true fuel t [v] = some (d, p)) :
    ∃ (a : Option Addr) (c : Nat) (xs : List Nat), v = .slice a xs.length c ∧ Fm W a xs ∧ Wd xs ∧ xs.length ≤ 9223372036854775807 ∧ (∃ es ss, d = .slice es ss ∧ es.length = xs.length ∨ xs = []) := by
  rcases Go.Deep.open_slice1 ht (by kernel_rfl) hf with ⟨hcs, _⟩ | ⟨x, l, c, m, n, V, D, Pl, hcs, _, hl, hm, hmm, hd, hall⟩
  · have e : v = .slice none 0 0 := by simpa using hcs
    exact ⟨none, 0, [], e, .inl rfl, fun j hj => absurd hj (by simp), by simp, [], [], .inr rfl⟩
  · have e : v = .slice (some x) l c := by simpa using hcs
    have hm' : m = c := by simpa using hmm
    subst hm'
    unfold maxLen at hm
    obtain ⟨rfl, _⟩ := Prod.mk.inj hd
    have hz : ∀ i, i < m → ∃ z : Nat, V i = .float .f64 z ∧ z < 18446744073709551616 := fun i hi => by
      obtain ⟨z, h1, h2, _⟩ := trod_float Tryz.underlying25 (hall i hi).2
      exact ⟨z, h1, h2⟩
    obtain ⟨Z, hZ⟩ := Go.Deep.choose_lt hz
    have hlen : ((List.range l).map Z).length = l := by simp
    have hget : ∀ i, i < l → ((List.range l).map Z).getD i 0 = Z i := fun i hi => by simp [List.getD, hi]
    refine ⟨some x, m, (List.range l).map Z, by rw [hlen]; exact e, ?_, fun j hj => ?_, by rw [hlen]; omega, _, _, .inl ⟨rfl, by simp⟩⟩
    · by_cases h0 : l = 0
      · left
        rw [h0]; rfl
      · right
        obtain ⟨g, o, sp⟩ := x
        have hsp : sp = none := by
          have := (hall 0 (by omega)).1
          simpa [Addr.add] using World.cell?_spot this
        subst hsp
        have h00 := (hall 0 (by omega)).1
        rw [Go.WideShapes.add_plain] at h00
        refine ⟨g, o, rfl, block_lt_of_cell h00, fun i hi => ?_⟩
        rw [hlen] at hi
        have := (hall i (by omega)).1
        rw [Go.WideShapes.add_plain] at this
        rw [hget i hi, this, (hZ i (by omega)).1]
    · rw [hlen] at hj
      rw [hget j hj]
      exact (hZ j (by omega)).2

set_option maxRecDepth 100000 in
theorem calls_lifted (os : Os) (started : os.Started) (H : Type) (enc : TypeId × Value → H) :
    ReturnsInHanded {} Tryz.checked os 4 .any (Rows.overCallsSpec.pre6 enc Tryz.prog Tryz.f4 Rows.overCallsRow.domain false) (Rows.overCallsSpec.post enc Tryz.prog Tryz.f4 false true false false) := by
  refine returnsInHanded_of_change_sized (C := Tryz.checked) own started (by kernel_rfl) Tryz.func4
    (ChangeSpec.witness6 (enc := enc) (C := Tryz.checked) false ⟨#[], #[.string ⟨#[]⟩, .agg #[.slice none 0 0, .int .i64 0, .int .i64 0, .int .i64 0], .slice none 0 0], []⟩ 8 (by kernel_rfl) (by kernel_rfl) (by kernel_rfl) (by kernel_rfl)) ?_
  intro W base args ds gs before hval0 hW hcnd hsz0 _
  have hval : ∀ (j : Nat) t v, Tryz.f4.params[j]? = some t → args[j]? = some v → Value.okWide Tryz.prog W .any base t v := hval0
  have hsz : (DataW.weightsEach Tryz.prog (Tryz.f4.params.toList ++ Rows.overCallsSpec.plain.varTypes Tryz.prog) (ds ++ gs)).all (· ≤ reachBytes) = true := hsz0
  have hW' := hW
  obtain ⟨p, q, hA0, hV, rfl, hfz, hnd⟩ := hW
  have hA : DataW.TrodAll enc Tryz.prog W 0 (fun _ => true) true Tryz.f4.params.toList args.toList ds p := hA0
  rw [Tryz.params4] at hA hval hsz
  obtain ⟨v0, v1, v2, d0, d1, d2, p0, p1, p2, rfl, rfl, rfl, h0, h1, h2⟩ := trodAll_three hA
  obtain ⟨rfl, rfl⟩ := trodVars_none hV
  obtain ⟨s, rfl, rfl, rfl, w0⟩ := open_string Tryz.underlying9 (hval 0 9 v0 rfl rfl) h0
  obtain ⟨cs, rfl, hcs⟩ := okWide_struct Tryz.underlying24 (hval 1 24 v1 rfl rfl)
  obtain ⟨a2, n2, c2, rfl⟩ := okWide_slice Tryz.underlying33 (hval 2 33 v2 rfl rfl)
  have k1 := h1
  have k2 := h2
  have lt1 : ∀ x ∈ p1, x.block < W.heap.size := by obtain ⟨m, hm⟩ := k1; exact DataW.trod_lt m _ _ _ hm
  have lt2 : ∀ x ∈ p2, x.block < W.heap.size := by obtain ⟨m, hm⟩ := k2; exact DataW.trod_lt m _ _ _ hm
  have z1 : ∀ n ∈ d1.weights Tryz.prog 24, n ≤ reachBytes := fun n hn => by
    have := List.all_eq_true.1 hsz _ (DataW.weights_mem_each (j := 1) (t := 24) (d := d1) rfl rfl n hn)
    simpa using this
  have walk : Calls Tryz.prog 4 #[.string s, .agg cs, .slice a2 n2 c2] W fun e w' => e = .returned (.bool true) ∧ Below W.heap.size W w' := by
    obtain ⟨fuel, hf0⟩ := h1
    have hf : DataW.trod enc Tryz.prog W 0 (fun _ => true) true fuel 24 cs.toList = some (d1, p1) := hf0
    obtain ⟨a, n, c, F, T, N, ss, ecl, ht, hc, _⟩ := window_open hf z1
    have ecs : cs = #[.slice a n c, .int .i64 F, .int .i64 T, .int .i64 N] := by rw [← Array.toArray_toList (xs := cs), ecl]
    obtain ⟨f2, hf2⟩ := h2
    obtain ⟨a3, c3, xs, e3, hm, _, hx9, _⟩ := floats_open Tryz.underlying33 hf2
    obtain ⟨rfl, hn2, rfl⟩ := Value.slice.inj e3
    rw [ecs]
    exact calls_walk s a n c F T N a2 n2 c2 xs ss W ht hc hm hn2.symm (by omega)
  refine walk.mono fun e W' ⟨he, bel⟩ => ?_
  subst he
  exact ⟨_, rfl, _, _, _, [], _, [], hW', trodAll_mk1 (shut_bool Tryz.underlying4 _), trodAll_mk3 (shut_string Tryz.underlying9 w0) (Below.trod laidOut (by kernel_rfl) (of_decide_eq_true (by kernel_rfl)) k1 bel lt1) (Below.trod laidOut (by kernel_rfl) (of_decide_eq_true (by kernel_rfl)) k2 bel lt2), rfl, bel.frame _, fun h => by cases h⟩

theorem calls_said : Rows.OverCallsSaid :=
  OpenClaim.holds_of_wide 4 Tryz.f4 rfl rfl rfl rfl rfl rfl rfl ⟨rfl, rfl, rfl, rfl, rfl⟩ rfl rfl rfl rfl rfl (by kernel_rfl) Tryz.func4 (by kernel_rfl)
    (of_decide_eq_true (by kernel_rfl)) (by unfold Func.isWrapper; first | (rw [if_pos (by decide +kernel)]; kernel_rfl) | (rw [if_neg (by decide +kernel)]; exact ⟨rfl, rfl⟩))
    (fun os started H enc _ => calls_lifted os started H enc)
#print axioms calls_said
end Go.Proofs.YtmjenemjbpimcabGreat
