/- CalcQuantiles: the row. -/
import Derived.Test.YtfjfpplemgjcmabQl
import Derived.Test.YtfjfpplemgjcmabOp
import Derived.SizedLaws
namespace Go.Proofs.Ytfjfpplemgjcmab
open Go.ChangeShapes Go.WideShapes Go.ChangeAt Go.RowKit

/-- A list of floats that came in, its length and its room. -/
theorem floats_room {H : Type} {enc : TypeId × Value → H} {W : World} {a : Option Addr} {len cap : Nat} {d : DataW H} {p : List MemPlace} {fuel : Nat} {t : TypeId} (ht : Try.prog.underlying t = some (.slice 23))
    (hf : DataW.trod enc Try.prog W 0 (fun _ => true) true fuel t [Value.slice a len cap] = some (d, p)) (hz : ∀ n ∈ d.weights Try.prog t, n ≤ reachBytes) :
    ∃ (xs : List Nat), xs.length = len ∧ Fm W a xs ∧ Wd xs ∧ len * 8 ≤ 140737488355328 ∧ len ≤ cap ∧ cap ≤ 9223372036854775807 := by
  rcases Go.Deep.open_slice1 ht (by kernel_rfl) hf with ⟨hcs, _⟩ | ⟨x, l, c, m, n, V, D, Pl, hcs, _, hl, hm, hmm, hd, hall⟩
  · simp at hcs
    obtain ⟨_, rfl, rfl⟩ := hcs
    exact ⟨[], rfl, .inl rfl, fun j hj => absurd hj (by simp), by omega, by omega, by omega⟩
  · simp at hcs
    obtain ⟨rfl, rfl, rfl⟩ := hcs
    have hm' : m = cap := by simpa using hmm
    subst hm'
    unfold maxLen at hm
    obtain ⟨rfl, _⟩ := Prod.mk.inj hd
    have hz2 : ∀ i, i < m → ∃ z : Nat, V i = .float .f64 z ∧ z < 18446744073709551616 := fun i hi => by
      obtain ⟨z, h1, h2, _⟩ := trod_float Try.underlying23 (hall i hi).2
      exact ⟨z, h1, h2⟩
    obtain ⟨Z, hZ⟩ := Go.Deep.choose_lt hz2
    have hlen : ((List.range len).map Z).length = len := by simp
    have hget : ∀ i, i < len → ((List.range len).map Z).getD i 0 = Z i := fun i hi => by simp [List.getD, hi]
    refine ⟨(List.range len).map Z, hlen, ?_, fun j hj => ?_, ?_, hl, hm⟩
    · by_cases h0 : len = 0
      · left
        rw [h0]; rfl
      · right
        obtain ⟨g, o, sp⟩ := x
        have hsp : sp = none := by
          have := (hall 0 (by omega)).1
          simpa [Addr.add] using World.cell?_spot this
        subst hsp
        have h00 := (hall 0 (by omega)).1
        rw [Go.WideShapes.add_plain] at h00
        refine ⟨g, o, rfl, block_lt_of_cell h00, fun i hi => ?_⟩
        rw [hlen] at hi
        have := (hall i (by omega)).1
        rw [Go.WideShapes.add_plain] at this
        rw [hget i hi, this, (hZ i (by omega)).1]
    · rw [hlen] at hj
      rw [hget j hj]
      exact (hZ j (by omega)).2
    · have hb : Try.prog.bytesOf 23 = 8 := by kernel_rfl
      have hr : reachBytes = 140737488351232 := by decide
      have := hz ((((List.range len).map D).length + ((List.range (m - len)).map fun j => D (len + j)).length) * 8) (by
        simp only [DataW.weights, ht, hb]
        exact List.mem_cons.2 (.inl rfl))
      simp at this
      omega

set_option maxRecDepth 100000 in
theorem quantiles_lifted (os : Os) (started : os.Started) (H : Type) (enc : TypeId × Value → H) :
    ReturnsInHanded {} Try.checked os 5 .any (Rows.calcQuantilesSpec.pre6 enc Try.prog Try.f5 Rows.calcQuantilesRow.domain false) (Rows.calcQuantilesSpec.post enc Try.prog Try.f5 false true false false) := by
  refine returnsInHanded_of_change_sized (C := Try.checked) own started (by kernel_rfl) Try.func5
    (ChangeSpec.witness6 (enc := enc) (C := Try.checked) false ⟨#[], #[.float .f64 0, .slice none 0 0], []⟩ 8 (by kernel_rfl) (by kernel_rfl) (by kernel_rfl) (by kernel_rfl)) ?_
  intro W base args ds gs before hval0 hW hcnd hsz0 _
  have hval : ∀ (j : Nat) t v, Try.f5.params[j]? = some t → args[j]? = some v → Value.okWide Try.prog W .any base t v := hval0
  have hsz : (DataW.weightsEach Try.prog (Try.f5.params.toList ++ Rows.calcQuantilesSpec.plain.varTypes Try.prog) (ds ++ gs)).all (· ≤ reachBytes) = true := hsz0
  have hW' := hW
  obtain ⟨p, q, hA0, hV, rfl, hfz, hnd⟩ := hW
  have hA : DataW.TrodAll enc Try.prog W 0 (fun _ => true) true Try.f5.params.toList args.toList ds p := hA0
  rw [Try.params5] at hA hval hsz
  obtain ⟨v0, v1, d0, d1, p0, p1, rfl, rfl, rfl, h0, h1⟩ := trodAll_two hA
  obtain ⟨rfl, rfl⟩ := trodVars_none hV
  obtain ⟨x0, rfl, rfl, rfl, w0⟩ := open_float Try.underlying23 (hval 0 23 v0 rfl rfl) h0
  obtain ⟨a1, n1, c1, rfl⟩ := okWide_slice Try.underlying35 (hval 1 35 v1 rfl rfl)
  have k1 := h1
  have lt1 : ∀ x ∈ p1, x.block < W.heap.size := by obtain ⟨m, hm⟩ := k1; exact DataW.trod_lt m _ _ _ hm
  have z1 : ∀ n ∈ d1.weights Try.prog 35, n ≤ reachBytes := fun n hn => by
    have := List.all_eq_true.1 hsz _ (DataW.weights_mem_each (j := 1) (t := 35) (d := d1) rfl rfl n hn)
    simpa using this
  have walk : Calls Try.prog 5 #[.float .f64 x0, .slice a1 n1 c1] W fun e w' => e = .returned (.bool true) ∧ Below W.heap.size W w' := by
    obtain ⟨f1, hf1⟩ := h1
    obtain ⟨xs, rfl, hI, hs, hl, hc, hc2⟩ := floats_room Try.underlying35 hf1 z1
    exact quantiles_walk x0 a1 c1 xs W hI hs hl hc hc2
  refine walk.mono fun e W' ⟨he, bel⟩ => ?_
  subst he
  exact ⟨_, rfl, _, _, _, [], _, [], hW', trodAll_mk1 (shut_bool Try.underlying4 _), trodAll_mk2 (shut_float Try.underlying23 w0) (Below.trod laidOut (by kernel_rfl) (of_decide_eq_true (by kernel_rfl)) k1 bel lt1), rfl, bel.frame _, fun h => by cases h⟩

theorem quantiles_said : Rows.CalcQuantilesSaid :=
  OpenClaim.holds_of_wide 5 Try.f5 rfl rfl rfl rfl rfl rfl rfl ⟨rfl, rfl, rfl, rfl, rfl⟩ rfl rfl rfl rfl rfl (by kernel_rfl) Try.func5 (by kernel_rfl)
    (of_decide_eq_true (by kernel_rfl)) (by unfold Func.isWrapper; first | (rw [if_pos (by decide +kernel)]; kernel_rfl) | (rw [if_neg (by decide +kernel)]; exact ⟨rfl, rfl⟩))
    (fun os started H enc _ => quantiles_lifted os started H enc)
#print axioms quantiles_said
end Go.Proofs.Ytfjfpplemgjcmab
