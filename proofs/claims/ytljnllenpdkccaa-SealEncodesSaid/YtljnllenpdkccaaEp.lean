/- SealEncodes: the row. -/
import Derived.Test.YtljnllenpdkccaaEl
import Derived.ProofKit
import Derived.OpenShut
import Derived.ChangeSlices
import Derived.ChangeSame
import Derived.ChangeOld
import Derived.Carry
import Derived.SizedLaws
import Derived.SliceStrings
import Derived.Deep.Matrix
namespace Go.Proofs.Ytljnllenpdkccaa
open Go.ChangeShapes Go.WideShapes Go.ChangeAt Go.RowKit

theorem ownE : ownKnob Try.prog.godebug = none := by kernel_rfl
theorem laidOutE : laidOutB Try.prog = true := by kernel_rfl

theorem weights_all {H : Type} {P : Program} {e : TypeId} : ∀ {ds : List (DataW H)} {d : DataW H}, d ∈ ds → ∀ n ∈ d.weights P e, n ∈ DataW.weightsAll P e ds
  | x :: r, d, h, n, hn => by
    simp only [DataW.weightsAll, List.mem_append]
    rcases List.mem_cons.1 h with rfl | h
    · exact .inl hn
    · exact .inr (weights_all h n hn)
theorem weights_elem {H : Type} {P : Program} {t e : TypeId} {es ss : List (DataW H)} {d : DataW H} (hu : P.underlying t = some (.slice e)) (hd : d ∈ es) (n : Nat) (hn : n ∈ d.weights P e) : n ∈ (DataW.slice es ss : DataW H).weights P t := by
  simp only [DataW.weights, hu, List.mem_cons, List.mem_append]
  exact .inr (.inl (weights_all hd n hn))

/-- Lists of bytes that came in. -/
theorem lists_open {H : Type} {enc : TypeId × Value → H} {W : World} {a : Option Addr} {len cap : Nat} {d : DataW H} {p : List MemPlace} {fuel : Nat}
    (hf : DataW.trod enc Try.prog W 0 (fun _ => true) true fuel 37 (Value.slice a len cap).cells.toList = some (d, p))
    (hz : ∀ n ∈ d.weights Try.prog 37, n ≤ reachBytes) : len ≤ 9223372036854775807 ∧ ∃ q : Nat → Bx, LsIn W a q len := by
  rcases Go.Deep.open_int_rows Try.underlying37 Try.underlying24 Try.underlying5 (by kernel_rfl) (by kernel_rfl) hf with ⟨hcs, _⟩ | ⟨x, l, c, A, L, C, Z, hcs, _, hl, hm, hd, hall⟩
  · simp [Value.cells] at hcs
    obtain ⟨_, rfl, _⟩ := hcs
    exact ⟨by omega, fun _ => ⟨none, 0, []⟩, fun j hj => absurd hj (by omega)⟩
  · simp [Value.cells] at hcs
    obtain ⟨rfl, rfl, rfl⟩ := hcs
    obtain ⟨rfl, _⟩ := Prod.mk.inj hd
    unfold maxLen at hm
    refine ⟨by omega, fun r => ⟨A r, C r, (Z r).take (L r)⟩, fun j hj => ?_⟩
    obtain ⟨b, off, spot⟩ := x
    have hspot : spot = none := by
      have := (hall 0 (by omega)).1
      simpa [Addr.add] using World.cell?_spot this
    subst hspot
    obtain ⟨c0, h1, h2, h3, h4, h5, h6⟩ := hall j (by omega)
    rw [Go.WideShapes.add_plain] at c0
    have hlen : ((Z j).take (L j)).length = L j := by rw [List.length_take]; omega
    have hget : ∀ i, i < L j → ((Z j).take (L j)).getD i 0 = (Z j).getD i 0 := fun i hi => by
      simp only [List.getD]
      rw [List.getElem?_take_of_lt hi]
    have hsmall : Small 8 ((Z j).take (L j)) := fun i hi => by
      rw [hlen] at hi
      rw [hget i hi]
      have hmem : (Z j).getD i 0 ∈ Z j := by
        simp only [List.getD, List.getElem?_eq_getElem (show i < (Z j).length by omega), Option.getD_some]
        exact List.getElem_mem _
      have := h4 _ hmem
      generalize (Z j).getD i 0 = z at *
      simp [Lit.wf, IntKind.min, IntKind.max, IntKind.signed, IntKind.bits] at this
      exact ⟨this.1, by show _ < (256 : Int); omega⟩
    have him : Im W (A j) ((Z j).take (L j)) := by
      by_cases h0 : L j = 0
      · left
        rw [h0]; rfl
      · right
        cases hA : A j with
        | none => have := h5 hA; omega
        | some a' =>
          obtain ⟨_, hc⟩ := h6 a' hA
          obtain ⟨g, o, sp⟩ := a'
          have hsp : sp = none := by
            have := hc 0 (by omega)
            simpa [Addr.add] using World.cell?_spot this
          subst hsp
          have h00 := hc 0 (by omega)
          rw [Go.WideShapes.add_plain] at h00
          refine ⟨g, o, rfl, block_lt_of_cell h00, fun i hi => ?_⟩
          rw [hlen] at hi
          have := hc i (by omega)
          rw [Go.WideShapes.add_plain] at this
          rw [hget i hi]
          exact this
    have hsz : L j ≤ 140737488355328 := by
      cases hA : A j with
      | none => have := h5 hA; omega
      | some a' =>
        have hmem : Go.Deep.intRow (H := H) .u8 (A j) (L j) (Z j) ∈ (List.range len).map fun r => Go.Deep.intRow (H := H) .u8 (A r) (L r) (Z r) := List.mem_map.2 ⟨j, List.mem_range.2 hj, rfl⟩
        have hw := hz (C j) (weights_elem Try.underlying37 hmem (C j) (by
          rw [hA]
          have hb : Try.prog.bytesOf 5 = 1 := by kernel_rfl
          simp only [Go.Deep.intRow, DataW.weights, Try.underlying24, hb, lits, List.length_map, List.length_take, List.length_drop, Nat.mul_one, List.mem_cons]
          left
          omega))
        have : reachBytes = 140737488351232 := by decide
        omega
    exact ⟨b, off, rfl, block_lt_of_cell c0, by rw [hlen]; exact c0, him, hsmall, by rw [hlen]; exact hsz⟩

/-- Texts that came in. -/
theorem texts_open {H : Type} {enc : TypeId × Value → H} {W : World} {a : Option Addr} {len cap : Nat} {d : DataW H} {p : List MemPlace} {fuel : Nat}
    (hf : DataW.trod enc Try.prog W 0 (fun _ => true) true fuel 38 (Value.slice a len cap).cells.toList = some (d, p))
    (hz : ∀ n ∈ d.weights Try.prog 38, n ≤ reachBytes) : len ≤ 9223372036854775807 ∧ ∃ T : Nat → ByteArray, TsIn W a T len := by
  rcases open_strings Try.underlying38 Try.underlying9 (by kernel_rfl) hf with ⟨hcs, _⟩ | ⟨x, l, c, ss, hcs, _, hl, hm, hss, hd, hall, _⟩
  · simp [Value.cells] at hcs
    obtain ⟨_, rfl, _⟩ := hcs
    exact ⟨by omega, fun _ => ByteArray.empty, fun j hj => absurd hj (by omega)⟩
  · simp [Value.cells] at hcs
    obtain ⟨rfl, rfl, rfl⟩ := hcs
    have hsl : ss.length = cap := by simpa using hss
    obtain ⟨rfl, _⟩ := Prod.mk.inj hd
    unfold maxLen at hm
    refine ⟨by omega, fun j => ss.getD j ByteArray.empty, fun j hj => ?_⟩
    obtain ⟨b, off, spot⟩ := x
    have hspot : spot = none := by
      have := hall 0 (by omega)
      simpa [Addr.add] using World.cell?_spot this
    subst hspot
    have c0 := hall j (by omega)
    rw [Go.WideShapes.add_plain] at c0
    refine ⟨b, off, rfl, block_lt_of_cell c0, c0, ?_⟩
    have hjs : j < ss.length := by omega
    have hmem : (DataW.lit (.string (ss[j]).data.toList) : DataW H) ∈ strs (ss.take len) := by
      unfold strs
      exact List.mem_map.2 ⟨ss[j], List.mem_iff_getElem.2 ⟨j, by rw [List.length_take]; omega, by simp⟩, rfl⟩
    have hw := hz _ (weights_elem Try.underlying38 hmem _ (by simp only [DataW.weights]; exact List.mem_singleton.2 rfl))
    have hr : reachBytes = 140737488351232 := by decide
    have e : ss.getD j ByteArray.empty = ss[j] := by simp [List.getD, List.getElem?_eq_getElem hjs]
    show (ss.getD j ByteArray.empty).size ≤ _
    rw [e]
    have : (ss[j]).data.toList.length = (ss[j]).size := by simp
    omega

set_option maxRecDepth 100000 in
theorem encodes_lifted (os : Os) (started : os.Started) (H : Type) (enc : TypeId × Value → H) :
    ReturnsInHanded {} Try.checked os 4 .any (Rows.sealEncodesSpec.pre6 enc Try.prog Try.f4 Rows.sealEncodesRow.domain false) (Rows.sealEncodesSpec.post enc Try.prog Try.f4 false true false false) := by
  refine returnsInHanded_of_change_sized (C := Try.checked) ownE started (by kernel_rfl) Try.func4
    (ChangeSpec.witness6 (enc := enc) (C := Try.checked) false ⟨#[], #[.slice none 0 0, .slice none 0 0], []⟩ 8 (by kernel_rfl) (by kernel_rfl) (by kernel_rfl) (by kernel_rfl)) ?_
  intro W base args ds gs before hval0 hW hcnd hsz0 _
  have hval : ∀ (j : Nat) t v, Try.f4.params[j]? = some t → args[j]? = some v → Value.okWide Try.prog W .any base t v := hval0
  have hsz : (DataW.weightsEach Try.prog (Try.f4.params.toList ++ Rows.sealEncodesSpec.plain.varTypes Try.prog) (ds ++ gs)).all (· ≤ reachBytes) = true := hsz0
  have hW' := hW
  obtain ⟨p, q, hA0, hV, rfl, hfz, hnd⟩ := hW
  have hA : DataW.TrodAll enc Try.prog W 0 (fun _ => true) true Try.f4.params.toList args.toList ds p := hA0
  rw [Try.params4] at hA hval hsz
  obtain ⟨v0, v1, d0, d1, p0, p1, rfl, rfl, rfl, h0, h1⟩ := trodAll_two hA
  obtain ⟨rfl, rfl⟩ := trodVars_none hV
  obtain ⟨a0, n0, c0, rfl⟩ := okWide_slice Try.underlying37 (hval 0 37 v0 rfl rfl)
  obtain ⟨a1, n1, c1, rfl⟩ := okWide_slice Try.underlying38 (hval 1 38 v1 rfl rfl)
  have k0 := h0
  have k1 := h1
  have lt0 : ∀ x ∈ p0, x.block < W.heap.size := by obtain ⟨m, hm⟩ := k0; exact DataW.trod_lt m _ _ _ hm
  have lt1 : ∀ x ∈ p1, x.block < W.heap.size := by obtain ⟨m, hm⟩ := k1; exact DataW.trod_lt m _ _ _ hm
  have z0 : ∀ n ∈ d0.weights Try.prog 37, n ≤ reachBytes := fun n hn => by
    have := List.all_eq_true.1 hsz _ (DataW.weights_mem_each (j := 0) (t := 37) (d := d0) rfl rfl n hn)
    simpa using this
  have z1 : ∀ n ∈ d1.weights Try.prog 38, n ≤ reachBytes := fun n hn => by
    have := List.all_eq_true.1 hsz _ (DataW.weights_mem_each (j := 1) (t := 38) (d := d1) rfl rfl n hn)
    simpa using this
  have walk : Calls Try.prog 4 #[.slice a0 n0 c0, .slice a1 n1 c1] W fun e w' => e = .returned (.bool true) ∧ Below W.heap.size W w' := by
    obtain ⟨f0, hf0⟩ := h0
    obtain ⟨f1, hf1⟩ := h1
    obtain ⟨hn0, qs, hin⟩ := lists_open hf0 z0
    obtain ⟨hn1, ts, tin⟩ := texts_open hf1 z1
    exact encodes_walk a0 a1 n0 c0 n1 c1 qs ts W hn0 hn1 hin tin
  refine walk.mono fun e W' ⟨he, bel⟩ => ?_
  subst he
  exact ⟨_, rfl, _, _, _, [], _, [], hW', trodAll_mk1 (shut_bool Try.underlying4 _), trodAll_mk2 (Below.trod laidOutE (by kernel_rfl) (of_decide_eq_true (by kernel_rfl)) k0 bel lt0) (Below.trod laidOutE (by kernel_rfl) (of_decide_eq_true (by kernel_rfl)) k1 bel lt1), rfl, bel.frame _, fun h => by cases h⟩

theorem encodes_said : Rows.SealEncodesSaid :=
  OpenClaim.holds_of_wide 4 Try.f4 rfl rfl rfl rfl rfl rfl rfl ⟨rfl, rfl, rfl, rfl, rfl⟩ rfl rfl rfl rfl rfl (by kernel_rfl) Try.func4 (by kernel_rfl)
    (of_decide_eq_true (by kernel_rfl)) (by unfold Func.isWrapper; first | (rw [if_pos (by decide +kernel)]; kernel_rfl) | (rw [if_neg (by decide +kernel)]; exact ⟨rfl, rfl⟩))
    (fun os started H enc _ => encodes_lifted os started H enc)
#print axioms encodes_said
end Go.Proofs.Ytljnllenpdkccaa
