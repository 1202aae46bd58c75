/- UtfRunes: the second form's row and its card. -/
import Derived.Test.YtdnbkgbgpfmipabDoorKit
import Derived.SliceStrings
import Derived.Deep.Matrix
import Derived.Test.YtdnbkgbgpfmipabDoorRunesWalk
import Derived.OpenShut
import Derived.ShutString
import Derived.ChangeOld
import Derived.Deep.DeepHandedRow
namespace Go.Proofs.YtdnbkgbgpfmipabDoor
open Go.ChangeShapes Go.WideShapes Go.ChangeAt Go.RowKit Go.Lib

theorem bulk_mem {H : Type} : ∀ (l : List (DataW H)) (d : DataW H), d ∈ l → Rows.uptoBulk d ≤ Rows.uptoBulkAll l
  | x :: l, d, h => by
    rw [Rows.uptoBulkAll]
    rcases List.mem_cons.1 h with rfl | h
    · omega
    · have := bulk_mem l d h
      omega
theorem bulk_pos {H : Type} (d : DataW H) : 1 ≤ Rows.uptoBulk d := by
  unfold Rows.uptoBulk
  split <;> omega
theorem bulk_count {H : Type} : ∀ (l : List (DataW H)), l.length ≤ Rows.uptoBulkAll l
  | [] => by simp
  | x :: l => by
    have h1 := bulk_pos x
    have h2 := bulk_count l
    rw [Rows.uptoBulkAll, List.length_cons]
    omega
theorem bulk_lits4 {H : Type} (k : IntKind) : ∀ (l : List Int), Rows.uptoBulkAll (lits (H := H) k l) = l.length
  | [] => by simp only [lits, List.map_nil, Rows.uptoBulkAll, List.length_nil]
  | x :: l => by
    have hb : Rows.uptoBulk (DataW.lit (H := H) (.int k x)) = 1 := by simp only [Rows.uptoBulk]
    show Rows.uptoBulkAll (DataW.lit (.int k x) :: lits k l) = _
    rw [Rows.uptoBulkAll, hb, bulk_lits4 k l, List.length_cons]
    omega

/-- Texts that came in. -/
theorem strs_open {H : Type} {enc : TypeId × Value → H} {W : World} {a : Option Addr} {len cap : Nat} {d : DataW H} {p : List MemPlace} {fuel : Nat}
    (hf : DataW.trod enc Tryd.prog W 0 (fun _ => true) true fuel 32 (Value.slice a len cap).cells.toList = some (d, p))
    (hz : Rows.uptoBulk d ≤ 1048576) :
    len ≤ 1048576 ∧ ∃ S : Nat → ByteArray, StrsIn W a S len := by
  rcases open_strings Tryd.underlying32 Tryd.underlying9 (by kernel_rfl) hf with ⟨hcs, _⟩ | ⟨x, l, c, ss, hcs, _, hl, hm, hss, hd, hall, _⟩
  · simp [Value.cells] at hcs
    obtain ⟨_, rfl, _⟩ := hcs
    exact ⟨by omega, fun _ => ByteArray.empty, fun j hj => absurd hj (by omega)⟩
  · simp [Value.cells] at hcs
    obtain ⟨rfl, rfl, rfl⟩ := hcs
    have hsl : ss.length = cap := by simpa using hss
    obtain ⟨rfl, _⟩ := Prod.mk.inj hd
    rw [Rows.uptoBulk] at hz
    have hlen : (ss.take len).length = len := by rw [List.length_take]; omega
    have hcnt := bulk_count (strs (H := H) (ss.take len))
    have hsl2 : (strs (H := H) (ss.take len)).length = (ss.take len).length := by simp [strs]
    refine ⟨by omega, fun i => ss.getD i ByteArray.empty, fun j hj => ?_⟩
    obtain ⟨b, off, spot⟩ := x
    have hspot : spot = none := by
      have := hall 0 (by omega)
      simpa [Addr.add] using World.cell?_spot this
    subst hspot
    have hj' := hall j (by omega)
    rw [Go.WideShapes.add_plain] at hj'
    refine ⟨b, off, rfl, lt_of_cell hj', hj', ?_⟩
    have hmem : DataW.lit (H := H) (.string (ss.getD j ByteArray.empty).data.toList) ∈ strs (H := H) (ss.take len) := by
      have hj2 : j < (ss.take len).length := by omega
      have e : ss.getD j ByteArray.empty = (ss.take len)[j] := by
        rw [List.getElem_take]
        simp [List.getD, List.getElem?_eq_getElem (show j < ss.length by omega)]
      rw [e]
      exact List.mem_map.2 ⟨_, List.getElem_mem hj2, rfl⟩
    have hb := bulk_mem _ _ hmem
    have hbl : Rows.uptoBulk (DataW.lit (H := H) (.string (ss.getD j ByteArray.empty).data.toList)) = (ss.getD j ByteArray.empty).data.toList.length + 1 := by simp only [Rows.uptoBulk]
    have hsz : (ss.getD j ByteArray.empty).size = (ss.getD j ByteArray.empty).data.toList.length := by simp
    show (ss.getD j ByteArray.empty).size ≤ 1048575
    omega

/-- Lists that came in. -/
theorem lsts_open {H : Type} {enc : TypeId × Value → H} {W : World} {a : Option Addr} {len cap : Nat} {d : DataW H} {p : List MemPlace} {fuel : Nat}
    (hf : DataW.trod enc Tryd.prog W 0 (fun _ => true) true fuel 33 (Value.slice a len cap).cells.toList = some (d, p))
    (hz : Rows.uptoBulk d ≤ 1048576) :
    len ≤ 1048576 ∧ ∃ (A : Nat → Option Addr) (C : Nat → Nat) (X : Nat → List Int), LstsIn W a A C X len := by
  rcases Go.Deep.open_int_rows Tryd.underlying33 Tryd.underlying22 Tryd.underlying21 (by kernel_rfl) (by kernel_rfl) hf with ⟨hcs, _⟩ | ⟨x, l, c, A, L, C, Z, hcs, _, hl, hm, hd, hall⟩
  · simp [Value.cells] at hcs
    obtain ⟨_, rfl, _⟩ := hcs
    exact ⟨by omega, fun _ => none, fun _ => 0, fun _ => [], fun j hj => absurd hj (by omega)⟩
  · simp [Value.cells] at hcs
    obtain ⟨rfl, rfl, rfl⟩ := hcs
    obtain ⟨rfl, _⟩ := Prod.mk.inj hd
    rw [Rows.uptoBulk] at hz
    have hcnt := bulk_count ((List.range len).map fun r => Go.Deep.intRow (H := H) .i32 (A r) (L r) (Z r))
    rw [List.length_map, List.length_range] at hcnt
    refine ⟨by omega, A, C, fun r => (Z r).take (L r), fun j hj => ?_⟩
    obtain ⟨hc, hLC, hCm, hZC, hwz, hnone, hsome⟩ := hall j (by omega)
    obtain ⟨b, off, spot⟩ := x
    have hspot : spot = none := by
      have := (hall 0 (by omega)).1
      simpa [Addr.add] using World.cell?_spot this
    subst hspot
    rw [Go.WideShapes.add_plain] at hc
    have hlen : ((Z j).take (L j)).length = L j := by rw [List.length_take]; omega
    have hget : ∀ i, i < L j → ((Z j).take (L j)).getD i 0 = (Z j).getD i 0 := fun i hi => by
      simp only [List.getD]
      rw [List.getElem?_take_of_lt hi]
    refine ⟨b, off, rfl, lt_of_cell hc, ?_, ?_, ?_, ?_⟩
    · rw [hc]
      show some (Value.slice (A j) (L j) (C j)) = some (.slice (A j) ((Z j).take (L j)).length (C j))
      rw [hlen]
    · show ((Z j).take (L j)).length ≤ 1048576
      rw [hlen]
      have hmem : Go.Deep.intRow (H := H) .i32 (A j) (L j) (Z j) ∈ (List.range len).map fun r => Go.Deep.intRow (H := H) .i32 (A r) (L r) (Z r) := List.mem_map.2 ⟨j, List.mem_range.2 hj, rfl⟩
      have hb := bulk_mem _ _ hmem
      cases hA : A j with
      | none =>
        have := hnone hA
        omega
      | some a' =>
        rw [hA] at hb
        have hbl : Rows.uptoBulk (Go.Deep.intRow (H := H) .i32 (some a') (L j) (Z j)) = ((Z j).take (L j)).length + ((Z j).drop (L j)).length + 1 := by
          show Rows.uptoBulk (DataW.slice (lits .i32 ((Z j).take (L j))) (lits .i32 ((Z j).drop (L j)))) = _
          rw [Rows.uptoBulk, bulk_lits4, bulk_lits4]
        omega
    · intro i hi
      have hi' : i < L j := by simpa [hlen] using hi
      show -2147483648 ≤ ((Z j).take (L j)).getD i 0 ∧ ((Z j).take (L j)).getD i 0 ≤ 2147483647
      rw [hget i hi']
      simpa [List.getD] using range_i32 hwz i
    · by_cases h0 : L j = 0
      · left
        show (Z j).take (L j) = []
        rw [h0]; rfl
      · right
        cases hA : A j with
        | none => exact absurd (hnone hA) (by omega)
        | some a' =>
          obtain ⟨_, hcs⟩ := hsome a' hA
          obtain ⟨g, o, sp⟩ := a'
          have hsp : sp = none := by
            have := hcs 0 (by omega)
            simpa [Addr.add] using World.cell?_spot this
          subst hsp
          refine ⟨g, o, rfl, fun i hi => ?_⟩
          have hi' : i < L j := by simpa [hlen] using hi
          have := hcs i (by omega)
          rw [Go.WideShapes.add_plain] at this
          show W.cell? ⟨g, o + i, none⟩ = some (.int .i32 (((Z j).take (L j)).getD i 0))
          rw [hget i hi']
          exact this

theorem runes_laid (os : Os) : laidMet Tryd.prog laidL ((World.laidAll Tryd.prog os laidL).forCall (fun _ _ => 0) ⟨#[], #[.slice none 0 0, .slice none 0 0], []⟩).memory :=
  laidMet_laidAll _ (by kernel_rfl) (by kernel_rfl)
theorem runes_reads (os : Os) {H : Type} (enc : TypeId × Value → H) : ∃ places, DataW.whole enc Tryd.prog ((World.laidAll Tryd.prog os laidL).forCall (fun _ _ => 0) ⟨#[], #[.slice none 0 0, .slice none 0 0], []⟩).memory Tryd.f5.params.toList Rows.utfRunesSpec.vars false #[Value.slice none 0 0, Value.slice none 0 0].toList 8 = some ([.nil, .nil], [], places) :=
  ⟨[], by kernel_rfl⟩

set_option maxRecDepth 100000 in
theorem runes_lifted (os : Os) (started : os.Started) (H : Type) (enc : TypeId × Value → H) (F : Stop.Interp) :
    ReturnsInHanded {} Tryd.checked os 5 .any ((Rows.OpenSpec.upto Rows.utfRunesSpec).preRow enc Tryd.prog Tryd.f5 Rows.utfRunesUptoRow.domain false laidL) (((Rows.OpenSpec.upto Rows.utfRunesSpec).at F).post enc Tryd.prog Tryd.f5 false true false false) := by
  obtain ⟨places, hx⟩ := runes_reads os enc
  have hok : Input.okWideB Tryd.checked.prog ((World.laidAll Tryd.prog os laidL).forCall (fun _ _ => 0) ⟨#[], #[.slice none 0 0, .slice none 0 0], []⟩) 5 ⟨#[], #[.slice none 0 0, .slice none 0 0], []⟩ = true := by kernel_rfl
  refine returnsInHanded_of_row (C := Tryd.checked) (s := Rows.OpenSpec.upto Rows.utfRunesSpec) own started (by kernel_rfl) Tryd.func5
    ⟨World.laidAll Tryd.prog os laidL, fun _ _ => 0, ⟨#[], #[.slice none 0 0, .slice none 0 0], []⟩, World.laidAll_os _ _ _, World.shaped_of_ZipB (by kernel_rfl) (by kernel_rfl), (Input.okWide_of_okWideB (base := 0) hok).1, (Input.okWide_of_okWideB hok).2,
      OpenSpec.preRow_of_cond 8 hx (by kernel_rfl) (fun k hk => by cases hk; kernel_rfl) (by kernel_rfl) (runes_laid os), by
        simp only [Assume.holds]
        exact ⟨by simp, by simp, fun _ => Modest.zero, by simp, by simp⟩⟩ ?_
  intro W base args ds gs before hval0 hW _ hcond _ hL _ _
  have hval : ∀ (j : Nat) t v, Tryd.f5.params[j]? = some t → args[j]? = some v → Value.okWide Tryd.prog W .any base t v := hval0
  have hW' := hW
  obtain ⟨p, q, hA0, hV, rfl, _, _⟩ := hW
  have hA : DataW.TrodAll enc Tryd.prog W 0 (fun _ => true) true Tryd.f5.params.toList args.toList ds p := hA0
  rw [Tryd.params5] at hA hval
  obtain ⟨v0, v1, d0, d1, p0, p1, rfl, rfl, rfl, h0, h1⟩ := trodAll_two hA
  obtain ⟨rfl, rfl⟩ := trodVars_none hV
  obtain ⟨a0, n0, c0, rfl⟩ := okWide_slice Tryd.underlying32 (hval 0 32 v0 rfl rfl)
  obtain ⟨a1, n1, c1, rfl⟩ := okWide_slice Tryd.underlying33 (hval 1 33 v1 rfl rfl)
  have k0 := h0
  have k1 := h1
  have lt0 : ∀ x ∈ p0, x.block < W.heap.size := by obtain ⟨m, hm⟩ := k0; exact DataW.trod_lt m _ _ _ hm
  have lt1 : ∀ x ∈ p1, x.block < W.heap.size := by obtain ⟨m, hm⟩ := k1; exact DataW.trod_lt m _ _ _ hm
  have hT := tabs_of hL
  have hk := of_decide_eq_true (hcond _ rfl)
  simp only [Rows.uptoBulkAll, List.append_nil] at hk
  have walk : Calls Tryd.prog 5 #[.slice a0 n0 c0, .slice a1 n1 c1] W fun e w' => e = .returned (.bool true) ∧ Below W.heap.size W w' := by
    obtain ⟨fuel, hf⟩ := h0
    obtain ⟨fuel1, hf1⟩ := h1
    obtain ⟨hn0, S, hin0⟩ := strs_open hf (by omega)
    obtain ⟨hn1, A, C, X, hin1⟩ := lsts_open hf1 (by omega)
    exact runes_walk a0 a1 n0 c0 n1 c1 S A C X W hn0 hn1 hT hin0 hin1
  refine walk.mono fun e W' ⟨he, bel⟩ => ?_
  subst he
  exact ⟨_, rfl, _, _, _, [], _, [], hW', trodAll_mk1 (shut_bool Tryd.underlying4 _), trodAll_mk2 (Below.trod laidOut (by kernel_rfl) (of_decide_eq_true (by kernel_rfl)) k0 bel lt0) (Below.trod laidOut (by kernel_rfl) (of_decide_eq_true (by kernel_rfl)) k1 bel lt1), rfl, bel.frame _, fun h => by cases h⟩

theorem runes_said : Rows.UtfRunesUptoSaid :=
  OpenClaim.holds_of_cond 5 Tryd.f5 rfl rfl rfl rfl rfl rfl rfl ⟨rfl, rfl, rfl, rfl, rfl⟩ rfl rfl rfl rfl rfl (by kernel_rfl) Tryd.func5 (by kernel_rfl)
    (of_decide_eq_true (by kernel_rfl)) (by unfold Func.isWrapper; first | (rw [if_pos (by decide +kernel)]; kernel_rfl) | (rw [if_neg (by decide +kernel)]; exact ⟨rfl, rfl⟩))
    (fun os started H enc _ F => by rw [OpenClaim.pre_eq_preRow]; exact runes_lifted os started H enc F)

theorem runes_plain (f : FuncId) (fn : Func) (hf : Tryd.pinned.checked.prog.funcNamed Rows.utfRunesRow.func = some f) (hfn : Tryd.pinned.checked.prog.funcs[f]? = some fn) :
    false = Tryd.pinned.checked.prog.looks [] ∧ ∀ (j : Nat) t, fn.params[j]? = some t → Tryd.pinned.checked.prog.wantsStandIn t = false := by
  obtain rfl : f = 5 := Option.some.inj ((show Tryd.prog.funcNamed Rows.utfRunesRow.func = some 5 by kernel_rfl).symm.trans hf) |>.symm
  obtain rfl : fn = Tryd.f5 := (Option.some.inj (Tryd.func5.symm.trans hfn)).symm
  refine ⟨by kernel_rfl, fun j t ht => ?_⟩
  rw [Tryd.params5] at ht
  have hm : t ∈ [32, 33] := by simpa using Array.mem_of_getElem? ht
  have hall : ([32, 33].all fun u => !Tryd.prog.wantsStandIn u) = true := by kernel_rfl
  exact (show Tryd.prog.wantsStandIn t = false by simpa using List.all_eq_true.1 hall t hm)

theorem runes_card : Rows.UtfRunesUptoCardSaid :=
  Claim7.holds_tied_plain_at .later [] _ _ _ _ runes_said (fun _ h => by cases h) (by kernel_rfl) (fun _ h => by cases h) utfRunesUpto_row_tie rfl ⟨rfl, rfl⟩ (by kernel_rfl) rfl runes_plain (by kernel_rfl)
#print axioms runes_card
end Go.Proofs.YtdnbkgbgpfmipabDoor
