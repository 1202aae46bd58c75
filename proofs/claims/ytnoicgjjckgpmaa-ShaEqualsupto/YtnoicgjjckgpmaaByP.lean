/- ShaEquals: the second form's row. -/
import Derived.Test.YtnoicgjjckgpmaaByE
import Derived.Deep.SlicePairs
import Derived.ProofKit
import Derived.OpenShut
import Derived.ChangeSlices
import Derived.ChangeOld
import Derived.Carry
namespace Go.Proofs.Ytnoicgjjckgpmaa
open Go.ChangeShapes Go.WideShapes Go.ChangeAt Go.RowKit

theorem own : ownKnob Try.prog.godebug = none := by kernel_rfl
theorem laidOut : laidOutB Try.prog = true := by kernel_rfl

theorem bulk_mem {H : Type} : ∀ (l : List (DataW H)) (d : DataW H), d ∈ l → Rows.uptoBulk d ≤ Rows.uptoBulkAll l
  | x :: l, d, h => by
    rw [Rows.uptoBulkAll]
    rcases List.mem_cons.1 h with rfl | h
    · omega
    · have := bulk_mem l d h
      omega
theorem bulk_pos {H : Type} (d : DataW H) : 1 ≤ Rows.uptoBulk d := by
  unfold Rows.uptoBulk
  split <;> omega
theorem bulk_count {H : Type} : ∀ (l : List (DataW H)), l.length ≤ Rows.uptoBulkAll l
  | [] => by simp
  | x :: l => by
    have h1 := bulk_pos x
    have h2 := bulk_count l
    rw [Rows.uptoBulkAll, List.length_cons]
    omega

/-- A list of bytes that came in. -/
theorem bytes_open {H : Type} {enc : TypeId × Value → H} {W : World} {v : Value} {d : DataW H} {p : List MemPlace} {fuel : Nat}
    (hf : DataW.trod enc Try.prog W 0 (fun _ => true) true fuel 24 [v] = some (d, p)) (hz : Rows.uptoBulk d ≤ 1048576) :
    ∃ (a : Option Addr) (c : Nat) (xs : List Int), v = .slice a xs.length c ∧ Im W a xs ∧ By xs ∧ xs.length ≤ 1048576 := by
  rcases open_ints Try.underlying24 Try.underlying5 (by kernel_rfl) hf with ⟨hcs, _⟩ | ⟨x, l, c, zs, hcs, _, hl, hm, hzl, hd, hall, hwf⟩
  · have e : v = .slice none 0 0 := by simpa using hcs
    exact ⟨none, 0, [], e, .inl rfl, fun j hj => absurd hj (by simp), by simp⟩
  · have e : v = .slice (some x) l c := by simpa using hcs
    have hsl : zs.length = c := by simpa using hzl
    obtain ⟨rfl, _⟩ := Prod.mk.inj hd
    rw [Rows.uptoBulk] at hz
    have hlen : (zs.take l).length = l := by rw [List.length_take]; omega
    have hcnt := bulk_count (lits (H := H) .u8 (zs.take l))
    have hll : (lits (H := H) .u8 (zs.take l)).length = l := by rw [← hlen]; simp [lits]
    have hget : ∀ i, i < l → (zs.take l).getD i 0 = zs.getD i 0 := fun i hi => by
      simp only [List.getD]
      rw [List.getElem?_take_of_lt hi]
    refine ⟨some x, c, zs.take l, by rw [hlen]; exact e, ?_, fun j hj => ?_, by omega⟩
    · by_cases h0 : l = 0
      · left
        rw [h0]; rfl
      · right
        obtain ⟨g, o, sp⟩ := x
        have hsp : sp = none := by
          have := hall 0 (by omega)
          simpa [Addr.add] using World.cell?_spot this
        subst hsp
        have h00 := hall 0 (by omega)
        rw [Go.WideShapes.add_plain] at h00
        refine ⟨g, o, rfl, block_lt_of_cell h00, fun i hi => ?_⟩
        have hi' : i < l := by simpa [hlen] using hi
        have := hall i (by omega)
        rw [Go.WideShapes.add_plain] at this
        rw [hget i hi']
        exact this
    · have hj' : j < l := by simpa [hlen] using hj
      rw [hget j hj']
      have hmem : zs.getD j 0 ∈ zs := by
        simp only [List.getD, List.getElem?_eq_getElem (show j < zs.length by omega), Option.getD_some]
        exact List.getElem_mem _
      simpa [Lit.wf, IntKind.min, IntKind.max, IntKind.signed, IntKind.bits] using hwf _ hmem

/-- Pairs that came in. -/
theorem prs_open {H : Type} {enc : TypeId × Value → H} {W : World} {a : Option Addr} {len cap : Nat} {d : DataW H} {p : List MemPlace} {fuel : Nat}
    (hf : DataW.trod enc Try.prog W 0 (fun _ => true) true fuel 22 (Value.slice a len cap).cells.toList = some (d, p))
    (hz : Rows.uptoBulk d ≤ 1048576) : len ≤ 1048576 ∧ ∃ q : Nat → Pr, PrsIn W a q len := by
  rcases Go.Deep.open_slice_pairs (f0 := ⟨_, _, _, _, _, _, _⟩) (f1 := ⟨_, _, _, _, _, _, _⟩) Try.underlying22 Try.underlying27 (by kernel_rfl) rfl rfl (by kernel_rfl) (by kernel_rfl) hf with ⟨hcs, _⟩ | ⟨x, l, c, m, n, V0, V1, D0, D1, P0, P1, hcs, _, hl, hm, hmm, hd, hall⟩
  · simp [Value.cells] at hcs
    obtain ⟨_, rfl, _⟩ := hcs
    exact ⟨by omega, fun _ => ⟨none, 0, [], none, 0, []⟩, fun j hj => absurd hj (by omega)⟩
  · simp [Value.cells] at hcs
    obtain ⟨rfl, rfl, rfl⟩ := hcs
    have hm' : m = cap := by simpa using hmm
    obtain ⟨rfl, _⟩ := Prod.mk.inj hd
    rw [Rows.uptoBulk] at hz
    have hcnt := bulk_count ((List.range len).map fun i => (DataW.agg [D0 i, D1 i] : DataW H))
    rw [List.length_map, List.length_range] at hcnt
    have hq : ∀ i, i < len → ∃ q : Pr, V0 i = .slice q.a q.x.length q.c ∧ V1 i = .slice q.b q.y.length q.d ∧ Im W q.a q.x ∧ Im W q.b q.y ∧ By q.x ∧ By q.y ∧ q.x.length ≤ 1048576 ∧ q.y.length ≤ 1048576 := by
      intro i hi
      obtain ⟨_, _, t0, t1⟩ := hall i (by omega)
      have hmem : (DataW.agg [D0 i, D1 i] : DataW H) ∈ (List.range len).map fun i => (DataW.agg [D0 i, D1 i] : DataW H) := List.mem_map.2 ⟨i, List.mem_range.2 hi, rfl⟩
      have hb := bulk_mem _ _ hmem
      have hbl : Rows.uptoBulk (DataW.agg [D0 i, D1 i] : DataW H) = Rows.uptoBulk (D0 i) + (Rows.uptoBulk (D1 i) + 0) + 1 := by simp only [Rows.uptoBulk, Rows.uptoBulkAll]
      obtain ⟨a0, c0, xs, e0, i0, b0, l0⟩ := bytes_open t0 (by omega)
      obtain ⟨a1, c1, ys, e1, i1, b1, l1⟩ := bytes_open t1 (by omega)
      exact ⟨⟨a0, c0, xs, a1, c1, ys⟩, e0, e1, i0, i1, b0, b1, l0, l1⟩
    have hI : Inhabited Pr := ⟨⟨none, 0, [], none, 0, []⟩⟩
    obtain ⟨q, hq'⟩ := Go.Deep.choose_lt hq
    refine ⟨by omega, q, fun j hj => ?_⟩
    obtain ⟨b, off, spot⟩ := x
    have hspot : spot = none := by
      have := (hall 0 (by omega)).1
      simpa [Addr.add] using World.cell?_spot this
    subst hspot
    obtain ⟨c0, c1, _, _⟩ := hall j (by omega)
    rw [Go.WideShapes.add_plain] at c0 c1
    obtain ⟨e0, e1, r⟩ := hq' j hj
    rw [e0] at c0
    rw [e1] at c1
    exact ⟨b, off, rfl, block_lt_of_cell c0, c0, by rw [Nat.add_assoc]; exact c1, r⟩

set_option maxRecDepth 100000 in
theorem equals_lifted (os : Os) (started : os.Started) (H : Type) (enc : TypeId × Value → H) (F : Stop.Interp) :
    ReturnsInHanded {} Try.checked os 3 .any ((Rows.OpenSpec.upto Rows.shaEqualsSpec).pre6 enc Try.prog Try.f3 Rows.shaEqualsUptoRow.domain false) (((Rows.OpenSpec.upto Rows.shaEqualsSpec).at F).post enc Try.prog Try.f3 false true false false) := by
  refine returnsInHanded_of_cond (C := Try.checked) (s := Rows.OpenSpec.upto Rows.shaEqualsSpec) (k := Rows.uptoSmall) rfl own started (by kernel_rfl) Try.func3
    (OpenSpec.witness (enc := enc) (C := Try.checked) (s := Rows.OpenSpec.upto Rows.shaEqualsSpec) (k := Rows.uptoSmall) rfl false ⟨#[], #[.slice none 0 0], []⟩ 8 (by kernel_rfl) (by kernel_rfl) (by kernel_rfl)
      (x := ([.nil], [], [])) (by kernel_rfl) rfl (by kernel_rfl)) ?_
  intro W base args ds gs before hval0 hW _ hk _
  have hval : ∀ (j : Nat) t v, Try.f3.params[j]? = some t → args[j]? = some v → Value.okWide Try.prog W .any base t v := hval0
  have hW' := hW
  obtain ⟨p, q, hA0, hV, rfl, _, _⟩ := hW
  have hA : DataW.TrodAll enc Try.prog W 0 (fun _ => true) true Try.f3.params.toList args.toList ds p := hA0
  rw [Try.params3] at hA hval
  obtain ⟨v0, d0, rfl, rfl, h0⟩ := trodAll_one hA
  obtain ⟨rfl, rfl⟩ := trodVars_none hV
  obtain ⟨a0, n0, c0, rfl⟩ := okWide_slice Try.underlying22 (hval 0 22 v0 rfl rfl)
  have k0 := h0
  have lt0 : ∀ x ∈ p, x.block < W.heap.size := by obtain ⟨m, hm⟩ := k0; exact DataW.trod_lt m _ _ _ hm
  have hkk := of_decide_eq_true hk
  simp only [Rows.uptoBulkAll, List.append_nil] at hkk
  have walk : Calls Try.prog 3 #[.slice a0 n0 c0] W fun e w' => e = .returned (.bool true) ∧ Below W.heap.size W w' := by
    obtain ⟨fuel, hf⟩ := h0
    obtain ⟨hn0, S, hin0⟩ := prs_open hf (by omega)
    exact equals_walk a0 n0 c0 S W hn0 hin0
  refine walk.mono fun e W' ⟨he, bel⟩ => ?_
  subst he
  exact ⟨_, rfl, _, _, _, [], _, [], hW', trodAll_mk1 (shut_bool Try.underlying4 _), trodAll_mk1 (Below.trod laidOut (by kernel_rfl) (of_decide_eq_true (by kernel_rfl)) k0 bel lt0), rfl, bel.frame _, fun h => by cases h⟩

theorem equals_said : Rows.ShaEqualsUptoSaid :=
  OpenClaim.holds_of_cond 3 Try.f3 rfl rfl rfl rfl rfl rfl rfl ⟨rfl, rfl, rfl, rfl, rfl⟩ rfl rfl rfl rfl rfl (by kernel_rfl) Try.func3 (by kernel_rfl)
    (of_decide_eq_true (by kernel_rfl)) (by unfold Func.isWrapper; first | (rw [if_pos (by decide +kernel)]; kernel_rfl) | (rw [if_neg (by decide +kernel)]; exact ⟨rfl, rfl⟩))
    (fun os started H enc _ F => equals_lifted os started H enc F)
#print axioms equals_said
end Go.Proofs.Ytnoicgjjckgpmaa
