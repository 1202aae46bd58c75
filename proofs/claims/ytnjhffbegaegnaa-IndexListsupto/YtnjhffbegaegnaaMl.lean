/- IndexLists: the second form's row. -/
import Derived.Test.YtnjhffbegaegnaaMk
import Derived.ProofKit
import Derived.OpenShut
import Derived.ChangeSlices
import Derived.ChangeOld
import Derived.Carry
namespace Go.Proofs.Ytnjhffbegaegnaa
open Go.ChangeShapes Go.WideShapes Go.ChangeAt Go.RowKit

theorem own : ownKnob Try.prog.godebug = none := by kernel_rfl
theorem laidOut : laidOutB Try.prog = true := by kernel_rfl

theorem bulk_mem {H : Type} : ∀ (l : List (DataW H)) (d : DataW H), d ∈ l → Rows.uptoBulk d ≤ Rows.uptoBulkAll l
  | x :: l, d, h => by
    rw [Rows.uptoBulkAll]
    rcases List.mem_cons.1 h with rfl | h
    · omega
    · have := bulk_mem l d h
      omega
theorem bulk_pos {H : Type} (d : DataW H) : 1 ≤ Rows.uptoBulk d := by
  unfold Rows.uptoBulk
  split <;> omega
theorem bulk_count {H : Type} : ∀ (l : List (DataW H)), l.length ≤ Rows.uptoBulkAll l
  | [] => by simp
  | x :: l => by
    have h1 := bulk_pos x
    have h2 := bulk_count l
    rw [Rows.uptoBulkAll, List.length_cons]
    omega

/-- A list of numbers that came in. -/
theorem nums_open {H : Type} {enc : TypeId × Value → H} {W : World} {v : Value} {d : DataW H} {p : List MemPlace} {fuel : Nat}
    (hf : DataW.trod enc Try.prog W 0 (fun _ => true) true fuel 22 [v] = some (d, p)) (hz : Rows.uptoBulk d ≤ 1048576) :
    ∃ (a : Option Addr) (c : Nat) (xs : List Int), v = .slice a xs.length c ∧ Zm W a xs ∧ xs.length ≤ c ∧ xs.length ≤ 1048576 := by
  rcases open_ints Try.underlying22 Try.underlying3 (by kernel_rfl) hf with ⟨hcs, _⟩ | ⟨x, l, c, zs, hcs, _, hl, hm, hzl, hd, hall, hwf⟩
  · have e : v = .slice none 0 0 := by simpa using hcs
    exact ⟨none, 0, [], e, .inl rfl, Nat.le_refl _, by simp⟩
  · have e : v = .slice (some x) l c := by simpa using hcs
    have hsl : zs.length = c := by simpa using hzl
    obtain ⟨rfl, _⟩ := Prod.mk.inj hd
    rw [Rows.uptoBulk] at hz
    have hlen : (zs.take l).length = l := by rw [List.length_take]; omega
    have hcnt := bulk_count (lits (H := H) .i64 (zs.take l))
    have hll : (lits (H := H) .i64 (zs.take l)).length = l := by rw [← hlen]; simp [lits]
    have hget : ∀ i, i < l → (zs.take l).getD i 0 = zs.getD i 0 := fun i hi => by
      simp only [List.getD]
      rw [List.getElem?_take_of_lt hi]
    refine ⟨some x, c, zs.take l, by rw [hlen]; exact e, ?_, by omega, by omega⟩
    by_cases h0 : l = 0
    · left
      rw [h0]; rfl
    · right
      obtain ⟨g, o, sp⟩ := x
      have hsp : sp = none := by
        have := hall 0 (by omega)
        simpa [Addr.add] using World.cell?_spot this
      subst hsp
      have h00 := hall 0 (by omega)
      rw [Go.WideShapes.add_plain] at h00
      refine ⟨g, o, rfl, block_lt_of_cell h00, fun i hi => ?_⟩
      have hi' : i < l := by simpa [hlen] using hi
      have := hall i (by omega)
      rw [Go.WideShapes.add_plain] at this
      rw [hget i hi']
      exact this

set_option maxRecDepth 100000 in
theorem lists_lifted (os : Os) (started : os.Started) (H : Type) (enc : TypeId × Value → H) (F : Stop.Interp) :
    ReturnsInHanded {} Try.checked os 3 .any ((Rows.OpenSpec.upto Rows.indexListsSpec).pre6 enc Try.prog Try.f3 Rows.indexListsUptoRow.domain false) (((Rows.OpenSpec.upto Rows.indexListsSpec).at F).post enc Try.prog Try.f3 false true false false) := by
  refine returnsInHanded_of_cond (C := Try.checked) (s := Rows.OpenSpec.upto Rows.indexListsSpec) (k := Rows.uptoSmall) rfl own started (by kernel_rfl) Try.func3
    (OpenSpec.witness (enc := enc) (C := Try.checked) (s := Rows.OpenSpec.upto Rows.indexListsSpec) (k := Rows.uptoSmall) rfl false ⟨#[], #[.slice none 0 0, .slice none 0 0], []⟩ 8 (by kernel_rfl) (by kernel_rfl) (by kernel_rfl)
      (x := ([.nil, .nil], [], [])) (by kernel_rfl) rfl (by kernel_rfl)) ?_
  intro W base args ds gs before hval0 hW _ hk _
  have hval : ∀ (j : Nat) t v, Try.f3.params[j]? = some t → args[j]? = some v → Value.okWide Try.prog W .any base t v := hval0
  have hW' := hW
  obtain ⟨p, q, hA0, hV, rfl, _, _⟩ := hW
  have hA : DataW.TrodAll enc Try.prog W 0 (fun _ => true) true Try.f3.params.toList args.toList ds p := hA0
  rw [Try.params3] at hA hval
  obtain ⟨v0, v1, d0, d1, p0, p1, rfl, rfl, rfl, h0, h1⟩ := trodAll_two hA
  obtain ⟨rfl, rfl⟩ := trodVars_none hV
  obtain ⟨a0, n0, c0, rfl⟩ := okWide_slice Try.underlying22 (hval 0 22 v0 rfl rfl)
  obtain ⟨a1, n1, c1, rfl⟩ := okWide_slice Try.underlying22 (hval 1 22 v1 rfl rfl)
  have k0 := h0
  have k1 := h1
  have lt0 : ∀ x ∈ p0, x.block < W.heap.size := by obtain ⟨m, hm⟩ := k0; exact DataW.trod_lt m _ _ _ hm
  have lt1 : ∀ x ∈ p1, x.block < W.heap.size := by obtain ⟨m, hm⟩ := k1; exact DataW.trod_lt m _ _ _ hm
  have hkk := of_decide_eq_true hk
  simp only [Rows.uptoBulkAll, List.append_nil] at hkk
  have walk : Calls Try.prog 3 #[.slice a0 n0 c0, .slice a1 n1 c1] W fun e w' => e = .returned (.bool true) ∧ Below W.heap.size W w' := by
    obtain ⟨f0, hf0⟩ := h0
    obtain ⟨f1, hf1⟩ := h1
    obtain ⟨a, c, xs, e0, hI, hc, hl⟩ := nums_open hf0 (by omega)
    obtain ⟨b, d, ys, e1, hJ, hd, hm⟩ := nums_open hf1 (by omega)
    rw [e0, e1]
    exact lists_walk a b c d xs ys W hI hJ hc hd hl hm
  refine walk.mono fun e W' ⟨he, bel⟩ => ?_
  subst he
  exact ⟨_, rfl, _, _, _, [], _, [], hW', trodAll_mk1 (shut_bool Try.underlying4 _), trodAll_mk2 (Below.trod laidOut (by kernel_rfl) (of_decide_eq_true (by kernel_rfl)) k0 bel lt0) (Below.trod laidOut (by kernel_rfl) (of_decide_eq_true (by kernel_rfl)) k1 bel lt1), rfl, bel.frame _, fun h => by cases h⟩

theorem lists_said : Rows.IndexListsUptoSaid :=
  OpenClaim.holds_of_cond 3 Try.f3 rfl rfl rfl rfl rfl rfl rfl ⟨rfl, rfl, rfl, rfl, rfl⟩ rfl rfl rfl rfl rfl (by kernel_rfl) Try.func3 (by kernel_rfl)
    (of_decide_eq_true (by kernel_rfl)) (by unfold Func.isWrapper; first | (rw [if_pos (by decide +kernel)]; kernel_rfl) | (rw [if_neg (by decide +kernel)]; exact ⟨rfl, rfl⟩))
    (fun os started H enc _ F => lists_lifted os started H enc F)
#print axioms lists_said
end Go.Proofs.Ytnjhffbegaegnaa
