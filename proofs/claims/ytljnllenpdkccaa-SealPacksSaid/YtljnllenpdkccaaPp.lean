/- SealPacks: the row. -/
import Derived.Test.YtljnllenpdkccaaPl
import Derived.ProofKit
import Derived.OpenShut
import Derived.ChangeSlices
import Derived.ChangeSame
import Derived.ChangeOld
import Derived.Carry
namespace Go.Proofs.Ytljnllenpdkccaa
open Go.ChangeShapes Go.WideShapes Go.ChangeAt Go.RowKit

theorem own : ownKnob Try.prog.godebug = none := by kernel_rfl
theorem laidOut : laidOutB Try.prog = true := by kernel_rfl

/-- A list of bytes that came in. -/
theorem bytes_open {H : Type} {enc : TypeId × Value → H} {W : World} {v : Value} {d : DataW H} {p : List MemPlace} {fuel : Nat}
    (hf : DataW.trod enc Try.prog W 0 (fun _ => true) true fuel 24 [v] = some (d, p)) :
    ∃ (a : Option Addr) (c : Nat) (xs : List Int), v = .slice a xs.length c ∧ Im W a xs ∧ Small 8 xs ∧ xs.length ≤ c ∧ c ≤ 9223372036854775807 ∧ (d = .nil ∧ c = 0 ∨ ∃ e s : List (DataW H), d = .slice e s ∧ e.length = xs.length) := by
  rcases open_ints Try.underlying24 Try.underlying5 (by kernel_rfl) hf with ⟨hcs, hd⟩ | ⟨x, l, c, zs, hcs, _, hl, hm, hzl, hd, hall, hwf⟩
  · have e : v = .slice none 0 0 := by simpa using hcs
    obtain ⟨rfl, _⟩ := Prod.mk.inj hd
    exact ⟨none, 0, [], e, .inl rfl, fun j hj => absurd hj (by simp), by simp, by omega, .inl ⟨rfl, rfl⟩⟩
  · have e : v = .slice (some x) l c := by simpa using hcs
    have hsl : zs.length = c := by simpa using hzl
    obtain ⟨rfl, _⟩ := Prod.mk.inj hd
    have hlen : (zs.take l).length = l := by rw [List.length_take]; omega
    have hget : ∀ i, i < l → (zs.take l).getD i 0 = zs.getD i 0 := fun i hi => by
      simp only [List.getD]
      rw [List.getElem?_take_of_lt hi]
    unfold maxLen at hm
    refine ⟨some x, c, zs.take l, by rw [hlen]; exact e, ?_, fun j hj => ?_, by omega, by omega, .inr ⟨_, _, rfl, by simp [lits]⟩⟩
    · by_cases h0 : l = 0
      · left
        rw [h0]; rfl
      · right
        obtain ⟨g, o, sp⟩ := x
        have hsp : sp = none := by
          have := hall 0 (by omega)
          simpa [Addr.add] using World.cell?_spot this
        subst hsp
        have h00 := hall 0 (by omega)
        rw [Go.WideShapes.add_plain] at h00
        refine ⟨g, o, rfl, block_lt_of_cell h00, fun i hi => ?_⟩
        have hi' : i < l := by simpa [hlen] using hi
        have := hall i (by omega)
        rw [Go.WideShapes.add_plain] at this
        rw [hget i hi']
        exact this
    · have hj' : j < l := by simpa [hlen] using hj
      rw [hget j hj']
      have hmem : zs.getD j 0 ∈ zs := by
        simp only [List.getD, List.getElem?_eq_getElem (show j < zs.length by omega), Option.getD_some]
        exact List.getElem_mem _
      have := hwf _ hmem
      generalize zs.getD j 0 = z at *
      simp [Lit.wf, IntKind.min, IntKind.max, IntKind.signed, IntKind.bits] at this
      exact ⟨this.1, by show _ < (256 : Int); omega⟩

/-- A claim that came in. -/
theorem claim_open {H : Type} {enc : TypeId × Value → H} {W : World} {cs : Array Value} {y : DataW H × List MemPlace} {fuel : Nat}
    (hf : DataW.trod enc Try.prog W 0 (fun _ => true) true fuel 23 cs.toList = some y) :
    ∃ (x : Int) (p : ByteArray), cs = #[.int .i64 x, .string p] ∧ -9223372036854775808 ≤ x ∧ x ≤ 9223372036854775807 ∧ p.size ≤ 9223372036854775807 := by
  obtain ⟨y0, y1, n, _, hl, h0, h1⟩ := trod_struct2 (f0 := ⟨_, _, _, _, _, _, _⟩) (f1 := ⟨_, _, _, _, _, _, _⟩) Try.underlying23 hf
  have hl2 : cs.toList.length = 2 := hl.trans (by kernel_rfl)
  obtain ⟨x, e0, _, wf⟩ := DataW.trod_int Try.underlying2 h0
  obtain ⟨p, e1, _, ps⟩ := DataW.trod_string Try.underlying9 h1
  have c2 : Try.prog.cellsOf 2 = 1 := by kernel_rfl
  have c9 : Try.prog.cellsOf 9 = 1 := by kernel_rfl
  simp only [c2, c9] at e0 e1
  unfold maxLen at ps
  refine ⟨x, p, ?_, ?_, ?_, by omega⟩
  · have h2 : cs.toList = [.int .i64 x, .string p] := by
      match hq : cs.toList, hl2 with
      | [u, v], _ =>
        rw [hq] at e0 e1
        simp at e0 e1
        rw [e0, e1]
    rw [← Array.toArray_toList (xs := cs), h2]
  · simp [Lit.wf, IntKind.min, IntKind.max, IntKind.signed, IntKind.bits] at wf; omega
  · simp [Lit.wf, IntKind.min, IntKind.max, IntKind.signed, IntKind.bits] at wf; omega

set_option maxRecDepth 100000 in
theorem packs_lifted (os : Os) (started : os.Started) (H : Type) (enc : TypeId × Value → H) :
    ReturnsInHanded {} Try.checked os 3 .any (Rows.sealPacksSpec.pre6 enc Try.prog Try.f3 Rows.sealPacksRow.domain false) (Rows.sealPacksSpec.post enc Try.prog Try.f3 false true false false) := by
  refine returnsInHanded_of_change (C := Try.checked) own started (by kernel_rfl) Try.func3
    (ChangeSpec.witness6 (enc := enc) (C := Try.checked) false ⟨#[], #[.agg #[.int .i64 0, .string ⟨#[]⟩], .slice none 0 0], []⟩ 8 (by kernel_rfl) (by kernel_rfl) (by kernel_rfl) (by kernel_rfl)) ?_
  intro W base args ds gs before hval0 hW hcnd _
  have hval : ∀ (j : Nat) t v, Try.f3.params[j]? = some t → args[j]? = some v → Value.okWide Try.prog W .any base t v := hval0
  have hW' := hW
  obtain ⟨p, q, hA0, hV, rfl, hfz, hnd⟩ := hW
  have hA : DataW.TrodAll enc Try.prog W 0 (fun _ => true) true Try.f3.params.toList args.toList ds p := hA0
  rw [Try.params3] at hA hval
  obtain ⟨v0, v1, d0, d1, p0, p1, rfl, rfl, rfl, h0, h1⟩ := trodAll_two hA
  obtain ⟨rfl, rfl⟩ := trodVars_none hV
  obtain ⟨cs, rfl, hcz⟩ := okWide_struct Try.underlying23 (hval 0 23 v0 rfl rfl)
  have k0 := h0
  have k1 := h1
  have lt0 : ∀ x ∈ p0, x.block < W.heap.size := by obtain ⟨m, hm⟩ := k0; exact DataW.trod_lt m _ _ _ hm
  have lt1 : ∀ x ∈ p1, x.block < W.heap.size := by obtain ⟨m, hm⟩ := k1; exact DataW.trod_lt m _ _ _ hm
  have walk : Calls Try.prog 3 #[.agg cs, v1] W fun e w' => e = .returned (.bool true) ∧ Below W.heap.size W w' := by
    obtain ⟨f0, hf0⟩ := h0
    obtain ⟨f1, hf1⟩ := h1
    obtain ⟨x, pl, rfl, hx0, hx1, hpl⟩ := claim_open hf0
    obtain ⟨a1, n1, c1, rfl⟩ := okWide_slice Try.underlying24 (hval 1 24 v1 rfl rfl)
    obtain ⟨a, c, ys, e1, hI, hs, hc, hcb, _⟩ := bytes_open hf1
    rw [e1]
    exact packs_walk x pl a c ys W hx0 hx1 hpl hI hs hc hcb
  refine walk.mono fun e W' ⟨he, bel⟩ => ?_
  subst he
  exact ⟨_, rfl, _, _, _, [], _, [], hW', trodAll_mk1 (shut_bool Try.underlying4 _), trodAll_mk2 (Below.trod laidOut (by kernel_rfl) (of_decide_eq_true (by kernel_rfl)) k0 bel lt0) (Below.trod laidOut (by kernel_rfl) (of_decide_eq_true (by kernel_rfl)) k1 bel lt1), rfl, bel.frame _, fun h => by cases h⟩

theorem packs_said : Rows.SealPacksSaid :=
  OpenClaim.holds_of_wide 3 Try.f3 rfl rfl rfl rfl rfl rfl rfl ⟨rfl, rfl, rfl, rfl, rfl⟩ rfl rfl rfl rfl rfl (by kernel_rfl) Try.func3 (by kernel_rfl)
    (of_decide_eq_true (by kernel_rfl)) (by unfold Func.isWrapper; first | (rw [if_pos (by decide +kernel)]; kernel_rfl) | (rw [if_neg (by decide +kernel)]; exact ⟨rfl, rfl⟩))
    (fun os started H enc _ => packs_lifted os started H enc)
#print axioms packs_said
end Go.Proofs.Ytljnllenpdkccaa
