/- UtfNexts: the row and its card. -/
import Derived.Test.YtdnbkgbgpfmipaaDoorKit
import Derived.Test.YtdnbkgbgpfmipaaDoorNextsWalk
import Derived.OpenShut
import Derived.ShutString
import Derived.ChangeOld
import Derived.Deep.SlicePairs
namespace Go.Proofs.YtdnbkgbgpfmipaaDoor
open Go.ChangeShapes Go.WideShapes Go.ChangeAt Go.RowKit Go.Lib
open Go.ChangeMaps (open_string shut_string)

/-- What came in: a nil slice, or one whose places hold questions. -/
theorem asks_open {H : Type} {enc : TypeId × Value → H} {W : World} {a : Option Addr} {len cap : Nat} {d : DataW H} {p : List MemPlace} {fuel : Nat}
    (hf : DataW.trod enc Tryd.prog W 0 (fun _ => true) true fuel 31 (Value.slice a len cap).cells.toList = some (d, p)) :
    len = 0 ∨ ∃ b off S A, a = some ⟨b, off, none⟩ ∧ len ≤ maxLen ∧ AsksAt W b off len S A ∧ b < W.heap.size := by
  rcases Go.Deep.open_slice_pairs (f0 := ⟨_, _, _, _, _, _, _⟩) (f1 := ⟨_, _, _, _, _, _, _⟩) Tryd.underlying31 Tryd.underlying33 (by kernel_rfl) rfl rfl (by kernel_rfl) (by kernel_rfl) hf with ⟨hcs, _⟩ | ⟨x, l, c, m, n, V0, V1, D0, D1, P0, P1, hcs, _, hl, hm, hmm, _, hall⟩
  · simp [Value.cells] at hcs
    exact Or.inl hcs.2.1
  · simp [Value.cells] at hcs
    obtain ⟨rfl, rfl, rfl⟩ := hcs
    by_cases h0 : len = 0
    · exact Or.inl h0
    · right
      have hm' : m = cap := by simpa using hmm
      obtain ⟨b, off, spot⟩ := x
      have hspot : spot = none := by
        have := (hall 0 (by omega)).1
        simpa [Addr.add] using World.cell?_spot this
      subst hspot
      have hS : ∀ i, i < len → ∃ s : ByteArray × Int, V0 i = .string s.1 ∧ s.1.size ≤ maxLen ∧ V1 i = .int .i64 s.2 := by
        intro i hi
        obtain ⟨_, _, t0, t1⟩ := hall i (by omega)
        obtain ⟨s, e1, _, e3⟩ := DataW.trod_string Tryd.underlying9 t0
        obtain ⟨z, e4, _, _⟩ := DataW.trod_int Tryd.underlying3 t1
        simp at e1 e4
        exact ⟨(s, z), e1, e3, e4⟩
      have hI : Inhabited (ByteArray × Int) := ⟨(ByteArray.empty, 0)⟩
      obtain ⟨q, hq⟩ := Go.Deep.choose_lt hS
      refine ⟨b, off, fun i => (q i).1, fun i => (q i).2, rfl, by omega, fun j hj => ?_, ?_⟩
      · obtain ⟨c0, c1, _, _⟩ := hall j (by omega)
        obtain ⟨e0, e1, e2⟩ := hq j hj
        rw [e0] at c0
        rw [e2] at c1
        rw [Go.WideShapes.add_plain] at c0 c1
        exact ⟨e1, c0, by rw [Nat.add_assoc]; exact c1⟩
      · have := (hall 0 (by omega)).1
        rw [Go.WideShapes.add_plain] at this
        exact lt_of_cell this

set_option maxRecDepth 100000 in
theorem nexts_lifted (os : Os) (started : os.Started) (H : Type) (enc : TypeId × Value → H) :
    ReturnsInHanded {} Tryd.checked os 4 .any (fun w args => (Rows.utfNextsSpec.pre enc Tryd.prog Tryd.f4 [] false w args ∧ laidMetH Tryd.prog laidL w) ∧ sizedMet enc Tryd.prog Tryd.f4 (OpenSpec.ofChange Rows.utfNextsSpec) false w args)
      (Rows.utfNextsSpec.post enc Tryd.prog Tryd.f4 false true false false) := by
  refine returnsInHanded_of_change_and (C := Tryd.checked) (X := fun w _ => laidMetH Tryd.prog laidL w) (fun _ _ _ hh h => h.of_heap hh) own started (by kernel_rfl) Tryd.func4
    (ChangeSpec.witness_shaped (enc := enc) (C := Tryd.checked) (os := os) (X := fun w _ => laidMetH Tryd.prog laidL w) false (World.laidAll Tryd.prog os laidL) #[.slice none 0 0] 8 (World.laidAll_os _ _ _)
      (World.shaped_of_ZipB (by kernel_rfl) (by kernel_rfl)) (by kernel_rfl) (by kernel_rfl) (by kernel_rfl)
      (by rw [MakeChecks.laidMetH_plain _ _ _ (by kernel_rfl)]; exact laidMet_laidAll _ (by kernel_rfl) (by kernel_rfl))) ?_
  intro W base args ds gs before hval0 hW _ _ hL _
  have hval : ∀ (j : Nat) t v, Tryd.f4.params[j]? = some t → args[j]? = some v → Value.okWide Tryd.prog W .any base t v := hval0
  have hW' := hW
  obtain ⟨p, q, hA0, hV, rfl, _, _⟩ := hW
  have hA : DataW.TrodAll enc Tryd.prog W 0 (fun _ => true) true Tryd.f4.params.toList args.toList ds p := hA0
  rw [Tryd.params4] at hA hval
  obtain ⟨v0, d0, rfl, rfl, h0⟩ := trodAll_one hA
  obtain ⟨rfl, rfl⟩ := trodVars_none hV
  obtain ⟨a0, len, cap, rfl⟩ := okWide_slice Tryd.underlying31 (hval 0 31 v0 rfl rfl)
  have k0 := h0
  have lt0 : ∀ x ∈ p, x.block < W.heap.size := by obtain ⟨m, hm⟩ := k0; exact DataW.trod_lt m _ _ _ hm
  have hT := tabs_of hL
  have walk : Calls Tryd.prog 4 #[.slice a0 len cap] W fun e w' => e = .returned (.bool true) ∧ Below W.heap.size W w' := by
    obtain ⟨fuel, hf⟩ := h0
    rcases asks_open hf with rfl | ⟨b, off, S, A, rfl, hl, hA, hb⟩
    · exact nexts_nil a0 cap W hT
    · exact nexts_walk b off len cap S A W hT hl hA hb
  refine walk.mono fun e W' ⟨he, bel⟩ => ?_
  subst he
  exact ⟨_, rfl, _, _, _, [], _, [], hW', trodAll_mk1 (shut_bool Tryd.underlying4 _), trodAll_mk1 (Below.trod laidOut (by kernel_rfl) (of_decide_eq_true (by kernel_rfl)) k0 bel lt0), rfl, bel.frame _, fun h => by cases h⟩

theorem nexts_said : Rows.UtfNextsSaid :=
  OpenClaim.holds_of_wide 4 Tryd.f4 rfl rfl rfl rfl rfl rfl rfl ⟨rfl, rfl, rfl, rfl, rfl⟩ rfl rfl rfl rfl rfl (by kernel_rfl) Tryd.func4 (by kernel_rfl)
    (of_decide_eq_true (by kernel_rfl)) (by unfold Func.isWrapper; first | (rw [if_pos (by decide +kernel)]; kernel_rfl) | (rw [if_neg (by decide +kernel)]; exact ⟨rfl, rfl⟩))
    (fun os started H enc _ => nexts_lifted os started H enc)

theorem nexts_plain (f : FuncId) (fn : Func) (hf : Tryd.pinned.checked.prog.funcNamed Rows.utfNextsRow.func = some f) (hfn : Tryd.pinned.checked.prog.funcs[f]? = some fn) :
    false = Tryd.pinned.checked.prog.looks [] ∧ ∀ (j : Nat) t, fn.params[j]? = some t → Tryd.pinned.checked.prog.wantsStandIn t = false := by
  obtain rfl : f = 4 := Option.some.inj ((show Tryd.prog.funcNamed Rows.utfNextsRow.func = some 4 by kernel_rfl).symm.trans hf) |>.symm
  obtain rfl : fn = Tryd.f4 := (Option.some.inj (Tryd.func4.symm.trans hfn)).symm
  refine ⟨by kernel_rfl, fun j t ht => ?_⟩
  rw [Tryd.params4] at ht
  obtain rfl : t = 31 := by simpa using Array.mem_of_getElem? ht
  exact (show Tryd.prog.wantsStandIn 31 = false by kernel_rfl)

theorem nexts_card : Rows.UtfNextsCardSaid :=
  Claim7.holds_tied_plain_at .later [] _ _ _ _ nexts_said (fun _ h => by cases h) (by kernel_rfl) (fun _ h => by cases h) utfNexts_row_tie rfl ⟨rfl, rfl⟩ (by kernel_rfl) rfl nexts_plain (by kernel_rfl)
#print axioms nexts_card
end Go.Proofs.YtdnbkgbgpfmipaaDoor
