/- ChunkPacks: the law's walk, the row and the card. -/
import Derived.Test.YtedlmjieclaojaaDoorRj
import Derived.Test.YtedlmjieclaojaaDoorFb
import Derived.Test.YtedlmjieclaojaaDoorEc
namespace Go.Proofs.YtedlmjieclaojaaDoor
open Go.ChangeShapes Go.WideShapes Go.ChangeAt Go.RowKit Go.Lib
set_option maxRecDepth 100000

set_option maxHeartbeats 2000000 in
theorem packs_walk (a : Option Addr) (c : Nat) (l : List Smp) (w : World) (hm : Sm w a l) (hok : ∀ x ∈ l, Sok x) (hs : Scl w) (ht : Tab w) (hl : l.length * 24 ≤ 140737488355328) :
    Calls Tryd.prog 8 #[.slice a l.length c] w fun e w' => e = .returned (.bool true) ∧ Below w.heap.size w w' := by
  have k1 := alive_any w hs ht
  have KP : Hid (∀ W, Below w.heap.size w W → Calls Tryd.prog 26 #[.slice a l.length c] W (PkR l W)) := fun W h => rpack_any a c l W (hm.below h) hok (by omega)
  have KQ : Hid (∀ W, Below w.heap.size w W → Calls Tryd.prog 11 #[.slice a l.length c] W (PkR l W)) := fun W h => pack_any a c l W (hm.below h) hok (hs.below h) (ht.below h) (by omega)
  have HBy : Hid (By (pkB l)) := pkB_by l
  clear hm hok hs ht hl
  unfold PkR at KP KQ
  generalize pkB l = pb at *
  generalize pkE l = pe at *
  generalize l.length = n at *
  go_enter Tryd.func8, Tryd.ntmps8
  go_wp2_with fail
  go_fit k1
  rintro e w1 ⟨rfl, b1⟩
  have k2 := KP.out w1 b1
  have HB1 : Hid (Below w.heap.size w w1) := b1
  clear k1 b1 KP
  go_wp2_with fail
  go_fit k2
  rintro e w2 ⟨v2, rfl, o2, b2⟩
  obtain ⟨a2, c2, rfl⟩ := row_form o2
  have HB2 : Hid (Below w.heap.size w w2) := HB1.out.trans (b2.mono HB1.out.size)
  have HI2 : Hid (Im w2 a2 pb) := Im.of_row o2
  have k3 := KQ.out w2 HB2.out
  clear k2 o2 b2 HB1 KQ
  go_wp2_with fail
  go_fit k3
  rintro e w3 ⟨v3, rfl, o3, b3⟩
  obtain ⟨a3, c3', rfl⟩ := row_form o3
  have HB3 : Hid (Below w.heap.size w w3) := HB2.out.trans (b3.mono HB2.out.size)
  have k4 := same_any a3 a2 c3' c2 pb pb w3 (Im.of_row o3) (HI2.out.below b3) HBy.out HBy.out
  rw [decide_eq_true rfl] at k4
  clear k3 o3 b3 HB2 HI2
  go_wp2_with fail
  go_fit k4
  rintro e w4 ⟨rfl, rfl⟩
  clear k4
  go_wp2
  go_ret
  exact ⟨rfl, HB3.out⟩

def laidP : List (String × DataW Unit) := Rows.chunkPacksRow.laid
theorem packs_lifted (os : Os) (started : os.Started) (H : Type) (enc : TypeId × Value → H) :
    ReturnsInHanded {} Tryd.checked os 8 .any (fun w args => (Rows.chunkPacksSpec.pre enc Tryd.prog Tryd.f8 [] false w args ∧ laidMetH Tryd.prog laidP w) ∧ sizedMet enc Tryd.prog Tryd.f8 (OpenSpec.ofChange Rows.chunkPacksSpec) false w args)
      (Rows.chunkPacksSpec.post enc Tryd.prog Tryd.f8 false true false false) := by
  refine returnsInHanded_of_change_and (C := Tryd.checked) (X := fun w _ => laidMetH Tryd.prog laidP w) (fun _ _ _ hh h => h.of_heap hh) own started (by kernel_rfl) Tryd.func8
    (ChangeSpec.witness_shaped (enc := enc) (C := Tryd.checked) (os := os) (X := fun w _ => laidMetH Tryd.prog laidP w) false (World.laidAll Tryd.prog os laidP) #[.slice none 0 0] 8 (World.laidAll_os _ _ _)
      (World.shaped_of_ZipB (by kernel_rfl) (by kernel_rfl)) (by kernel_rfl) (by kernel_rfl) (by kernel_rfl)
      (by rw [MakeChecks.laidMetH_plain _ _ _ (by kernel_rfl)]; exact laidMet_laidAll _ (by kernel_rfl) (by kernel_rfl))) ?_
  intro W base args ds gs before hval0 hW _ hz0 hL _
  have hval : ∀ (j : Nat) t v, Tryd.f8.params[j]? = some t → args[j]? = some v → Value.okWide Tryd.prog W .any base t v := hval0
  have hW' := hW
  obtain ⟨p, q, hA0, hV, rfl, _, _⟩ := hW
  have hA : DataW.TrodAll enc Tryd.prog W 0 (fun _ => true) true Tryd.f8.params.toList args.toList ds p := hA0
  have hsz : (DataW.weightsEach Tryd.prog (Tryd.f8.params.toList ++ Rows.chunkPacksSpec.plain.varTypes Tryd.prog) (ds ++ gs)).all (· ≤ reachBytes) = true := hz0
  rw [Tryd.params8] at hA hval hsz
  obtain ⟨v0, d0, rfl, rfl, h0⟩ := trodAll_one hA
  obtain ⟨rfl, rfl⟩ := trodVars_none hV
  obtain ⟨a0, n0, c0, rfl⟩ := okWide_slice Tryd.underlying22 (hval 0 22 v0 rfl rfl)
  have hS : Scl W := scl_of hL (.tail _ (.head _)) (MakeChecks.laidMetH_plain _ _ _ (by kernel_rfl))
  have hT : Tab W := tab_of hL (.head _) (MakeChecks.laidMetH_plain _ _ _ (by kernel_rfl))
  have k0 := h0
  have lt0 : ∀ x ∈ p, x.block < W.heap.size := by obtain ⟨m, hm⟩ := k0; exact DataW.trod_lt m _ _ _ hm
  have z0 : ∀ n ∈ d0.weights Tryd.prog 22, n ≤ reachBytes := fun n hn => by
    have := List.all_eq_true.1 hsz _ (DataW.weights_mem_each (j := 0) (t := 22) (d := d0) rfl rfl n hn)
    simpa using this
  have walk : Calls Tryd.prog 8 #[.slice a0 n0 c0] W fun e w' => e = .returned (.bool true) ∧ Below W.heap.size W w' := by
    obtain ⟨f0, hf0⟩ := h0
    have hg0 : DataW.trod enc Tryd.prog W 0 (fun _ => true) true f0 22 [.slice a0 n0 c0] = some (d0, p) := hf0
    obtain ⟨l, rfl, hm, hok, hb⟩ := samples_open hg0 z0
    exact packs_walk a0 c0 l W hm hok hS hT (by omega)
  refine walk.mono fun e W' ⟨he, bel⟩ => ?_
  subst he
  exact ⟨_, rfl, _, _, _, [], _, [], hW', trodAll_mk1 (shut_bool Tryd.underlying4 _), trodAll_mk1 (Below.trod laidOut (by kernel_rfl) (of_decide_eq_true (by kernel_rfl)) k0 bel lt0), rfl, bel.frame _, fun h => by cases h⟩

theorem packs_said : Rows.ChunkPacksSaid :=
  OpenClaim.holds_of_wide 8 Tryd.f8 rfl rfl rfl rfl rfl rfl rfl ⟨rfl, rfl, rfl, rfl, rfl⟩ rfl rfl rfl rfl rfl (by kernel_rfl) Tryd.func8 (by kernel_rfl)
    (of_decide_eq_true (by kernel_rfl)) (by unfold Func.isWrapper; first | (rw [if_pos (by decide +kernel)]; kernel_rfl) | (rw [if_neg (by decide +kernel)]; exact ⟨rfl, rfl⟩))
    (fun os started H enc _ => packs_lifted os started H enc)

theorem packs_plain (f : FuncId) (fn : Func) (hf : Tryd.pinned.checked.prog.funcNamed Rows.chunkPacksRow.func = some f) (hfn : Tryd.pinned.checked.prog.funcs[f]? = some fn) :
    false = Tryd.pinned.checked.prog.looks [] ∧ ∀ (j : Nat) t, fn.params[j]? = some t → Tryd.pinned.checked.prog.wantsStandIn t = false := by
  obtain rfl : f = 8 := Option.some.inj ((show Tryd.prog.funcNamed Rows.chunkPacksRow.func = some 8 by kernel_rfl).symm.trans hf) |>.symm
  obtain rfl : fn = Tryd.f8 := (Option.some.inj (Tryd.func8.symm.trans hfn)).symm
  refine ⟨by kernel_rfl, fun j t ht => ?_⟩
  rw [Tryd.params8] at ht
  obtain rfl : t = 22 := by simpa using Array.mem_of_getElem? ht
  exact (show Tryd.prog.wantsStandIn 22 = false by kernel_rfl)

theorem packs_card : Rows.ChunkPacksCardSaid :=
  Claim7.holds_tied_plain_at .later [] _ _ _ _ packs_said (fun _ h => by cases h) (by kernel_rfl) (fun _ h => by cases h) chunkPacks_row_tie rfl ⟨rfl, rfl⟩ (by kernel_rfl) rfl packs_plain (by kernel_rfl)
#print axioms packs_card
end Go.Proofs.YtedlmjieclaojaaDoor
