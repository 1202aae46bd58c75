/- A bundle of texts. -/
import Derived.Test.YtajaadagejhllaaGreatDoorBs47
import Derived.Test.YtajaadagejhllaaGreatDoorTie
import Derived.Test.YtajaadagejhllaaGreatDoorCards
import Derived.SizedLaws
import Derived.ProofKit
import Derived.OpenShut
import Derived.ShutString
import Derived.ChangeSlices
import Derived.ChangeSame
import Derived.ChangeOld
import Derived.Carry
import Derived.Deep.Slices
import Derived.Lib.LaidU8
import Derived.Lib.LaidTab
import Derived.PinnedBridge
import Derived.Lay
import Derived.ChangeMaps5
import Derived.Deep.DeepHandedRow
/- RxtreeShows: the second form's row and its card. -/
namespace Go.Proofs.YtajaadagejhllaaGreatDoor
open Go.ChangeShapes Go.WideShapes Go.ChangeAt Go.RowKit Go.Lib
set_option maxRecDepth 100000

theorem ownS : ownKnob Tryz.prog.godebug = none := by kernel_rfl
theorem laidOutS : laidOutB Tryz.prog = true := by kernel_rfl
/-- The tables, as a plain name for the list that the row bears. -/
def laidL : List (String × DataW Unit) := Rows.rxtreeShowsUptoRow.laid
def dB64 : List Int := [0, 1, 56, 2, 57, 49, 28, 3, 61, 58, 42, 50, 38, 29, 17, 4, 62, 47, 59, 36, 45, 43, 51, 22, 53, 39, 33, 30, 24, 18, 12, 5, 63, 55, 48, 27, 60, 41, 37, 16, 46, 35, 44, 21, 52, 32, 23, 11, 54, 26, 40, 15, 34, 20, 31, 10, 25, 14, 19, 9, 13, 8, 7, 6]
theorem pow_eq : (Rows.laid_internal_strconv_uint64pow10 : DataW Unit) = tabData .u64 pow10Tab := by kernel_rfl
theorem deb_eq : (Rows.laid_math_bits_deBruijn64tab : DataW Unit) = tabData .u8 dB64 := by kernel_rfl
theorem pow_of {W : World} {l : List (String × DataW Unit)} (h : laidMet Tryz.prog l W) (hm : ("internal/strconv.uint64pow10", Rows.laid_internal_strconv_uint64pow10) ∈ l) : TbI W := by
  obtain ⟨g, t, cs, fuel, p, hg, hty, hvar, hd⟩ := Lib.laidMet.reads h hm
  obtain rfl : g = 1 := Option.some.inj ((show Tryz.prog.globalNamed "internal/strconv.uint64pow10" = some 1 by kernel_rfl).symm.trans hg) |>.symm
  obtain rfl : t = 136 := Option.some.inj ((show (Tryz.prog.globals[1]?).map (·.type) = some 136 by kernel_rfl).symm.trans hty) |>.symm
  rw [pow_eq] at hd
  unfold TbI TabIs
  rw [hvar, ← cells_of_tab Tryz.underlying136 Tryz.underlying121 (by kernel_rfl) (by kernel_rfl) hd]
theorem deb_of {W : World} {l : List (String × DataW Unit)} (h : laidMet Tryz.prog l W) (hm : ("math/bits.deBruijn64tab", Rows.laid_math_bits_deBruijn64tab) ∈ l) : TabIs Tryz.prog W "math/bits.deBruijn64tab" .u8 dB64 := by
  obtain ⟨g, t, cs, fuel, p, hg, hty, hvar, hd⟩ := Lib.laidMet.reads h hm
  obtain rfl : g = 5 := Option.some.inj ((show Tryz.prog.globalNamed "math/bits.deBruijn64tab" = some 5 by kernel_rfl).symm.trans hg) |>.symm
  obtain rfl : t = 157 := Option.some.inj ((show (Tryz.prog.globals[5]?).map (·.type) = some 157 by kernel_rfl).symm.trans hty) |>.symm
  rw [deb_eq] at hd
  unfold TabIs
  rw [hvar, ← cells_of_tab Tryz.underlying157 Tryz.underlying5 (by kernel_rfl) (by kernel_rfl) hd]
theorem tb_of {W : World} (h : laidMetH Tryz.prog laidL W) : TbA W.heap.size W := by
  rw [MakeChecks.laidMetH_plain _ _ _ (by kernel_rfl)] at h
  have h1 := pow_of h (.tail _ (.tail _ (.head _)))
  have h2 := deb_of h (.tail _ (.head _))
  intro w' b
  refine ⟨h1.below b, ?_⟩
  have h3 := TabIs.cell h2 (g := 5) (by kernel_rfl) 15 (by decide)
  exact (b.cell (p := ⟨5, 15, none⟩) (World.block_lt_of_cell? W _ h3)).trans h3
theorem shows_laid (os : Os) : laidMet Tryz.prog laidL ((World.laidAll Tryz.prog os laidL).forCall (fun _ _ => 0) ⟨#[], #[ndV nd0], []⟩).memory :=
  laidMet_laidAll _ (by kernel_rfl) (by kernel_rfl)
theorem shows_reads (os : Os) {H : Type} (enc : TypeId × Value → H) : ∃ ds places, DataW.whole enc Tryz.prog ((World.laidAll Tryz.prog os laidL).forCall (fun _ _ => 0) ⟨#[], #[ndV nd0], []⟩).memory Tryz.f8.params.toList Rows.rxtreeShowsSpec.vars false #[ndV nd0].toList 8 = some (ds, [], places) ∧ Rows.uptoSmall H ds = true :=
  ⟨[.agg [.lit (.int .i64 0), .lit (.int .i32 0), .nil, .lit (.int .i64 0), .lit (.int .i64 0), .lit (.bool false), .lit (.int .i64 0), .lit (.string []), .nil]], [], by kernel_rfl, by kernel_rfl⟩
end Go.Proofs.YtajaadagejhllaaGreatDoor
/- RxtreeShows: the second form's row and its card, the end. -/
namespace Go.Proofs.YtajaadagejhllaaGreatDoor
open Go.ChangeShapes Go.WideShapes Go.ChangeAt Go.RowKit Go.Lib
set_option maxRecDepth 100000

theorem shows_lifted (os : Os) (started : os.Started) (H : Type) (enc : TypeId × Value → H) (F : Stop.Interp) :
    ReturnsInHanded {} Tryz.checked os 8 .any ((Rows.OpenSpec.upto Rows.rxtreeShowsSpec).preRow enc Tryz.prog Tryz.f8 Rows.rxtreeShowsUptoRow.domain false laidL) (((Rows.OpenSpec.upto Rows.rxtreeShowsSpec).at F).post enc Tryz.prog Tryz.f8 false true false false) := by
  obtain ⟨dd, places, hx, hsm⟩ := shows_reads os enc
  have hok : Input.okWideB Tryz.checked.prog ((World.laidAll Tryz.prog os laidL).forCall (fun _ _ => 0) ⟨#[], #[ndV nd0], []⟩) 8 ⟨#[], #[ndV nd0], []⟩ = true := by kernel_rfl
  refine returnsInHanded_of_row (C := Tryz.checked) (s := Rows.OpenSpec.upto Rows.rxtreeShowsSpec) ownS started (by kernel_rfl) Tryz.func8
    ⟨World.laidAll Tryz.prog os laidL, fun _ _ => 0, ⟨#[], #[ndV nd0], []⟩, World.laidAll_os _ _ _, World.shaped_of_ZipB (by kernel_rfl) (by kernel_rfl), (Input.okWide_of_okWideB (base := 0) hok).1, (Input.okWide_of_okWideB hok).2,
      OpenSpec.preRow_of_cond 8 hx (by kernel_rfl) (fun k hk => by cases hk; simpa using hsm) (by kernel_rfl) (shows_laid os), by
        simp only [Assume.holds]
        exact ⟨by simp, by simp, fun _ => Modest.zero, by simp, by simp⟩⟩ ?_
  intro W base args ds gs before hval0 hW _ hcond _ hL _ _
  have hval : ∀ (j : Nat) t v, Tryz.f8.params[j]? = some t → args[j]? = some v → Value.okWide Tryz.prog W .any base t v := hval0
  have hW' := hW
  obtain ⟨p, q, hA0, hV, rfl, _, _⟩ := hW
  have hA : DataW.TrodAll enc Tryz.prog W 0 (fun _ => true) true Tryz.f8.params.toList args.toList ds p := hA0
  rw [Tryz.params8] at hA hval
  obtain ⟨v0, d0, rfl, rfl, h0⟩ := trodAll_one hA
  obtain ⟨rfl, rfl⟩ := trodVars_none hV
  obtain ⟨cs, rfl, hcs⟩ := okWide_struct Tryz.underlying25 (hval 0 25 v0 rfl rfl)
  have k0 := h0
  have lt0 : ∀ x ∈ p, x.block < W.heap.size := by obtain ⟨m, hm⟩ := k0; exact DataW.trod_lt m _ _ _ hm
  have hT := tb_of hL
  have hk := of_decide_eq_true (hcond _ rfl)
  simp only [Rows.uptoBulkAll, List.append_nil] at hk
  have walk : Calls Tryz.prog 8 #[.agg cs] W fun e w' => e = .returned (.bool true) ∧ Below W.heap.size W w' := by
    obtain ⟨fuel, hf0⟩ := h0
    have hf : DataW.trod enc Tryz.prog W 0 (fun _ => true) true fuel 25 cs.toList = some (d0, p) := hf0
    obtain ⟨t, ecl, ht, hbk⟩ := tree_openB fuel cs.toList d0 p hf (by omega)
    have ecs : cs = (ndC (t [])).toArray := by rw [← Array.toArray_toList (xs := cs), ecl]
    rw [ecs]
    exact shows_walk t W ht hT (hbk _)
  refine walk.mono fun e W' ⟨he, bel⟩ => ?_
  subst he
  exact ⟨_, rfl, _, _, _, [], _, [], hW', trodAll_mk1 (shut_bool Tryz.underlying4 _), trodAll_mk1 (Below.trod laidOutS (by kernel_rfl) (of_decide_eq_true (by kernel_rfl)) k0 bel lt0), rfl, bel.frame _, fun h => by cases h⟩

theorem shows_said : Rows.RxtreeShowsUptoSaid :=
  OpenClaim.holds_of_cond 8 Tryz.f8 rfl rfl rfl rfl rfl rfl rfl ⟨rfl, rfl, rfl, rfl, rfl⟩ rfl rfl rfl rfl rfl (by kernel_rfl) Tryz.func8 (by kernel_rfl)
    (of_decide_eq_true (by kernel_rfl)) (by unfold Func.isWrapper; first | (rw [if_pos (by decide +kernel)]; kernel_rfl) | (rw [if_neg (by decide +kernel)]; exact ⟨rfl, rfl⟩))
    (fun os started H enc _ F => by rw [OpenClaim.pre_eq_preRow]; exact shows_lifted os started H enc F)

theorem shows_plain (f : FuncId) (fn : Func) (hf : Tryz.pinned.checked.prog.funcNamed Rows.rxtreeShowsUptoRow.func = some f) (hfn : Tryz.pinned.checked.prog.funcs[f]? = some fn) :
    true = Tryz.pinned.checked.prog.looks [] ∧ ∀ (j : Nat) t, fn.params[j]? = some t → Tryz.pinned.checked.prog.wantsStandIn t = false := by
  obtain rfl : f = 8 := Option.some.inj ((show Tryz.prog.funcNamed Rows.rxtreeShowsUptoRow.func = some 8 by kernel_rfl).symm.trans hf) |>.symm
  obtain rfl : fn = Tryz.f8 := (Option.some.inj (Tryz.func8.symm.trans hfn)).symm
  refine ⟨by kernel_rfl, fun j t ht => ?_⟩
  rw [Tryz.params8] at ht
  have hm : t ∈ [25] := by simpa using Array.mem_of_getElem? ht
  have hall : ([25].all fun u => !Tryz.prog.wantsStandIn u) = true := by kernel_rfl
  exact (show Tryz.prog.wantsStandIn t = false by simpa using List.all_eq_true.1 hall t hm)

theorem shows_card : Rows.RxtreeShowsUptoCardSaid :=
  Claim7.holds_tied_plain_at .later [] _ _ _ _ shows_said (fun _ h => by cases h) (by kernel_rfl) (fun _ h => by cases h) rxtreeShowsUpto_row_tie rfl ⟨rfl, rfl⟩ (by kernel_rfl) rfl shows_plain (by kernel_rfl)
#print axioms shows_card
end Go.Proofs.YtajaadagejhllaaGreatDoor
