/- A bundle of texts. -/
import Derived.Test.YtmjenemjbpimcaaBe22
import Derived.ProofKit
import Derived.OpenShut
import Derived.ChangeSlices
import Derived.ChangeSame
import Derived.ChangeOld
import Derived.Carry
import Derived.Deep.Slices
import Derived.SizedLaws
/- OverNames: the walk. -/
namespace Go.Proofs.Ytmjenemjbpimcaa
open Go.RowKit

abbrev S6 : Nat → Smp := fourS 4607182418800017408 4613937818241073152 4611686018427387904 4617315517961601024
theorem min4 : ∀ k, k < 23 → (fnAt k).2.2.1 ≤ 4 := by decide +kernel

set_option maxHeartbeats 16000000 in
set_option maxRecDepth 100000 in
theorem names_walk (w : World) : Calls Try.prog 3 #[] w fun r w' => r = .returned (.bool true) ∧ Below w.heap.size w w' := by
  go_enter Try.func3, Try.ntmps3
  go_wp2_with fail
  go_fit (alive_any _)
  rintro e w1 ⟨rfl, b1⟩
  have B1 : Hid (Below w.heap.size w w1) := b1
  clear b1
  go_wp2_with fail
  go_fit (names_any _)
  rintro e w5 ⟨b5, gn, rfl, hgn, _, hcn⟩
  have B5 : Hid (Below w.heap.size w w5) := B1.out.trans (b5.mono B1.out.size)
  have HNM : Hid (∀ W, Below w5.heap.size w5 W → ∀ j, j < 23 → W.cell? ⟨gn, j, none⟩ = some (.string (fnAt (piF j)).1)) := (show ∀ W, _ → _ from fun W b j hj => bcell b (hcn j hj) hgn)
  clear b5 hgn hcn B1
  go_wp2_with fail
  go_loopw [2] (fun iv W => ∃ i : Nat, iv = .int .i64 (i : Nat) ∧ i ≤ 23 ∧ Hid (Below w5.heap.size w5 W)) (fun iv _ => 23 - (RowKit.intOf iv).toNat)
  case atStart => exact ⟨0, rfl, by omega, Below.refl _ _⟩
  case round =>
    obtain ⟨i, rfl, hi, hb⟩ := hrel
    by_cases hlt : i < 23
    · have hii : (i : Int) < 23 := by omega
      have i0 : (0 : Int) ≤ (i : Int) := by omega
      have i1 : ¬ (i : Int) < 0 := by omega
      have HI : Hid (i + 1 ≤ 23) := hlt
      have HK : Hid (piF i < 23) := pi_lt i hlt
      have HNI : Hid (∀ W, Below w5.heap.size w5 W → W.cell? ⟨gn, i, none⟩ = some (.string (fnAt (piF i)).1)) := (show ∀ W, _ → _ from fun W b => HNM.out W b i hlt)
      obtain ⟨k, hk⟩ : ∃ k, k = piF i := ⟨_, rfl⟩
      rw [← hk] at HK HNI
      clear hk
      obtain ⟨nm, hnm⟩ : ∃ nm, nm = (fnAt k).1 := ⟨_, rfl⟩
      have hq := nm_q k HK.out
      have hq9 : (fnAt k).2.1 = 0 ∨ (fnAt k).2.1 = 1 ∨ (fnAt k).2.1 = 2 := (show ∀ k, k < 23 → (fnAt k).2.1 = 0 ∨ (fnAt k).2.1 = 1 ∨ (fnAt k).2.1 = 2 by decide +kernel) k HK.out
      rw [← hnm] at HNI hq
      have HKn : Hid (Knw nm) := ⟨k, HK.out, hnm⟩
      have HCall : Hid (∀ W g aa ca (kk : Nat), kk < 4 → g < W.heap.size → SAt W g 0 S6 4 → Fm W aa (List.replicate kk 0) → Calls Try.prog 10 #[.string nm, Wn (some ⟨g, 0, none⟩) 4 4 0 60000 60000, .slice aa kk ca] W fun r w' => ∃ z b, r = .returned (.tuple #[.float .f64 z, .bool b]) ∧ ((b = true ↔ (fnAt k).2.1 = kk) ∧ (b = false → z = 0)) ∧ Below W.heap.size W w') := (show ∀ W g aa ca kk, _ → _ → _ → _ → _ from fun W g aa ca kk h4 hg hat hA => by
        obtain ⟨R, hR, _⟩ := fn_val k HK.out S6 4 (List.replicate kk 0) (by decide)
        refine (call_gen k HK.out nm hnm (some ⟨g, 0, none⟩) 4 4 0 60000 60000 S6 aa kk ca _ R hR W ⟨.inr ⟨g, 0, rfl, hg, hat⟩, four_sw _ _ _ _ (by decide) (by decide) (by decide) (by decide), by decide⟩ (by decide) hA (by simp) (by omega)).mono fun r w' hx => ?_
        obtain ⟨z, b, e, h1, h2, _, _, h3⟩ := hx
        exact ⟨z, b, e, ⟨h1.trans ⟨fun h => h.1.symm, fun h => ⟨h.symm, min4 k HK.out, four_snd _ _ _ _⟩⟩, h3⟩, h2⟩)
      clear hnm HK
      generalize (fnAt k).2.1 = sc at *
      have HQ : Hid ((sc = 1 ↔ nm = q1 ∨ nm = q2 ∨ nm = q3) ∧ (sc = 2 ↔ nm = q4) ∧ ¬ (nm = q1 ∧ nm = q2)) := hq
      have HQ9 : Hid (sc = 0 ∨ sc = 1 ∨ sc = 2) := hq9
      clear hq hq9
      go_wp2_with fail
      go_loopw [3, 4] (fun av iv W => ∃ kk : Nat, iv = .int .i64 (kk : Nat) ∧ kk ≤ 4 ∧ av = .int .i64 (if sc < kk then (sc : Int) + 1 else 0) ∧ Hid (Below w5.heap.size w5 W)) (fun _ iv _ => 4 - (RowKit.intOf iv).toNat)
      case atStart => exact ⟨0, rfl, by omega, by rw [if_neg (by omega)], hb⟩
      case round =>
        obtain ⟨kk, rfl, hkk, rfl, hb⟩ := hrel
        obtain ⟨av, hav⟩ : ∃ av : Int, av = (if sc < kk then (sc : Int) + 1 else 0) := ⟨_, rfl⟩
        rw [← hav]
        have HAV : Hid (av = (if sc < kk then (sc : Int) + 1 else 0)) := hav
        clear hav
        by_cases hk4 : kk < 4
        · have hkk4 : (kk : Int) < 4 := by omega
          have k0 : (0 : Int) ≤ (kk : Int) := by omega
          have HK4 : Hid (kk + 1 ≤ 4) := hk4
          obtain ⟨MK, hMK⟩ := Classical.axiomOfChoice fun W => make_f W kk (by omega)
          have rmk : ∀ W, (Instr.makeSlice 32 (.int .i64 (kk : Int)) (.int .i64 (kk : Int))).run Try.prog W = .ok (.slice (some ⟨W.heap.size, 0, none⟩) kk kk) (MK W) := fun W => (hMK W).1
          have HMK : Hid (∀ W, Fm (MK W) (some ⟨W.heap.size, 0, none⟩) (List.replicate kk 0) ∧ Below W.heap.size W (MK W)) := (show ∀ W, _ from fun W => ⟨by
            obtain ⟨a, c, e, h⟩ := (hMK W).2.1.fm
            simp at e
            rw [e.1]
            exact h, (hMK W).2.2⟩)
          clear hMK
          have HS1 : Hid (∀ W, Below wr.heap.size wr W → W.cell? ⟨gn, i, none⟩ = some (.string nm) ∧ Below wr.heap.size wr W) := (show ∀ W, _ → _ from fun W b => ⟨HNI.out W (hb.out.trans (b.mono hb.out.size)), b⟩)
          have HS2 : Hid (∀ W, Below wr.heap.size wr W → Below wr.heap.size wr (MK W)) := (show ∀ W, _ → _ from fun W b => b.trans ((HMK.out W).2.mono b.size))
          have HT : Hid (∀ u W, Below wr.heap.size wr u → Below u.heap.size u W → Below wr.heap.size wr W) := (show ∀ u W, _ → _ → _ from fun u W h1 h2 => h1.trans (h2.mono h1.size))
          have nI := (HS1.out wr (Below.refl _ _)).1
          have bd : Below wr.heap.size wr wr.drew := (Below.refl _ _).drew
          go_wp2_with fail
          go_region_held3 (fun w2 => w2.cell? ⟨gn, i, none⟩ = some (.string nm) ∧ Below wr.heap.size wr w2) (first | exact HS1.out _ (by assumption) | exact HS1.out _ (Below.drew (by assumption)) | exact HS1.out _ (HS2.out _ (by assumption))) (first | (go_at_call 11; go_fit (four_any _ _ _ _ _); rintro e w6 ⟨b6, g, rfl, hg, h4⟩; have bb : Below wr.heap.size wr w6 := HT.out _ _ (by first | exact bd | exact HS2.out _ bd | exact (HS2.out _ bd).drew | exact HS2.out _ (Below.refl _ _) | exact (HS2.out _ (Below.refl _ _)).drew) b6) | (go_at_call 10; have kc := HCall.out (MK w6) g (some ⟨w6.heap.size, 0, none⟩) kk kk hk4 (Nat.lt_of_lt_of_le hg (HMK.out w6).2.size) (at_up h4 hg (HMK.out w6).2) (HMK.out w6).1; go_fit kc; rintro e w7 ⟨z1, b1, rfl, hz1, b7⟩; have bc : Below wr.heap.size wr w7 := HT.out _ _ (HS2.out _ bb) b7) | (go_at_call 10; have kc := HCall.out w6 g (some ⟨wr.heap.size, 0, none⟩) kk kk hk4 hg h4 (by first | exact (HMK.out wr).1.below b6 | exact (HMK.out wr.drew).1.below b6 | exact Fm.below (w := (MK wr).drew) (HMK.out wr).1 b6 | exact Fm.below (w := (MK wr.drew).drew) (HMK.out wr.drew).1 b6); go_fit kc; rintro e w7 ⟨z1, b1, rfl, hz1, b7⟩; have bc : Below wr.heap.size wr w7 := HT.out _ _ bb b7))
          all_goals
            rename_i hh
            have HZ : Hid ((b1 = true ↔ sc = kk) ∧ (b1 = false → z1 = 0)) := hz1
            have B7 : Hid (Below w5.heap.size w5 w7) := hb.out.trans (bc.mono hb.out.size)
            clear hh hz1 bc bb b6 b7 hg h4 HS1 HS2 HT HMK rmk nI bd HCall
            cases b1
            · obtain rfl : z1 = 0 := HZ.out.2 rfl
              have HE : Hid (av = (if sc < kk + 1 then (sc : Int) + 1 else 0)) := (show _ = _ by
                have h1 : ¬ sc = kk := fun h => by
                  have := HZ.out.1.2 h
                  cases this
                rw [HAV.out]
                by_cases h2 : sc < kk
                · rw [if_pos h2, if_pos (by omega)]
                · rw [if_neg h2, if_neg (by omega)])
              have d0 : (FloatKind.f64.format.order 0 0 != some .eq) = false := by decide +kernel
              go_wp2
              exact ⟨⟨kk + 1, by go_num, HK4.out, by rw [HE.out], B7⟩, by simp [RowKit.intOf]; omega⟩
            · have hs : sc = kk := HZ.out.1.1 rfl
              have h0 : av = 0 := by
                rw [HAV.out, if_neg (by omega)]
              subst hs
              subst h0
              go_wp2
              exact ⟨⟨sc + 1, by go_num, HK4.out, by rw [if_pos (by omega)], B7⟩, by simp [RowKit.intOf]; omega⟩
        · have hkk4 : ¬ (kk : Int) < 4 := by omega
          have hav : av = (sc : Int) + 1 := by
            have := HQ9.out
            rw [HAV.out, if_pos (by omega)]
          subst hav
          clear HAV HCall
          have nI := HNI.out wr hb.out
          have hq := HQ.out
          obtain ⟨c1, e1, t1⟩ := eqB nm q1 [113, 117, 97, 110, 116, 105, 108, 101, 95, 111, 118, 101, 114, 95, 116, 105, 109, 101] (by rw [Lib.toList_data]; rfl)
          obtain ⟨c2, e2, t2⟩ := eqB nm q2 [112, 114, 101, 100, 105, 99, 116, 95, 108, 105, 110, 101, 97, 114] (by rw [Lib.toList_data]; rfl)
          obtain ⟨c3, e3, t3⟩ := eqB nm q3 [98, 101, 97, 116, 95, 111, 118, 101, 114, 95, 116, 105, 109, 101] (by rw [Lib.toList_data]; rfl)
          obtain ⟨c4, e4, t4⟩ := eqB nm q4 [100, 111, 117, 98, 108, 101, 95, 101, 120, 112, 111, 110, 101, 110, 116, 105, 97, 108, 95, 115, 109, 111, 111, 116, 104, 105, 110, 103] (by rw [Lib.toList_data]; rfl)
          rw [← t1, ← t2, ← t3, ← t4] at hq
          clear t1 t2 t3 t4
          have k12 : ∀ W, Calls Try.prog 12 #[.string nm] W fun r w' => r = .returned (.bool true) ∧ Below W.heap.size W w' := fun W => (known_any nm W).mono fun r w' x => rp_yes HKn.out x
          rcases HQ9.out with h9 | h9 | h9
          · subst h9
            cases c1 <;> cases c2 <;> cases c3 <;> cases c4 <;> first | (exfalso; revert hq; decide) | skip
            all_goals
              clear hq
              go_wp2_with fail
              go_fit (k12 _)
              rintro e w8 ⟨rfl, b8⟩
              have B8 : Hid (Below w5.heap.size w5 w8) := hb.out.trans (b8.mono hb.out.size)
              clear b8 k12 nI
              go_wp2
              exact ⟨⟨i + 1, by go_num, HI.out, B8⟩, by simp [RowKit.intOf]; omega⟩
          · subst h9
            cases c1 <;> cases c2 <;> cases c3 <;> cases c4 <;> first | (exfalso; revert hq; decide) | skip
            all_goals
              clear hq
              go_wp2_with fail
              go_fit (k12 _)
              rintro e w8 ⟨rfl, b8⟩
              have B8 : Hid (Below w5.heap.size w5 w8) := hb.out.trans (b8.mono hb.out.size)
              clear b8 k12 nI
              go_wp2
              exact ⟨⟨i + 1, by go_num, HI.out, B8⟩, by simp [RowKit.intOf]; omega⟩
          · subst h9
            cases c1 <;> cases c2 <;> cases c3 <;> cases c4 <;> first | (exfalso; revert hq; decide) | skip
            all_goals
              clear hq
              go_wp2_with fail
              go_fit (k12 _)
              rintro e w8 ⟨rfl, b8⟩
              have B8 : Hid (Below w5.heap.size w5 w8) := hb.out.trans (b8.mono hb.out.size)
              clear b8 k12 nI
              go_wp2
              exact ⟨⟨i + 1, by go_num, HI.out, B8⟩, by simp [RowKit.intOf]; omega⟩
    · have hii : ¬ (i : Int) < 23 := by omega
      have B9 : Hid (Below w.heap.size w wr) := B5.out.trans (hb.out.mono B5.out.size)
      go_wp2
      go_ret
      exact ⟨rfl, B9.out⟩
end Go.Proofs.Ytmjenemjbpimcaa
/- OverNames: the row. -/
namespace Go.Proofs.Ytmjenemjbpimcaa
open Go.ChangeShapes Go.WideShapes Go.ChangeAt Go.RowKit

theorem ownN : ownKnob Try.prog.godebug = none := by kernel_rfl

set_option maxRecDepth 100000 in
theorem names_lifted (os : Os) (started : os.Started) (H : Type) (enc : TypeId × Value → H) :
    ReturnsInHanded {} Try.checked os 3 .any (Rows.overNamesSpec.pre6 enc Try.prog Try.f3 Rows.overNamesRow.domain false) (Rows.overNamesSpec.post enc Try.prog Try.f3 false true false false) := by
  refine returnsInHanded_of_change_sized (C := Try.checked) ownN started (by kernel_rfl) Try.func3
    (ChangeSpec.witness6 (enc := enc) (C := Try.checked) false ⟨#[], #[], []⟩ 8 (by kernel_rfl) (by kernel_rfl) (by kernel_rfl) (by kernel_rfl)) ?_
  intro W base args ds gs before hval0 hW hcnd hsz0 _
  have hW' := hW
  obtain ⟨p, q, hA0, hV, rfl, hfz, hnd⟩ := hW
  have hA : DataW.TrodAll enc Try.prog W 0 (fun _ => true) true Try.f3.params.toList args.toList ds p := hA0
  rw [Try.params3] at hA
  obtain ⟨rfl, rfl, rfl⟩ := trodAll_none hA
  obtain ⟨rfl, rfl⟩ := trodVars_none hV
  refine (names_walk W).mono fun e W' ⟨he, bel⟩ => ?_
  subst he
  exact ⟨_, rfl, _, _, _, [], _, [], hW', trodAll_mk1 (shut_bool Try.underlying4 _), trodAll_mk0, rfl, bel.frame _, fun h => by cases h⟩

theorem names_said : Rows.OverNamesSaid :=
  OpenClaim.holds_of_wide 3 Try.f3 rfl rfl rfl rfl rfl rfl rfl ⟨rfl, rfl, rfl, rfl, rfl⟩ rfl rfl rfl rfl rfl (by kernel_rfl) Try.func3 (by kernel_rfl)
    (of_decide_eq_true (by kernel_rfl)) (by unfold Func.isWrapper; first | (rw [if_pos (by decide +kernel)]; kernel_rfl) | (rw [if_neg (by decide +kernel)]; exact ⟨rfl, rfl⟩))
    (fun os started H enc _ => names_lifted os started H enc)
#print axioms names_said
end Go.Proofs.Ytmjenemjbpimcaa
