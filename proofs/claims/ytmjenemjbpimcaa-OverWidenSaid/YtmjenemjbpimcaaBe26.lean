/- A bundle of texts. -/
import Derived.Test.YtmjenemjbpimcaaBe25
import Derived.Test.YtmjenemjbpimcaaBe22
import Derived.ProofKit
import Derived.OpenShut
import Derived.ChangeSlices
import Derived.ChangeSame
import Derived.ChangeOld
import Derived.Carry
import Derived.Deep.Slices
import Derived.SizedLaws
/- OverWiden: the walk. -/
namespace Go.Proofs.Ytmjenemjbpimcaa
open Go.RowKit

set_option maxHeartbeats 16000000 in
set_option maxRecDepth 100000 in
theorem widen_walk (a : Option Addr) (n c : Nat) (F T N : Int) (ss : Nat → Smp) (w : World) (h : HypW a n ss w) (hc : n ≤ c) :
    Calls Try.prog 4 #[Wn a n c F T N] w fun r w' => r = .returned (.bool true) ∧ Below w.heap.size w w' := by
  have HB0 : Hid (Below w.heap.size w (w.alloc (wnX a n c F T N))) := (Below.refl _ w).alloc (Nat.le_refl _) _
  have HC : Hid (∀ W, Below (w.alloc (wnX a n c F T N)).heap.size (w.alloc (wnX a n c F T N)) W → WnC a n c F T N w.heap.size W) := wnC_new a n c F T N w
  have HH : Hid (∀ W, Below w.heap.size w W → HypW a n ss W) := fun W b => h.below b
  have HL : Hid (n ≤ 9223372036854775807 ∧ n ≤ c ∧ 24 * n ≤ 140737488355328) := ⟨by have := h.2.2; omega, hc, h.2.2⟩
  clear h hc
  have KEX : Hid (∀ W ctr, Below w.heap.size w W → Calls Try.prog 14 #[Wn a n c F T N, .bool ctr, .bool false] W (RX W (2 ≤ n ∧ Snd ss n F T N) (exF ss n F T ctr false))) := (show ∀ W ctr, _ → _ from fun W ctr b => extrapolate_any a n c F T N ss ctr false W (HH.out W b).1 (HH.out W b).2.1 HL.out.1)
  have KNO : Hid (∀ W, Below w.heap.size w W → ¬ (2 ≤ n ∧ Snd ss n F T N) → Calls Try.prog 14 #[Wn a n c F T N, .bool true, .bool false] W fun r w' => r = .returned (.tuple #[.float .f64 0, .bool false]) ∧ Below W.heap.size W w') := (show ∀ W, _ → _ → _ from fun W b hno => (KEX.out W true b).mono fun r w' x => rx_no hno x)
  go_enter Try.func4, Try.ntmps4
  go_wp2_with fail
  go_fit (alive_any _)
  rintro e w1 ⟨rfl, b1⟩
  obtain ⟨x0, x1, x2, x3⟩ := HC.out w1 b1
  have B1 : Hid (Below (w.alloc (wnX a n c F T N)).heap.size (w.alloc (wnX a n c F T N)) w1) := b1
  have B1w : Hid (Below w.heap.size w w1) := HB0.out.trans (b1.mono HB0.out.size)
  clear b1
  have k13 := made_any a n c F T N ss w1 (HH.out w1 B1w.out).1 HL.out.1
  go_wp2_with fail
  go_fit k13
  rintro e w2 ⟨m1, rfl, hm1, b2⟩
  have HM1 : Hid (m1 = true ↔ Snd ss n F T N) := hm1
  have B2 : Hid (Below (w.alloc (wnX a n c F T N)).heap.size (w.alloc (wnX a n c F T N)) w2) := B1.out.trans (b2.mono B1.out.size)
  have B2w : Hid (Below w.heap.size w w2) := HB0.out.trans (B2.out.mono HB0.out.size)
  obtain ⟨y0, y1, y2, y3⟩ := HC.out w2 B2.out
  clear k13 x0 x1 x2 x3 hm1 b2 B1 B1w
  cases m1
  · have k := KNO.out w2 B2w.out (fun h => by have := HM1.out.2 h.2; cases this)
    clear KNO KEX
    go_wp2_with fail
    go_fit k
    rintro e w3 ⟨rfl, b3⟩
    have B3w : Hid (Below w.heap.size w w3) := B2w.out.trans (b3.mono B2w.out.size)
    clear b3 k
    go_wp2
    go_ret
    exact ⟨rfl, B3w.out⟩
  by_cases hn2 : (n : Int) < 2
  · have k := KNO.out w2 B2w.out (fun h => by omega)
    clear KNO KEX
    go_wp2_with fail
    go_fit k
    rintro e w3 ⟨rfl, b3⟩
    have B3w : Hid (Below w.heap.size w w3) := B2w.out.trans (b3.mono B2w.out.size)
    clear b3 k
    go_wp2
    go_ret
    exact ⟨rfl, B3w.out⟩
  have HN2 : Hid (2 ≤ n) := (show _ ≤ _ by omega)
  have HS : Hid (Snd ss n F T N) := (show Snd ss n F T N by simpa using HM1.out)
  rcases (HH.out w (Below.refl _ _)).1 with h0 | ⟨g, o, rfl, hg, hat⟩
  · exact absurd h0 (by have := HN2.out; omega)
  have HPV : Hid (∀ W, Below w.heap.size w W → ∀ i, i < n → W.cell? ⟨g, o + i * 3 + 1, none⟩ = some (.float .f64 (ss i).v)) := (show ∀ W, _ → ∀ i, _ → _ from fun W b i hi => bcell b (hat i hi).2.1 hg)
  have HSW : Hid (SW ss n) := (HH.out w (Below.refl _ _)).2.1
  clear KNO HM1 hg hat
  have hsub := @run_fsub Try.prog
  have hadd := @run_fadd Try.prog
  go_wp2_with fail
  go_loopw [6] (fun iv W => ∃ j : Nat, iv = .int .i64 (j : Nat) ∧ j ≤ 2 ∧ Hid (Below w2.heap.size w2 W)) (fun iv _ => 2 - (RowKit.intOf iv).toNat)
  case atStart => exact ⟨0, rfl, by omega, Below.refl _ _⟩
  case round =>
    obtain ⟨j, rfl, hj, hb⟩ := hrel
    have HBw : Hid (Below w.heap.size w wr) := B2w.out.trans (hb.out.mono B2w.out.size)
    by_cases hlt : j < 2
    · obtain ⟨y0, y1, y2, y3⟩ := HC.out wr (B2.out.trans (hb.out.mono B2.out.size))
      have q0 := HPV.out wr HBw.out 0 (by have := HN2.out; omega)
      rw [show o + 0 * 3 + 1 = o + 1 by omega] at q0
      obtain ⟨m, hm⟩ : ∃ m, n = m + 1 := ⟨n - 1, by have := HN2.out; omega⟩
      have qm := HPV.out wr HBw.out m (by omega)
      have wm : IntKind.i64.wrap ((n : Int) - 1) = (m : Int) := by have := HL.out.1; rw [IntKind.wrap_i64]; omega
      have m0 : (0 : Int) ≤ (m : Int) := by omega
      have m1 : (m : Int) < (n : Int) := by omega
      have m2 : ¬ (m : Int) < 0 := by omega
      have n1 : (n : Int) ≤ 9223372036854775807 := by have := HL.out.1; omega
      have z1n : 0 < n := by have := HN2.out; omega
      have z3n : (0 : Int) < (n : Int) := by omega
      have HM : Hid (n = m + 1) := hm
      clear hm
      have HCr : Hid (∀ W, Below wr.heap.size wr W → WnC (some ⟨g, o, none⟩) n c F T N w.heap.size W) := (show ∀ W, _ → _ from fun W b => HC.out W (B2.out.trans ((hb.out.trans (b.mono hb.out.size)).mono B2.out.size)))
      rcases (show j = 0 ∨ j = 1 by omega) with rfl | rfl
      · have hdum : (0 : Nat) = 0 := rfl
        go_wp2_with fail
        refine region_tail 12 (by kernel_rfl) (by kernel_rfl) ?_
        simp only [List.take_succ_cons, List.take_zero, List.drop_succ_cons, List.drop_zero]
        repeat (go_big_quiet_step (fail))
        refine wpQuiet_nil ?_
        go_wp2_with fail
        go_loopw [7, 8] (fun gv iv W => ∃ x k : Nat, gv = .float .f64 x ∧ iv = .int .i64 1 ∧ x < 18446744073709551616 ∧ Hid (cl x = fb .sub (cl (ss m).v) (cl (ss 0).v)) ∧ W = wr.drewN k) (fun _ _ _ => 0)
        case atStart => exact ⟨_, _, rfl, rfl, fz_lt _ _ _ _, (show _ = _ by rw [cl_fz]), rfl⟩
        case round =>
          obtain ⟨x, k, rfl, rfl, hx, hXF, rfl⟩ := hrel
          have HXF : Hid (cl x = grF (fun j => (ss j).v) n false) := (show _ = _ by rw [HM.out]; exact hXF.out)
          have h1n : decide ((1 : Int) < (n : Int)) = true := decide_eq_true (by have := HN2.out; omega)
          have HX2 : Hid (cl x = grF (fun j => (ss j).v) n false) := HXF
          have k14 := KEX.out (wr.drewN k) false (below_drewN HBw.out k)
          obtain ⟨y0, y1, y2, y3⟩ := HCr.out (wr.drewN k) (below_drewN (Below.refl _ _) k)
          go_wp2_with fail
          go_fit k14
          rintro e w7 ⟨z1, b1, rfl, hz1, b7, hl7, hv7, _⟩
          have hb1 : b1 = true := hz1.2 ⟨HN2.out, HS.out⟩
          subst hb1
          have HEX : Hid (cl z1 = exF ss n F T false false) := hv7 rfl
          have B7 : Hid (Below w2.heap.size w2 w7) := hb.out.trans ((below_drewN (Below.refl wr.heap.size wr) k).trans (b7.mono (below_drewN (Below.refl wr.heap.size wr) k).size) |>.mono hb.out.size)
          clear hz1 b7 hv7 k14 y0 y1 y2 y3
          obtain ⟨h1, h2, h3⟩ := cmp3 x z1 (fun nx fx => by
            have e : cl x = some x := by unfold cl; rw [nx]; rfl
            have hw := HX2.out
            rw [e] at hw
            obtain ⟨z, ez, r1, r2, r3⟩ := ex_wide ss n F T N false HS.out HSW.out HN2.out (by have := HL.out.2.2; omega) x hw.symm fx
            have hzz := HEX.out
            rw [ez] at hzz
            obtain ⟨ezz, nz⟩ := cl_some hzz
            subst ezz
            exact ⟨nz, r1, r2, r3⟩)
          obtain ⟨P1, p1⟩ : ∃ P, (FloatKind.f64.format.order x 0 == some .gt) = P := ⟨_, rfl⟩
          obtain ⟨P2, p2⟩ : ∃ P, (FloatKind.f64.format.order x 9218868437227405311 == some .lt || FloatKind.f64.format.order x 9218868437227405311 == some .eq) = P := ⟨_, rfl⟩
          obtain ⟨P3, p3⟩ : ∃ P, (FloatKind.f64.format.order z1 x == some .gt || FloatKind.f64.format.order z1 x == some .eq) = P := ⟨_, rfl⟩
          obtain ⟨P4, p4⟩ : ∃ P, (FloatKind.f64.format.order x 0 == some .eq) = P := ⟨_, rfl⟩
          obtain ⟨P5, p5⟩ : ∃ P, (FloatKind.f64.format.order z1 0 != some .eq) = P := ⟨_, rfl⟩
          obtain ⟨P6, p6⟩ : ∃ P, (FloatKind.f64.format.order x 0 == some .lt) = P := ⟨_, rfl⟩
          obtain ⟨P7, p7⟩ : ∃ P, (FloatKind.f64.format.order x 18442240474082181119 == some .gt || FloatKind.f64.format.order x 18442240474082181119 == some .eq) = P := ⟨_, rfl⟩
          obtain ⟨P8, p8⟩ : ∃ P, (FloatKind.f64.format.order z1 x == some .lt || FloatKind.f64.format.order z1 x == some .eq) = P := ⟨_, rfl⟩
          rw [p1, p2, p3] at h1
          rw [p4, p5] at h2
          rw [p6, p7, p8] at h3
          clear HX2 HEX HXF
          rcases h1 with rfl | ⟨rfl, rfl⟩ | ⟨rfl, rfl, rfl⟩ <;> rcases h2 with rfl | ⟨rfl, rfl⟩ <;> rcases h3 with rfl | ⟨rfl, rfl⟩ | ⟨rfl, rfl, rfl⟩
          all_goals
            go_wp2
            exact ⟨⟨0 + 1, by go_num, by omega, B7⟩, by simp [RowKit.intOf]⟩
      · have hdum : (0 : Nat) = 0 := rfl
        go_wp2_with fail
        refine region_tail 12 (by kernel_rfl) (by kernel_rfl) ?_
        simp only [List.take_succ_cons, List.take_zero, List.drop_succ_cons, List.drop_zero]
        repeat (go_big_quiet_step (fail))
        refine wpQuiet_nil ?_
        go_wp2_with fail
        go_loopw [7, 8] (fun gv iv W => ∃ i x k : Nat, gv = .float .f64 x ∧ iv = .int .i64 ((i + 1 : Nat) : Int) ∧ i + 1 ≤ m + 1 ∧ x < 18446744073709551616 ∧ Hid (cl x = grI (fun j => (ss j).v) (fb .sub (cl (ss m).v) (cl (ss 0).v)) i) ∧ W = wr.drewN k) (fun _ iv _ => m + 1 - (RowKit.intOf iv).toNat)
        case atStart => exact ⟨0, _, _, rfl, rfl, by omega, fz_lt _ _ _ _, (show _ = _ by rw [cl_fz]; rfl), rfl⟩
        case round =>
          obtain ⟨i, x, k, rfl, rfl, hi, hx, hXF, rfl⟩ := hrel
          by_cases hlt2 : i < m
          · have hii : (i : Int) + 1 < (n : Int) := by have := HM.out; omega
            have hdi : decide ((i : Int) + 1 < (n : Int)) = true := decide_eq_true hii
            have g0 := HPV.out wr HBw.out i (by have := HM.out; omega)
            have g1 := HPV.out wr HBw.out (i + 1) (by have := HM.out; omega)
            obtain ⟨y0, y1, y2, y3⟩ := HCr.out wr (Below.refl wr.heap.size wr)
            have HI : Hid (i + 1 + 1 ≤ m + 1) := (show _ ≤ _ by omega)
            have wi : IntKind.i64.wrap ((i : Int) + 1 - 1) = (i : Int) := by rw [IntKind.wrap_i64]; omega
            have wj : IntKind.i64.wrap (i : Int) = (i : Int) := by rw [IntKind.wrap_i64]; omega
            have i0 : (0 : Int) ≤ (i : Int) := by omega
            have i2 : (i : Int) < (n : Int) := by have := HM.out; omega
            have HG : Hid (grI (fun j => (ss j).v) (fb .sub (cl (ss m).v) (cl (ss 0).v)) (i + 1) = if ltB (cl (ss (i + 1)).v) (cl (ss i).v) = true then fb .add (grI (fun j => (ss j).v) (fb .sub (cl (ss m).v) (cl (ss 0).v)) i) (cl (ss i).v) else grI (fun j => (ss j).v) (fb .sub (cl (ss m).v) (cl (ss 0).v)) i) := rfl
            have d1 := ltB_eq (ss (i + 1)).v (ss i).v
            cases hB : ltB (cl (ss (i + 1)).v) (cl (ss i).v)
            · rw [hB] at d1
              go_wp2_with fail
              refine region_tail 13 (by kernel_rfl) (by kernel_rfl) ?_
              simp only [List.take_succ_cons, List.take_zero, List.drop_succ_cons, List.drop_zero]
              iterate 13 (go_big_quiet_step (fail))
              refine wpQuiet_nil ?_
              have HZ : Hid (cl x = grI (fun j => (ss j).v) (fb .sub (cl (ss m).v) (cl (ss 0).v)) (i + 1)) := (show _ = _ by rw [HG.out, if_neg (by rw [hB]; decide)]; exact hXF.out)
              clear HG hXF
              go_wp2
              exact ⟨⟨i + 1, _, _, rfl, by go_num, HI.out, hx, HZ, rfl⟩, by simp [RowKit.intOf]; omega⟩
            · rw [hB] at d1
              go_wp2_with fail
              refine region_tail 13 (by kernel_rfl) (by kernel_rfl) ?_
              simp only [List.take_succ_cons, List.take_zero, List.drop_succ_cons, List.drop_zero]
              iterate 13 (go_big_quiet_step (fail))
              refine wpQuiet_nil ?_
              have HZ : ∀ W, Hid (cl (fz .add x (ss i).v W) = grI (fun j => (ss j).v) (fb .sub (cl (ss m).v) (cl (ss 0).v)) (i + 1)) := fun W => (show _ = _ by rw [cl_fz, HG.out, if_pos hB, hXF.out])
              clear HG hXF
              go_wp2
              exact ⟨⟨i + 1, _, _, rfl, by go_num, HI.out, fz_lt _ _ _ _, HZ _, rfl⟩, by simp [RowKit.intOf]; omega⟩
          · have hii : ¬ (i : Int) + 1 < (n : Int) := by have := HM.out; omega
            have hdi : decide ((i : Int) + 1 < (n : Int)) = false := decide_eq_false hii
            obtain rfl : i = m := by omega
            have HXF : Hid (cl x = grF (fun j => (ss j).v) n true) := (show _ = _ by rw [HM.out]; exact hXF.out)
            have HX2 : Hid (cl x = grF (fun j => (ss j).v) n true) := HXF
            have k14 := KEX.out (wr.drewN k) true (below_drewN HBw.out k)
            obtain ⟨y0, y1, y2, y3⟩ := HCr.out (wr.drewN k) (below_drewN (Below.refl _ _) k)
            go_wp2_with fail
            go_fit k14
            rintro e w7 ⟨z1, b1, rfl, hz1, b7, hl7, hv7, _⟩
            have hb1 : b1 = true := hz1.2 ⟨HN2.out, HS.out⟩
            subst hb1
            have HEX : Hid (cl z1 = exF ss n F T true false) := hv7 rfl
            have B7 : Hid (Below w2.heap.size w2 w7) := hb.out.trans ((below_drewN (Below.refl wr.heap.size wr) k).trans (b7.mono (below_drewN (Below.refl wr.heap.size wr) k).size) |>.mono hb.out.size)
            clear hz1 b7 hv7 k14 y0 y1 y2 y3
            obtain ⟨h1, h2, h3⟩ := cmp3 x z1 (fun nx fx => by
              have e : cl x = some x := by unfold cl; rw [nx]; rfl
              have hw := HX2.out
              rw [e] at hw
              obtain ⟨z, ez, r1, r2, r3⟩ := ex_wide ss n F T N true HS.out HSW.out HN2.out (by have := HL.out.2.2; omega) x hw.symm fx
              have hzz := HEX.out
              rw [ez] at hzz
              obtain ⟨ezz, nz⟩ := cl_some hzz
              subst ezz
              exact ⟨nz, r1, r2, r3⟩)
            obtain ⟨P1, p1⟩ : ∃ P, (FloatKind.f64.format.order x 0 == some .gt) = P := ⟨_, rfl⟩
            obtain ⟨P2, p2⟩ : ∃ P, (FloatKind.f64.format.order x 9218868437227405311 == some .lt || FloatKind.f64.format.order x 9218868437227405311 == some .eq) = P := ⟨_, rfl⟩
            obtain ⟨P3, p3⟩ : ∃ P, (FloatKind.f64.format.order z1 x == some .gt || FloatKind.f64.format.order z1 x == some .eq) = P := ⟨_, rfl⟩
            obtain ⟨P4, p4⟩ : ∃ P, (FloatKind.f64.format.order x 0 == some .eq) = P := ⟨_, rfl⟩
            obtain ⟨P5, p5⟩ : ∃ P, (FloatKind.f64.format.order z1 0 != some .eq) = P := ⟨_, rfl⟩
            obtain ⟨P6, p6⟩ : ∃ P, (FloatKind.f64.format.order x 0 == some .lt) = P := ⟨_, rfl⟩
            obtain ⟨P7, p7⟩ : ∃ P, (FloatKind.f64.format.order x 18442240474082181119 == some .gt || FloatKind.f64.format.order x 18442240474082181119 == some .eq) = P := ⟨_, rfl⟩
            obtain ⟨P8, p8⟩ : ∃ P, (FloatKind.f64.format.order z1 x == some .lt || FloatKind.f64.format.order z1 x == some .eq) = P := ⟨_, rfl⟩
            rw [p1, p2, p3] at h1
            rw [p4, p5] at h2
            rw [p6, p7, p8] at h3
            clear HX2 HEX HXF
            rcases h1 with rfl | ⟨rfl, rfl⟩ | ⟨rfl, rfl, rfl⟩ <;> rcases h2 with rfl | ⟨rfl, rfl⟩ <;> rcases h3 with rfl | ⟨rfl, rfl⟩ | ⟨rfl, rfl, rfl⟩
            all_goals
              go_wp2
              exact ⟨⟨1 + 1, by go_num, by omega, B7⟩, by simp [RowKit.intOf]⟩
    · have hjj : ¬ (j : Int) < 2 := by omega
      go_wp2
      go_ret
      exact ⟨rfl, HBw.out⟩
end Go.Proofs.Ytmjenemjbpimcaa
/- Windows that came in. -/
namespace Go.Proofs.Ytmjenemjbpimcaa
open Go.ChangeShapes Go.WideShapes Go.ChangeAt Go.RowKit

theorem own : ownKnob Try.prog.godebug = none := by kernel_rfl
theorem laidOut : laidOutB Try.prog = true := by kernel_rfl

theorem trod_float0 {H : Type} {enc : TypeId × Value → H} {W : World} {t : TypeId} {cs : List Value} {x : DataW H × List MemPlace} {fuel : Nat} (ht : Try.prog.underlying t = some (.float .f64))
    (h : DataW.trod enc Try.prog W 0 (fun _ => true) true fuel t cs = some x) : ∃ z, cs = [.float .f64 z] ∧ x = (.lit (.float .f64 z), []) ∧ (Lit.float .f64 z).wf = true := by
  cases fuel with
  | zero => simp [DataW.trod] at h
  | succ n =>
    unfold DataW.trod at h
    rw [ht] at h
    split at h <;> simp_all
theorem trod_float {H : Type} {enc : TypeId × Value → H} {W : World} {t : TypeId} {v : Value} {x : DataW H × List MemPlace} {fuel : Nat} (ht : Try.prog.underlying t = some (.float .f64))
    (h : DataW.trod enc Try.prog W 0 (fun _ => true) true fuel t [v] = some x) : ∃ z, v = .float .f64 z ∧ z < 18446744073709551616 ∧ x = (.lit (.float .f64 z), []) := by
  obtain ⟨z, h1, h2, h3⟩ := trod_float0 ht h
  exact ⟨z, by simpa using h1, by simpa [Lit.wf] using h3, h2⟩

/-- Samples that came in. -/
theorem samples_open {H : Type} {enc : TypeId × Value → H} {W : World} {v : Value} {d : DataW H} {p : List MemPlace} {fuel : Nat}
    (hf : DataW.trod enc Try.prog W 0 (fun _ => true) true fuel 28 [v] = some (d, p)) (hz : ∀ n ∈ d.weights Try.prog 28, n ≤ reachBytes) :
    ∃ (a : Option Addr) (len cap : Nat) (ss : Nat → Smp), v = .slice a len cap ∧ HypW a len ss W ∧ len ≤ cap := by
  rcases Go.Deep.open_slice Try.underlying28 hf with ⟨hcs, _⟩ | ⟨x, l, c, m, n, D, Pl, hcs, _, hl, hm, hmm, hd, hall⟩
  · simp at hcs
    subst hcs
    exact ⟨none, 0, 0, fun _ => ⟨0, 0, false⟩, rfl, ⟨.inl rfl, fun j hj => absurd hj (by omega), by omega⟩, Nat.le_refl _⟩
  · simp at hcs
    subst hcs
    have hm' : m = c := by simpa using hmm
    subst hm'
    obtain ⟨rfl, _⟩ := Prod.mk.inj hd
    have hC : Try.prog.cellsOf 37 = 3 := by kernel_rfl
    have each : ∀ i, i < m → ∃ u : Smp, W.cell? (x.add (i * 3)) = some (.int .i64 u.t) ∧ W.cell? (x.add (i * 3 + 1)) = some (.float .f64 u.v) ∧ W.cell? (x.add (i * 3 + 2)) = some (.bool u.s) ∧
        -9223372036854775808 ≤ u.t ∧ u.t ≤ 9223372036854775807 ∧ u.v < 18446744073709551616 := by
      intro i hi
      obtain ⟨cs', h1, h2⟩ := hall i hi
      rw [hC] at h1
      obtain ⟨_, hlen, hcell⟩ := World.cells?_some h1
      obtain ⟨xs, k, hk, hxy, _, hxl, hff⟩ := DataW.trod_struct Try.underlying37 h2
      match xs, hxl, cs', hlen with
      | [y0, y1, y2], _, [v0, v1, v2], _ =>
        have g0 := hff 0 _ rfl
        have g1 := hff 1 _ rfl
        have g2 := hff 2 _ rfl
        have c2 : Try.prog.cellsOf 2 = 1 := by kernel_rfl
        have c25 : Try.prog.cellsOf 25 = 1 := by kernel_rfl
        have c4 : Try.prog.cellsOf 4 = 1 := by kernel_rfl
        simp [c2, c25, c4] at g0 g1 g2
        obtain ⟨t, e0, _, wf⟩ := DataW.trod_int Try.underlying2 g0
        obtain ⟨v, e1, hv, _⟩ := trod_float Try.underlying25 g1
        obtain ⟨s, e2, _⟩ := DataW.trod_bool Try.underlying4 g2
        have q0 := hcell 0 (by omega)
        have q1 := hcell 1 (by omega)
        have q2 := hcell 2 (by omega)
        rw [Go.Deep.add_add] at q0 q1 q2
        have w0 : v0 = .int .i64 t := by simpa using e0
        have w2 : v2 = .bool s := by simpa using e2
        rw [w0, e1, w2] at q0 q1 q2
        simp [Lit.wf, IntKind.min, IntKind.max, IntKind.signed, IntKind.bits] at wf
        exact ⟨⟨t, v, s⟩, by simpa using q0, by simpa using q1, by simpa using q2, by show _ ≤ t; omega, by show t ≤ _; omega, hv⟩
    have hI : Inhabited Smp := ⟨⟨0, 0, false⟩⟩
    obtain ⟨ss, hss⟩ := Go.Deep.choose_lt each
    refine ⟨_, _, _, ss, rfl, ⟨?_, fun j hj => (hss j (by omega)).2.2.2, ?_⟩, hl⟩
    · by_cases h0 : l = 0
      · exact .inl h0
      · right
        obtain ⟨g, o, sp⟩ := x
        have hsp : sp = none := by
          have := (hss 0 (by omega)).1
          simpa [Addr.add] using World.cell?_spot this
        subst hsp
        have h00 := (hss 0 (by omega)).1
        rw [Go.WideShapes.add_plain] at h00
        refine ⟨g, o, rfl, block_lt_of_cell h00, fun j hj => ?_⟩
        obtain ⟨q0, q1, q2, _⟩ := hss j (by omega)
        rw [Go.WideShapes.add_plain] at q0 q1 q2
        exact ⟨q0, by rw [Nat.add_assoc]; exact q1, by rw [Nat.add_assoc]; exact q2⟩
    · have hb : Try.prog.bytesOf 37 = 24 := by kernel_rfl
      have hr : reachBytes = 140737488351232 := by decide
      have := hz ((((List.range l).map D).length + ((List.range (m - l)).map fun j => D (l + j)).length) * 24) (by
        simp only [DataW.weights, Try.underlying28, hb]
        exact List.mem_cons.2 (.inl rfl))
      simp at this
      omega

set_option maxRecDepth 100000 in
/-- A window that came in. -/
theorem window_open {H : Type} {enc : TypeId × Value → H} {W : World} {cl : List Value} {d : DataW H} {p : List MemPlace} {fuel : Nat}
    (hf : DataW.trod enc Try.prog W 0 (fun _ => true) true fuel 30 cl = some (d, p)) (hz : ∀ n ∈ d.weights Try.prog 30, n ≤ reachBytes) :
    ∃ (a : Option Addr) (n c : Nat) (F T N : Int) (ss : Nat → Smp), cl = [.slice a n c, .int .i64 F, .int .i64 T, .int .i64 N] ∧ HypW a n ss W ∧ n ≤ c ∧ (-9223372036854775808 ≤ F ∧ F ≤ 9223372036854775807) ∧ (-9223372036854775808 ≤ T ∧ T ≤ 9223372036854775807) ∧ (-9223372036854775808 ≤ N ∧ N ≤ 9223372036854775807) := by
  obtain ⟨xs, k, hk, hxy, hcl, hxl, hff⟩ := DataW.trod_struct Try.underlying30 hf
  have h4 : Try.prog.cellsOf 30 = 4 := by kernel_rfl
  rw [h4] at hcl
  have g0 := hff 0 _ rfl
  have g1 := hff 1 _ rfl
  have g2 := hff 2 _ rfl
  have g3 := hff 3 _ rfl
  have c2 : Try.prog.cellsOf 2 = 1 := by kernel_rfl
  have c28 : Try.prog.cellsOf 28 = 1 := by kernel_rfl
  match xs, hxl, cl, hcl with
  | [(e0, p0), (e1, p1), (e2, p2), (e3, p3)], _, [v0, v1, v2, v3], _ =>
    simp [c28] at g0
    simp [c2] at g1 g2 g3
    have hd0 : d = .agg [e0, e1, e2, e3] := (Prod.mk.inj hxy).1
    have zz : ∀ (j : Nat) t d, [28, 2, 2, 2][j]? = some t → [e0, e1, e2, e3][j]? = some d → ∀ n ∈ d.weights Try.prog t, n ≤ reachBytes := fun j t d ht hd n hn => by
      refine hz n ?_
      rw [hd0]
      simp only [DataW.weights, Try.underlying30]
      exact DataW.weights_mem_each (j := j) (t := t) (d := d) ht hd n hn
    obtain ⟨a, n, c, ss, rfl, hx, hn⟩ := samples_open g0 (zz 0 28 e0 rfl rfl)
    obtain ⟨F, ev1, _, f1⟩ := DataW.trod_int Try.underlying2 g1
    obtain ⟨T, ev2, _, f2⟩ := DataW.trod_int Try.underlying2 g2
    obtain ⟨N, ev3, _, f3⟩ := DataW.trod_int Try.underlying2 g3
    have w1 : v1 = .int .i64 F := by simpa using ev1
    have w2 : v2 = .int .i64 T := by simpa using ev2
    have w3 : v3 = .int .i64 N := by simpa using ev3
    simp [Lit.wf, IntKind.min, IntKind.max, IntKind.signed, IntKind.bits] at f1 f2 f3
    exact ⟨a, n, c, F, T, N, ss, by rw [w1, w2, w3], hx, hn, by omega, by omega, by omega⟩

set_option maxRecDepth 100000 in
/-- A window and other edges that came in. -/
theorem other_open {H : Type} {enc : TypeId × Value → H} {W : World} {cl : List Value} {d : DataW H} {p : List MemPlace} {fuel : Nat}
    (hf : DataW.trod enc Try.prog W 0 (fun _ => true) true fuel 40 cl = some (d, p)) (hz : ∀ n ∈ d.weights Try.prog 40, n ≤ reachBytes) :
    ∃ (a : Option Addr) (n c : Nat) (F T N F2 T2 N2 : Int) (ss : Nat → Smp), cl = [.slice a n c, .int .i64 F, .int .i64 T, .int .i64 N, .int .i64 F2, .int .i64 T2, .int .i64 N2] ∧ HypW a n ss W ∧ n ≤ c := by
  obtain ⟨xs, k, hk, hxy, hcl, hxl, hff⟩ := DataW.trod_struct Try.underlying40 hf
  have h7 : Try.prog.cellsOf 40 = 7 := by kernel_rfl
  rw [h7] at hcl
  have g0 := hff 0 _ rfl
  have g1 := hff 1 _ rfl
  have g2 := hff 2 _ rfl
  have g3 := hff 3 _ rfl
  have c2 : Try.prog.cellsOf 2 = 1 := by kernel_rfl
  have c30 : Try.prog.cellsOf 30 = 4 := by kernel_rfl
  match xs, hxl, cl, hcl with
  | [(e0, p0), (e1, p1), (e2, p2), (e3, p3)], _, [v0, v1, v2, v3, v4, v5, v6], _ =>
    simp [c30] at g0
    simp [c2] at g1 g2 g3
    have hd0 : d = .agg [e0, e1, e2, e3] := (Prod.mk.inj hxy).1
    have zz : ∀ (j : Nat) t d, [30, 2, 2, 2][j]? = some t → [e0, e1, e2, e3][j]? = some d → ∀ n ∈ d.weights Try.prog t, n ≤ reachBytes := fun j t d ht hd n hn => by
      refine hz n ?_
      rw [hd0]
      simp only [DataW.weights, Try.underlying40]
      exact DataW.weights_mem_each (j := j) (t := t) (d := d) ht hd n hn
    obtain ⟨a, n, c, F, T, N, ss, el, hx, hn, _⟩ := window_open g0 (zz 0 30 e0 rfl rfl)
    obtain ⟨F2, ev1, _, _⟩ := DataW.trod_int Try.underlying2 g1
    obtain ⟨T2, ev2, _, _⟩ := DataW.trod_int Try.underlying2 g2
    obtain ⟨N2, ev3, _, _⟩ := DataW.trod_int Try.underlying2 g3
    simp at el
    obtain ⟨rfl, rfl, rfl, rfl⟩ := el
    have w1 : v4 = .int .i64 F2 := by simpa using ev1
    have w2 : v5 = .int .i64 T2 := by simpa using ev2
    have w3 : v6 = .int .i64 N2 := by simpa using ev3
    exact ⟨a, n, c, F, T, N, F2, T2, N2, ss, by rw [w1, w2, w3], hx, hn⟩
end Go.Proofs.Ytmjenemjbpimcaa
/- OverWiden: the row. -/
namespace Go.Proofs.Ytmjenemjbpimcaa
open Go.ChangeShapes Go.WideShapes Go.ChangeAt Go.RowKit

set_option maxRecDepth 100000 in
theorem widen_lifted (os : Os) (started : os.Started) (H : Type) (enc : TypeId × Value → H) :
    ReturnsInHanded {} Try.checked os 4 .any (Rows.overWidenSpec.pre6 enc Try.prog Try.f4 Rows.overWidenRow.domain false) (Rows.overWidenSpec.post enc Try.prog Try.f4 false true false false) := by
  refine returnsInHanded_of_change_sized (C := Try.checked) own started (by kernel_rfl) Try.func4
    (ChangeSpec.witness6 (enc := enc) (C := Try.checked) false ⟨#[], #[.agg #[.slice none 0 0, .int .i64 0, .int .i64 0, .int .i64 0]], []⟩ 8 (by kernel_rfl) (by kernel_rfl) (by kernel_rfl) (by kernel_rfl)) ?_
  intro W base args ds gs before hval0 hW hcnd hsz0 _
  have hval : ∀ (j : Nat) t v, Try.f4.params[j]? = some t → args[j]? = some v → Value.okWide Try.prog W .any base t v := hval0
  have hsz : (DataW.weightsEach Try.prog (Try.f4.params.toList ++ Rows.overWidenSpec.plain.varTypes Try.prog) (ds ++ gs)).all (· ≤ reachBytes) = true := hsz0
  have hW' := hW
  obtain ⟨p, q, hA0, hV, rfl, hfz, hnd⟩ := hW
  have hA : DataW.TrodAll enc Try.prog W 0 (fun _ => true) true Try.f4.params.toList args.toList ds p := hA0
  rw [Try.params4] at hA hval hsz
  obtain ⟨v0, d0, rfl, rfl, h0⟩ := trodAll_one hA
  obtain ⟨rfl, rfl⟩ := trodVars_none hV
  obtain ⟨cs, rfl, hcs⟩ := okWide_struct Try.underlying30 (hval 0 30 v0 rfl rfl)
  have k0 := h0
  have lt0 : ∀ x ∈ p, x.block < W.heap.size := by obtain ⟨m, hm⟩ := k0; exact DataW.trod_lt m _ _ _ hm
  have z0 : ∀ n ∈ d0.weights Try.prog 30, n ≤ reachBytes := fun n hn => by
    have := List.all_eq_true.1 hsz _ (DataW.weights_mem_each (j := 0) (t := 30) (d := d0) rfl rfl n hn)
    simpa using this
  have walk : Calls Try.prog 4 #[.agg cs] W fun e w' => e = .returned (.bool true) ∧ Below W.heap.size W w' := by
    obtain ⟨fuel, hf0⟩ := h0
    have hf : DataW.trod enc Try.prog W 0 (fun _ => true) true fuel 30 cs.toList = some (d0, p) := hf0
    obtain ⟨a, n, c, F, T, N, ss, ecl, ht, hc, _⟩ := window_open hf z0
    have ecs : cs = #[.slice a n c, .int .i64 F, .int .i64 T, .int .i64 N] := by rw [← Array.toArray_toList (xs := cs), ecl]
    rw [ecs]
    exact widen_walk a n c F T N ss W ht hc
  refine walk.mono fun e W' ⟨he, bel⟩ => ?_
  subst he
  exact ⟨_, rfl, _, _, _, [], _, [], hW', trodAll_mk1 (shut_bool Try.underlying4 _), trodAll_mk1 (Below.trod laidOut (by kernel_rfl) (of_decide_eq_true (by kernel_rfl)) k0 bel lt0), rfl, bel.frame _, fun h => by cases h⟩

theorem widen_said : Rows.OverWidenSaid :=
  OpenClaim.holds_of_wide 4 Try.f4 rfl rfl rfl rfl rfl rfl rfl ⟨rfl, rfl, rfl, rfl, rfl⟩ rfl rfl rfl rfl rfl (by kernel_rfl) Try.func4 (by kernel_rfl)
    (of_decide_eq_true (by kernel_rfl)) (by unfold Func.isWrapper; first | (rw [if_pos (by decide +kernel)]; kernel_rfl) | (rw [if_neg (by decide +kernel)]; exact ⟨rfl, rfl⟩))
    (fun os started H enc _ => widen_lifted os started H enc)
#print axioms widen_said
end Go.Proofs.Ytmjenemjbpimcaa
