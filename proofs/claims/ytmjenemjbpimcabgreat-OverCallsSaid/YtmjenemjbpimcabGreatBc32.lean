/- A bundle of texts. -/
import Derived.Test.YtmjenemjbpimcabGreatBc31
import Derived.Test.YtmjenemjbpimcabGreatBc06
import Derived.Deep.Cut
import Derived.Deep.CutBlock
import Derived.Test.YtmjenemjbpimcabGreatBc30
/- Over: the reference's Extrapolate. -/
namespace Go.Proofs.YtmjenemjbpimcabGreat
open Go.RowKit

set_option maxHeartbeats 16000000 in
set_option maxRecDepth 100000 in
theorem rextrapolate_any (a : Option Addr) (n c : Nat) (F T N : Int) (ss : Nat → Smp) (ctr per : Bool) (w : World) (hf : Sml w a ss n) (hsw : SW ss n) (hl : n ≤ 9223372036854775807) :
    Calls Tryz.prog 24 #[Wn a n c F T N, .bool ctr, .bool per] w (RX w (2 ≤ n ∧ Snd ss n F T N) (exF ss n F T ctr per)) := by
  have HB0 : Hid (Below w.heap.size w (w.alloc (wnX a n c F T N))) := (Below.refl _ w).alloc (Nat.le_refl _) _
  have HC : Hid (∀ W, Below (w.alloc (wnX a n c F T N)).heap.size (w.alloc (wnX a n c F T N)) W → WnC a n c F T N w.heap.size W) := wnC_new a n c F T N w
  have k22 := rsound_any a n c F T N ss (w.alloc (wnX a n c F T N)) (hf.below HB0.out) hl
  have HF : Hid (Sml w a ss n) := hf
  have HW : Hid (SW ss n) := hsw
  have HL : Hid (n ≤ 9223372036854775807) := hl
  clear hf hsw
  go_enter Tryz.func24, Tryz.ntmps24
  go_wp2_with fail
  go_fit k22
  rintro e w1 ⟨m1, rfl, hm1, b1⟩
  have HM1 : Hid (m1 = true ↔ Snd ss n F T N) := hm1
  have B1 : Hid (Below (w.alloc (wnX a n c F T N)).heap.size (w.alloc (wnX a n c F T N)) w1) := b1
  have B1w : Hid (Below w.heap.size w w1) := HB0.out.trans (b1.mono HB0.out.size)
  obtain ⟨x0, x1, x2, x3⟩ := HC.out w1 b1
  clear k22 hm1 b1
  cases m1
  · have HX : Hid (¬ (2 ≤ n ∧ Snd ss n F T N)) := fun h => by have := HM1.out.2 h.2; cases this
    clear HM1
    go_wp2
    go_ret2
    exact ⟨0, false, rfl, ⟨fun h => (by cases h), fun h => absurd h HX.out⟩, B1w.out, by decide, fun h => (by cases h), fun _ => rfl⟩
  have HS : Hid (Snd ss n F T N) := HM1.out.1 rfl
  clear HM1
  by_cases hn2 : (n : Int) < 2
  · have HX : Hid (¬ (2 ≤ n ∧ Snd ss n F T N)) := fun h => by have := h.1; omega
    go_wp2
    go_ret2
    exact ⟨0, false, rfl, ⟨fun h => (by cases h), fun h => absurd h HX.out⟩, B1w.out, by decide, fun h => (by cases h), fun _ => rfl⟩
  have HP : Hid (2 ≤ n ∧ Snd ss n F T N) := ⟨by omega, HS.out⟩
  rcases HF.out with h0 | ⟨g, o, rfl, hg, hat0⟩
  · exact absurd h0 (by omega)
  have hat : SAt w1 g o ss n := fun j hj => ⟨bcell B1w.out (hat0 j hj).1 hg, bcell B1w.out (hat0 j hj).2.1 hg, bcell B1w.out (hat0 j hj).2.2 hg⟩
  obtain ⟨k, hk⟩ : ∃ k, n - 1 = k := ⟨_, rfl⟩
  have HNK : Hid (n = k + 1) := (show n = k + 1 by omega)
  obtain ⟨y0, y1, y2⟩ := hat 0 (by omega)
  obtain ⟨z0, z1, z2⟩ := hat k (by omega)
  rw [show o + 0 * 3 = o by omega] at y0 y1 y2
  have HAT : Hid (∀ W, Below w1.heap.size w1 W → ∀ j, j < n → W.cell? ⟨g, o + j * 3 + 1, none⟩ = some (.float .f64 (ss j).v)) := (show ∀ W, _ → ∀ j, _ → _ from fun W b j hj => bcell b (hat j hj).2.1 (Nat.lt_of_lt_of_le hg B1w.out.size))
  have HR : Hid (exF ss n F T ctr per = exA (grF (fun j => (ss j).v) n ctr) (secF (df (ss k).t (ss 0).t)) (fb .quo (secF (df (ss k).t (ss 0).t)) (some (nW k))) (secF (df (ss 0).t F)) (secF (df T (ss k).t)) (cl (ss 0).v) (secF (df T F)) ctr per) := (show _ = _ by rw [← hk]; rfl)
  generalize exF ss n F T ctr per = R at *
  have HU : Hid (cl (ss 0).v = cl (ss 0).v ∧ (ss 0).v = (ss 0).v) := ⟨rfl, rfl⟩
  obtain ⟨u, hu⟩ : ∃ u, ss 0 = u := ⟨_, rfl⟩
  obtain ⟨v, hv⟩ : ∃ v, ss k = v := ⟨_, rfl⟩
  rw [hu] at y0 y1 y2 HR
  rw [hv] at z0 z1 z2 HR
  have HG0 : Hid (fb .sub (cl (ss (n - 1)).v) (cl (ss 0).v) = fb .sub (cl v.v) (cl u.v)) := (show _ = _ by rw [hk, hu, hv])
  have w1x : IntKind.i64.wrap ((n : Int) - 1) = (k : Int) := by rw [IntKind.wrap_i64]; omega
  have p0 : (0 : Int) < (n : Int) := by omega
  have pz : 0 < n := by omega
  have p2 : (0 : Int) ≤ (k : Int) := by omega
  have p3 : (k : Int) < (n : Int) := by omega
  have p5 : ¬ (k : Int) < 0 := by omega
  have hcv := cvm k
  have hs := @run_fsub Tryz.prog
  have ha := @run_fadd Tryz.prog
  have hq := @run_fquo Tryz.prog
  have hmu := @run_fmul Tryz.prog
  have hsf := @run_store_float Tryz.prog
  clear hat hat0 hu hv hk HS HU
  have kS : ∀ D W, Calls Tryz.prog 32 #[.int .i64 D] W (RF W (secF D)) := rseconds_any
  have HX0 : Hid (∀ W, Below w1.heap.size w1 W → W.cell? ⟨w.heap.size, 0, none⟩ = some (.slice (some ⟨g, o, none⟩) n c) ∧ W.cell? ⟨w.heap.size, 1, none⟩ = some (.int .i64 F) ∧ W.cell? ⟨w.heap.size, 2, none⟩ = some (.int .i64 T)) := (show ∀ W, _ → _ from fun W b => by
    obtain ⟨h0, h1, h2, _⟩ := HC.out W (B1.out.trans (b.mono B1.out.size))
    exact ⟨h0, h1, h2⟩)
  go_upto_region 4 with fail
  go_cut [9, 10] from 20 (fun s9 s10 wx => ∃ B9 B10 : Nat, s9 = .pointer (some ⟨B9, 0, none⟩) ∧ s10 = .pointer (some ⟨B10, 0, none⟩) ∧ Hid ((wx.cell? ⟨B9, 0, none⟩ = some (.int .i64 u.t) ∧ wx.cell? ⟨B9, 1, none⟩ = some (.float .f64 u.v)) ∧ wx.cell? ⟨B10, 0, none⟩ = some (.int .i64 v.t) ∧ wx.cell? ⟨B10, 1, none⟩ = some (.float .f64 v.v)) ∧ Hid (Below w1.heap.size w1 wx))
  case first =>
    go_region_held3 (fun w' => w'.cell? ⟨w.heap.size, 0, none⟩ = some (.slice (some ⟨g, o, none⟩) n c) ∧ w'.cell? ⟨g, o, none⟩ = some (.int .i64 u.t) ∧ w'.cell? ⟨g, o + 1, none⟩ = some (.float .f64 u.v) ∧ w'.cell? ⟨g, o + 2, none⟩ = some (.bool u.s) ∧ w'.cell? ⟨g, o + k * 3, none⟩ = some (.int .i64 v.t) ∧ w'.cell? ⟨g, o + k * 3 + 1, none⟩ = some (.float .f64 v.v) ∧ w'.cell? ⟨g, o + k * 3 + 2, none⟩ = some (.bool v.s)) (first | exact ⟨x0, y0, y1, y2, z0, z1, z2⟩ | assumption | go_keep) (fail)
    all_goals go_wp2
    all_goals go_meet
    · have h := two_new w1 u v
      exact ⟨_, _, rfl, rfl, h.1, h.2⟩
    · have h := two_new w1 v u
      exact ⟨_, _, rfl, rfl, ⟨h.1.2, h.1.1⟩, h.2⟩
  case rest =>
    obtain ⟨B9, B10, rfl, rfl, hP, hb⟩ := hcut
    obtain ⟨⟨q0, q1⟩, r0, r1⟩ := hP.out
    have HP9 : Hid _ := hP
    have HBc : Hid (Below w1.heap.size w1 wc) := hb
    clear y0 y1 y2 z0 z1 z2 hP hb x0 x1 x2 x3
    have hx0 := HX0.out wc HBc.out
    obtain ⟨x0, x1, x2⟩ := hx0
    have HQ1 : Hid (wc.cell? ⟨w.heap.size, 0, none⟩ = some (.slice (some ⟨g, o, none⟩) n c)) := x0
    clear hcv
    go_upto_block 0 with fail
    have L0 : Hid (fz .sub v.v u.v wc < 18446744073709551616) := fz_lt _ _ _ _
    have E0 : Hid (cl (fz .sub v.v u.v wc) = fb .sub (cl v.v) (cl u.v)) := (show _ = _ by rw [cl_fz])
    have HAW : Hid (∀ j, j < n → wc.cell? ⟨g, o + j * 3 + 1, none⟩ = some (.float .f64 (ss j).v)) := (show ∀ j, _ → _ from HAT.out wc HBc.out)
    go_cut [11, 12] from 20 (fun s11 s12 wx => ∃ x K : Nat, s11 = .float .f64 x ∧ x < 18446744073709551616 ∧ Hid (cl x = grF (fun j => (ss j).v) n ctr) ∧ wx = wc.drewN K)
    case first =>
      clear hs hq hmu hsf kS q0 q1 r0 r1 x1 x2 w1x
      go_wp2_with fail
      go_loopw [11, 12] (fun gv iv W => ∃ i x K : Nat, gv = .float .f64 x ∧ iv = .int .i64 ((i + 1 : Nat) : Int) ∧ i + 1 ≤ k + 1 ∧ x < 18446744073709551616 ∧ (ctr = false → i = 0) ∧ Hid (cl x = grI (fun j => (ss j).v) (fb .sub (cl v.v) (cl u.v)) i) ∧ W = wc.drewN K) (fun _ iv _ => k + 1 - (RowKit.intOf iv).toNat)
      case atStart => exact ⟨0, _, _, rfl, rfl, by omega, L0.out, fun _ => rfl, E0, rfl⟩
      case round =>
        obtain ⟨i, x, K, rfl, rfl, hi, hx, hz, hXF, rfl⟩ := hrel
        by_cases hlt : i < k
        · have hii : (i : Int) + 1 < (n : Int) := by have := HNK.out; omega
          cases ctr
          · have h0 := hz rfl
            subst h0
            have HXF : Hid (cl x = grF (fun j => (ss j).v) n false) := (show _ = _ by rw [hXF.out, ← HG0.out]; rfl)
            go_wp2
            go_meet
            exact ⟨x, K, rfl, hx, HXF, rfl⟩
          · have g0 := HAW.out i (by have := HNK.out; omega)
            have g1 := HAW.out (i + 1) (by have := HNK.out; omega)
            have HI : Hid (i + 1 + 1 ≤ k + 1) := (show _ ≤ _ by omega)
            have wi : IntKind.i64.wrap ((i : Int) + 1 - 1) = (i : Int) := by rw [IntKind.wrap_i64]; omega
            have wj : IntKind.i64.wrap (i : Int) = (i : Int) := by rw [IntKind.wrap_i64]; omega
            have i0 : (0 : Int) ≤ (i : Int) := by omega
            have i2 : (i : Int) < (n : Int) := by have := HNK.out; omega
            have HG : Hid (grI (fun j => (ss j).v) (fb .sub (cl v.v) (cl u.v)) (i + 1) = if ltB (cl (ss (i + 1)).v) (cl (ss i).v) = true then fb .add (grI (fun j => (ss j).v) (fb .sub (cl v.v) (cl u.v)) i) (cl (ss i).v) else grI (fun j => (ss j).v) (fb .sub (cl v.v) (cl u.v)) i) := rfl
            have d1 := ltB_eq (ss (i + 1)).v (ss i).v
            cases hB : ltB (cl (ss (i + 1)).v) (cl (ss i).v)
            · rw [hB] at d1
              go_wp2_with fail
              refine region_tail 13 (by kernel_rfl) (by kernel_rfl) ?_
              simp only [List.take_succ_cons, List.take_zero, List.drop_succ_cons, List.drop_zero]
              iterate 13 (go_big_quiet_step (fail))
              refine wpQuiet_nil ?_
              have HZ : Hid (cl x = grI (fun j => (ss j).v) (fb .sub (cl v.v) (cl u.v)) (i + 1)) := (show _ = _ by rw [HG.out, if_neg (by rw [hB]; decide)]; exact hXF.out)
              clear HG hXF
              go_wp2
              exact ⟨⟨i + 1, _, _, rfl, by go_num, HI.out, hx, fun h => (by cases h), HZ, rfl⟩, by simp [RowKit.intOf]; omega⟩
            · rw [hB] at d1
              go_wp2_with fail
              refine region_tail 13 (by kernel_rfl) (by kernel_rfl) ?_
              simp only [List.take_succ_cons, List.take_zero, List.drop_succ_cons, List.drop_zero]
              iterate 13 (go_big_quiet_step (fail))
              refine wpQuiet_nil ?_
              have HZ : ∀ W, Hid (cl (fz .add x (ss i).v W) = grI (fun j => (ss j).v) (fb .sub (cl v.v) (cl u.v)) (i + 1)) := fun W => (show _ = _ by rw [cl_fz, HG.out, if_pos hB, hXF.out])
              clear HG hXF
              go_wp2
              exact ⟨⟨i + 1, _, _, rfl, by go_num, HI.out, fz_lt _ _ _ _, fun h => (by cases h), HZ _, rfl⟩, by simp [RowKit.intOf]; omega⟩
        · have hii : ¬ (i : Int) + 1 < (n : Int) := by have := HNK.out; omega
          obtain rfl : i = k := by omega
          have HXF : Hid (cl x = grF (fun j => (ss j).v) n ctr) := (show _ = _ by
            cases ctr
            · have h0 := hz rfl
              rw [hXF.out, h0, ← HG0.out]
              rfl
            · rw [hXF.out, ← HG0.out, HNK.out]
              rfl)
          go_wp2
          go_meet
          exact ⟨x, K, rfl, hx, HXF, rfl⟩
    case rest =>
      obtain ⟨x, K, rfl, hx, hXF, rfl⟩ := hcut
      have HXF : Hid (cl x = grF (fun j => (ss j).v) n ctr) := hXF
      clear hXF L0 E0 HAW ha
      have hcv := cvm k
      go_upto_region 11 with fail
      go_cut [13, 14, 15] from 20 (fun sa sb sc wx => ∃ za zb zs K2 : Nat, sa = .float .f64 za ∧ sb = .float .f64 zb ∧ sc = .float .f64 zs ∧ (za < 18446744073709551616 ∧ zb < 18446744073709551616) ∧ Hid (cl za = secF (df u.t F) ∧ cl zb = secF (df T v.t) ∧ cl zs = secF (df v.t u.t)) ∧ wx = wc.drewN K2)
      case first =>
        go_region_held3 (fun w' => w'.cell? ⟨w.heap.size, 1, none⟩ = some (.int .i64 F) ∧ w'.cell? ⟨w.heap.size, 2, none⟩ = some (.int .i64 T) ∧ w'.cell? ⟨B9, 0, none⟩ = some (.int .i64 u.t) ∧ w'.cell? ⟨B10, 0, none⟩ = some (.int .i64 v.t)) (first | exact ⟨x1, x2, q0, r0⟩ | assumption | go_keep) (first | (go_at_call 32; go_fit (kS _ _); rintro e w5 ⟨za, ka, rfl, rfl, hla, hza⟩))
        rename_i zA kA hlA hzA zB kB hlB hzB hh2
        clear hh2
        go_wp2
        go_meet
        exact ⟨zA, zB, za, _, rfl, rfl, rfl, ⟨hlA, hlB⟩, ⟨by rw [hzA]; rfl, by rw [hzB]; rfl, by rw [hza]; rfl⟩, rfl⟩
      case rest =>
        obtain ⟨za, zb, zs, K2, rfl, rfl, rfl, ⟨hla, hlb⟩, hcl, rfl⟩ := hcut
        have HCL : Hid (cl za = secF (df u.t F) ∧ cl zb = secF (df T v.t) ∧ cl zs = secF (df v.t u.t)) := hcl
        clear hcl
        go_upto_region 14 with fail
        obtain ⟨zm, hzm⟩ : ∃ zm, zm = fz .quo zs (nW k) (wc.drewN K2) := ⟨_, rfl⟩
        rw [← hzm]
        obtain ⟨zh, hzh⟩ : ∃ zh, zh = fz .mul zm 4607632778762754458 (wc.drewN (K2 + fk .quo zs (nW k))) := ⟨_, rfl⟩
        rw [← hzh]
        have HM : Hid (cl zm = fb .quo (cl zs) (some (nW k))) := (show _ = _ by rw [hzm, cl_fz, nW_num])
        have HH : Hid (cl zh = fb .mul (cl zm) (some 4607632778762754458)) := (show _ = _ by rw [hzh, cl_fz, cl_lit 4607632778762754458 (by decide)])
        have HR2 : Hid (R = fb .mul (cl x) (if per = true then fb .quo (tmF (cl zs) (if ctr = true then cutF (cl zs) (cl u.v) (cl x) (rchF (cl za) (cl zm)) else rchF (cl za) (cl zm)) (rchF (cl zb) (cl zm))) (secF (df T F)) else tmF (cl zs) (if ctr = true then cutF (cl zs) (cl u.v) (cl x) (rchF (cl za) (cl zm)) else rchF (cl za) (cl zm)) (rchF (cl zb) (cl zm)))) := (show _ = _ by
          rw [HR.out, HXF.out, HM.out, HCL.out.1, HCL.out.2.1, HCL.out.2.2]
          rfl)
        generalize K2 + fk .quo zs (nW k) + fk .mul zm 4607632778762754458 = K3
        have HLB : Hid (zb < 18446744073709551616) := hlb
        have HLM : Hid (zm = zm) := rfl
        clear hzm hzh HR HCL hcv HG0 HAT HX0 hlb
        have two := cl_lit 4611686018427387904 (by decide)
        go_cut [103] from 20 (fun s wx => s = .bool (geB (cl za) (cl zh)) ∧ wx = wc.drewN K3)
        case first =>
          have e1 := geB_or za zh
          go_wp2
          go_meet
          exact ⟨rfl, rfl⟩
        case rest =>
          obtain ⟨rfl, rfl⟩ := hcut
          go_upto_if 103 with fail
          go_cut [13] from 20 (fun sa wx => ∃ zr K4 : Nat, sa = .float .f64 zr ∧ zr < 18446744073709551616 ∧ Hid (cl zr = rchF (cl za) (cl zm)) ∧ wx = wc.drewN K4)
          case first =>
            obtain ⟨b, hb⟩ : ∃ b, geB (cl za) (cl zh) = b := ⟨_, rfl⟩
            rw [hb]
            cases b
            · have HZ : Hid (cl za = rchF (cl za) (cl zm)) := (show _ = _ by unfold rchF; rw [← HH.out, hb]; rfl)
              go_wp2
              go_meet
              exact ⟨za, _, rfl, hla, HZ, rfl⟩
            · have HZ : ∀ W, Hid (cl (fz .quo zm 4611686018427387904 W) = rchF (cl za) (cl zm)) := fun W => (show _ = _ by unfold rchF; rw [← HH.out, hb, cl_fz, two]; rfl)
              go_wp2
              go_meet
              exact ⟨_, _, rfl, fz_lt _ _ _ _, HZ _, rfl⟩
          case rest =>
            obtain ⟨zr, K4, rfl, hlr, hcr, rfl⟩ := hcut
            have HCR : Hid (cl zr = rchF (cl za) (cl zm)) := hcr
            clear hcr
            go_upto_region 16 with fail
            go_cut [115] from 20 (fun s wx => s = .bool (ctr && gtB (cl x) (some 0) && geB (cl u.v) (some 0)) ∧ wx = wc.drewN K4)
            case first =>
              have d1 := gtB_eq x 0
              have d2 := geB_or u.v 0
              rw [cl_lit 0 (by decide)] at d1 d2
              cases ctr <;> cases hA : gtB (cl x) (some 0) <;> cases hB : geB (cl u.v) (some 0)
              all_goals
                rw [hA] at d1
                rw [hB] at d2
                go_wp2
                go_meet
                exact ⟨by rw [hA, hB]; rfl, rfl⟩
            case rest =>
              obtain ⟨rfl, rfl⟩ := hcut
              go_upto_if 115 with fail
              go_cut [13, 18] from 20 (fun sa s18 wx => ∃ zc K5 : Nat, sa = .float .f64 zc ∧ zc < 18446744073709551616 ∧ Hid (cl zc = if ctr = true then cutF (cl zs) (cl u.v) (cl x) (rchF (cl za) (cl zm)) else rchF (cl za) (cl zm)) ∧ wx = wc.drewN K5)
              case first =>
                obtain ⟨b, hb⟩ : ∃ b, (ctr && gtB (cl x) (some 0) && geB (cl u.v) (some 0)) = b := ⟨_, rfl⟩
                rw [hb]
                cases b
                · have HZ : Hid (cl zr = if ctr = true then cutF (cl zs) (cl u.v) (cl x) (rchF (cl za) (cl zm)) else rchF (cl za) (cl zm)) := (show _ = _ by
                    cases ctr
                    · exact HCR.out
                    · rw [HCR.out, if_pos rfl]
                      cases hA : gtB (cl x) (some 0)
                      · rw [cut_no1 hA]
                      · cases hB : geB (cl u.v) (some 0)
                        · rw [cut_no2 hB]
                        · rw [hA, hB] at hb; cases hb)
                  go_wp2
                  go_meet
                  exact ⟨zr, _, rfl, hlr, HZ, rfl⟩
                · have h := hb
                  rw [Bool.and_eq_true, Bool.and_eq_true] at h
                  obtain ⟨⟨hc1, hA⟩, hB⟩ := h
                  clear hb
                  have HCT : Hid (ctr = true) := hc1
                  clear hc1
                  go_upto_region 18 with fail
                  obtain ⟨zz, hzz⟩ : ∃ zz, zz = fz .mul zs (fz .quo u.v x (wc.drewN K4)) (wc.drewN (K4 + fk .quo u.v x)) := ⟨_, rfl⟩
                  rw [← hzz]
                  have HZZ : Hid (cl zz = fb .mul (cl zs) (fb .quo (cl u.v) (cl x))) := (show _ = _ by rw [hzz, cl_fz, cl_fz])
                  have hlz : zz < 18446744073709551616 := by rw [hzz]; exact fz_lt _ _ _ _
                  have HLZ : Hid (zz < 18446744073709551616) := hlz
                  generalize K4 + fk .quo u.v x + fk .mul zs (fz .quo u.v x (wc.drewN K4)) = K5
                  clear hzz hlz
                  have e3 := ltB_eq zz zr
                  cases hL : ltB (cl zz) (cl zr)
                  · rw [hL] at e3
                    have HZ : Hid (cl zr = if ctr = true then cutF (cl zs) (cl u.v) (cl x) (rchF (cl za) (cl zm)) else rchF (cl za) (cl zm)) := (show _ = _ by
                      rw [if_pos HCT.out, ← HCR.out, cut_no3 (by rw [← HZZ.out]; exact hL)])
                    clear hA hB hL
                    go_wp2
                    go_meet
                    exact ⟨zr, _, rfl, hlr, HZ, rfl⟩
                  · rw [hL] at e3
                    have HZ : Hid (cl zz = if ctr = true then cutF (cl zs) (cl u.v) (cl x) (rchF (cl za) (cl zm)) else rchF (cl za) (cl zm)) := (show _ = _ by
                      rw [if_pos HCT.out, ← HCR.out, cut_yes hA hB (by rw [← HZZ.out]; exact hL)]
                      exact HZZ.out)
                    clear hA hB hL
                    go_wp2
                    go_meet
                    exact ⟨zz, _, rfl, HLZ.out, HZ, rfl⟩
              case rest =>
                obtain ⟨zc, K5, rfl, hlc, hcc, rfl⟩ := hcut
                have HCC : Hid (cl zc = if ctr = true then cutF (cl zs) (cl u.v) (cl x) (rchF (cl za) (cl zm)) else rchF (cl za) (cl zm)) := hcc
                clear hcc
                go_upto_region 20 with fail
                go_cut [128] from 20 (fun s wx => s = .bool (geB (cl zb) (cl zh)) ∧ wx = wc.drewN K5)
                case first =>
                  have e1 := geB_or zb zh
                  go_wp2
                  go_meet
                  exact ⟨rfl, rfl⟩
                case rest =>
                  obtain ⟨rfl, rfl⟩ := hcut
                  go_upto_if 128 with fail
                  go_cut [14] from 20 (fun sa wx => ∃ zd K6 : Nat, sa = .float .f64 zd ∧ Hid (cl zd = rchF (cl zb) (cl zm)) ∧ wx = wc.drewN K6)
                  case first =>
                    obtain ⟨b, hb⟩ : ∃ b, geB (cl zb) (cl zh) = b := ⟨_, rfl⟩
                    rw [hb]
                    cases b
                    · have HZ : Hid (cl zb = rchF (cl zb) (cl zm)) := (show _ = _ by unfold rchF; rw [← HH.out, hb]; rfl)
                      go_wp2
                      go_meet
                      exact ⟨zb, _, rfl, HZ, rfl⟩
                    · have HZ : ∀ W, Hid (cl (fz .quo zm 4611686018427387904 W) = rchF (cl zb) (cl zm)) := fun W => (show _ = _ by unfold rchF; rw [← HH.out, hb, cl_fz, two]; rfl)
                      go_wp2
                      go_meet
                      exact ⟨_, _, rfl, HZ _, rfl⟩
                  case rest =>
                    obtain ⟨zd, K6, rfl, hcd, rfl⟩ := hcut
                    have HR3 : Hid (R = fb .mul (cl x) (if per = true then fb .quo (tmF (cl zs) (cl zc) (cl zd)) (secF (df T F)) else tmF (cl zs) (cl zc) (cl zd))) := (show _ = _ by rw [HR2.out, HCC.out, hcd.out])
                    have ha := @run_fadd Tryz.prog
                    have BW : Hid (∀ j, Below w.heap.size w (wc.drewN j)) := (show ∀ j, _ from fun j => below_drewN (B1w.out.trans (HBc.out.mono B1w.out.size)) j)
                    clear HR2 HCC hcd HCR HH HM hlr hlc hla HLB
                    cases per
                    · have HZ : Hid (R = fb .mul (cl x) (tmF (cl zs) (cl zc) (cl zd))) := HR3.out
                      clear HR3
                      go_wp2
                      go_ret2
                      refine ⟨_, true, rfl, ⟨fun _ => HP.out, fun _ => rfl⟩, BW.out _, fz_lt _ _ _ _, fun _ => ?_, fun h => by cases h⟩
                      rw [HZ.out]
                      unfold tmF
                      simp only [cl_fz]
                    · have HZ : Hid (R = fb .mul (cl x) (fb .quo (tmF (cl zs) (cl zc) (cl zd)) (secF (df T F)))) := HR3.out
                      clear HR3
                      go_wp2_with fail
                      go_fit (kS _ _)
                      rintro e w9 ⟨zl, kl, rfl, rfl, hll, hzl⟩
                      have HZL : Hid (cl zl = secF (df T F)) := (show _ = _ by rw [hzl, df_w])
                      clear hzl
                      go_wp2
                      go_ret2
                      refine ⟨_, true, rfl, ⟨fun _ => HP.out, fun _ => rfl⟩, BW.out _, fz_lt _ _ _ _, fun _ => ?_, fun h => by cases h⟩
                      rw [HZ.out, ← HZL.out]
                      unfold tmF
                      simp only [cl_fz]
end Go.Proofs.YtmjenemjbpimcabGreat
/- The reference's Call. -/
namespace Go.Proofs.YtmjenemjbpimcabGreat
open Go.RowKit

theorem not_named (k j : Nat) (hk : k < 23) (hj : j < 23) (hne : k ≠ j) (nm : ByteArray) (hnm : nm = (fnAt k).1) (l : List UInt8) (hl : (fnAt j).1.toList = l) : (nm.toList == l) = false :=
  ne_bytes nm (fnAt j).1 l hl (fun e => hne (names_inj k hk j hj (hnm.symm.trans e)))
set_option maxHeartbeats 8000000 in
set_option maxRecDepth 100000 in
theorem rcall_plain (k : Nat) (hk : k < 23) (hk2 : k < 14 ∨ 20 < k) (nm : ByteArray) (hnm : nm = (fnAt k).1) (a : Option Addr) (n c : Nat) (F T N : Int) (ss : Nat → Smp) (aa : Option Addr) (ca : Nat) (args : List Nat) (R : Option Nat) (w : World) (h : HypW a n ss w)
    (hP : args.length = (fnAt k).2.1 → (fnAt k).2.2.1 ≤ n → ∀ W v S, Below w.heap.size w W → Fr W S v (vls ss n) → Calls Tryz.prog 27 #[.string nm, Wn a n c F T N, v, .slice aa args.length ca] W (RB W R)) :
    Calls Tryz.prog 12 #[.string nm, Wn a n c F T N, .slice aa args.length ca] w (RX w (args.length = (fnAt k).2.1 ∧ (fnAt k).2.2.1 ≤ n ∧ Snd ss n F T N) R) := by
  have e14 := not_named k 14 hk (by decide) (by omega) nm hnm [114, 97, 116, 101] (by show ByteArray.toList ⟨#[114, 97, 116, 101]⟩ = _; rw [Lib.toList_data])
  have e15 := not_named k 15 hk (by decide) (by omega) nm hnm [105, 110, 99, 114, 101, 97, 115, 101] (by show ByteArray.toList ⟨#[105, 110, 99, 114, 101, 97, 115, 101]⟩ = _; rw [Lib.toList_data])
  have e16 := not_named k 16 hk (by decide) (by omega) nm hnm [100, 101, 108, 116, 97] (by show ByteArray.toList ⟨#[100, 101, 108, 116, 97]⟩ = _; rw [Lib.toList_data])
  have e17 := not_named k 17 hk (by decide) (by omega) nm hnm [105, 114, 97, 116, 101] (by show ByteArray.toList ⟨#[105, 114, 97, 116, 101]⟩ = _; rw [Lib.toList_data])
  have e18 := not_named k 18 hk (by decide) (by omega) nm hnm [105, 100, 101, 108, 116, 97] (by show ByteArray.toList ⟨#[105, 100, 101, 108, 116, 97]⟩ = _; rw [Lib.toList_data])
  have e19 := not_named k 19 hk (by decide) (by omega) nm hnm [100, 101, 114, 105, 118] (by show ByteArray.toList ⟨#[100, 101, 114, 105, 118]⟩ = _; rw [Lib.toList_data])
  have e20 := not_named k 20 hk (by decide) (by omega) nm hnm [112, 114, 101, 100, 105, 99, 116, 95, 108, 105, 110, 101, 97, 114] (by show ByteArray.toList ⟨#[112, 114, 101, 100, 105, 99, 116, 95, 108, 105, 110, 101, 97, 114]⟩ = _; rw [Lib.toList_data])
  have HB : Hid (Below w.heap.size w (w.alloc (wnX a n c F T N))) := (Below.refl _ w).alloc (Nat.le_refl _) _
  have HC : Hid (∀ W, Below (w.alloc (wnX a n c F T N)).heap.size (w.alloc (wnX a n c F T N)) W → WnC a n c F T N w.heap.size W) := wnC_new a n c F T N w
  have kS : Hid (∀ W, Below w.heap.size w W → Calls Tryz.prog 22 #[Wn a n c F T N] W (RP W (Snd ss n F T N))) := (show ∀ W, _ → _ from fun W b => rsound_any a n c F T N ss W (h.below b).1 (by have := h.2.2; omega))
  have kV : Hid (∀ W, Below w.heap.size w W → Calls Tryz.prog 23 #[Wn a n c F T N] W fun r w' => ∃ v, r = .returned v ∧ Fr w' (W.heap.size + 1) v (vls ss n) ∧ Below W.heap.size W w') := (show ∀ W, _ → _ from fun W b => rvalues_any a n c F T N ss W (h.below b).1 (by have := h.2.2; omega))
  have k1 := least_k k hk nm hnm
  have hL : 1 ≤ (fnAt k).2.2.1 := (show ∀ k, k < 23 → 1 ≤ (fnAt k).2.2.1 by decide +kernel) k hk
  have HP : Hid (args.length = (fnAt k).2.1 → (fnAt k).2.2.1 ≤ n → ∀ W v S, Below w.heap.size w W → Fr W S v (vls ss n) → Calls Tryz.prog 27 #[.string nm, Wn a n c F T N, v, .slice aa args.length ca] W (RB W R)) := hP
  have hn8 : n ≤ 9223372036854775807 := by have := h.2.2; omega
  generalize (fnAt k).2.2.1 = L at *
  generalize (fnAt k).2.1 = q at *
  generalize args.length = na at *
  have eL : ((L : Int) == 0) = false := beq_eq_false_iff_ne.2 (by omega)
  obtain ⟨x0, x1, x2, x3⟩ := HC.out (w.alloc (wnX a n c F T N)) (Below.refl _ _)
  clear hP hnm hk hk2 hL h
  go_enter Tryz.func12, Tryz.ntmps12
  go_wp2_with fail
  go_fit (k1 _)
  rintro e w1 ⟨rfl, rfl⟩
  by_cases hq : na = q
  · have HQ : Hid (na = q) := hq
    have eN : ((na : Int) != (q : Int)) = false := by simp [hq]
    have k2 := kS.out (w.alloc (wnX a n c F T N)) HB.out
    clear hq k1
    go_wp2_with fail
    go_fit k2
    rintro e w2 ⟨b, rfl, hb, b2⟩
    obtain ⟨x0, x1, x2, x3⟩ := HC.out w2 (b2.mono (Nat.le_refl _))
    have B2 : Hid (Below w.heap.size w w2) := HB.out.trans (b2.mono HB.out.size)
    have HC2 : Hid (∀ W, Below w2.heap.size w2 W → WnC a n c F T N w.heap.size W) := (show ∀ W, _ → _ from fun W b => HC.out W (b2.trans (b.mono b2.size)))
    have HS : Hid (b = true ↔ Snd ss n F T N) := hb
    clear hb b2 k2
    cases b
    · have HN : Hid (¬ (na = q ∧ L ≤ n ∧ Snd ss n F T N)) := fun h => (by have := HS.out.2 h.2.2; cases this)
      go_wp2
      go_ret2
      exact ⟨0, false, rfl, ⟨fun h => (by cases h), fun h => absurd h HN.out⟩, B2.out, by decide, fun h => (by cases h), fun _ => rfl⟩
    · by_cases hLn : L ≤ n
      · have hl2 : ¬ (n : Int) < (L : Int) := by omega
        have HY : Hid (na = q ∧ L ≤ n ∧ Snd ss n F T N) := ⟨HQ.out, hLn, HS.out.1 rfl⟩
        have k3 := kV.out w2 B2.out
        clear hLn HS
        go_wp2_with fail
        go_fit k3
        rintro e w3 ⟨v, rfl, hf, b3⟩
        obtain ⟨x0, x1, x2, x3⟩ := HC2.out w3 b3
        have B3 : Hid (Below w.heap.size w w3) := B2.out.trans (b3.mono B2.out.size)
        have k4 := HP.out HQ.out HY.out.2.1 w3 v _ B3.out hf
        clear hf b3 k3 HP
        go_wp2_with fail
        go_fit k4
        rintro e w4 ⟨z, rfl, b4, hlz, hz⟩
        have B4 : Hid (Below w.heap.size w w4) := B3.out.trans (b4.mono B3.out.size)
        have HZ : Hid (cl z = R) := hz
        clear b4 hz k4
        go_wp2
        go_ret2
        exact ⟨z, true, rfl, ⟨fun _ => HY.out, fun _ => rfl⟩, B4.out, hlz, fun _ => HZ.out, fun h => (by cases h)⟩
      · have hl2 : (n : Int) < (L : Int) := by omega
        have HN : Hid (¬ (na = q ∧ L ≤ n ∧ Snd ss n F T N)) := fun h => hLn h.2.1
        clear hLn
        go_wp2
        go_ret2
        exact ⟨0, false, rfl, ⟨fun h => (by cases h), fun h => absurd h HN.out⟩, B2.out, by decide, fun h => (by cases h), fun _ => rfl⟩
  · have HN : Hid (¬ (na = q ∧ L ≤ n ∧ Snd ss n F T N)) := fun h => hq h.1
    have eN : ((na : Int) != (q : Int)) = true := by simp; omega
    clear hq k1
    go_wp2
    go_ret2
    exact ⟨0, false, rfl, ⟨fun h => (by cases h), fun h => absurd h HN.out⟩, HB.out, by decide, fun h => (by cases h), fun _ => rfl⟩
set_option maxHeartbeats 8000000 in
set_option maxRecDepth 100000 in
theorem rcall_un (nm : ByteArray) (hnm : ¬ Knw nm) (a : Option Addr) (n c : Nat) (F T N : Int) (aa : Option Addr) (na ca : Nat) (w : World) :
    Calls Tryz.prog 12 #[.string nm, Wn a n c F T N, .slice aa na ca] w fun r w' => r = .returned (.tuple #[.float .f64 0, .bool false]) ∧ Below w.heap.size w w' := by
  have HB : Hid (Below w.heap.size w (w.alloc (wnX a n c F T N))) := (Below.refl _ w).alloc (Nat.le_refl _) _
  have k1 := least_un nm hnm
  clear hnm
  go_enter Tryz.func12, Tryz.ntmps12
  go_wp2_with fail
  go_fit (k1 _)
  rintro e w1 ⟨rfl, rfl⟩
  go_wp2
  go_ret2
  exact ⟨rfl, HB.out⟩
end Go.Proofs.YtmjenemjbpimcabGreat
