/- A bundle of texts. -/
import Derived.Test.YtmjenemjbpimcaaGreatBe22
/- Over: the reference's seconds and sound. -/
namespace Go.Proofs.YtmjenemjbpimcaaGreat
open Go.RowKit

theorem rseconds_any (D : Int) (w : World) : Calls Tryz.prog 14 #[.int .i64 D] w (RF w (secF D)) := by
  have hc := cvd D
  have hq := @run_fquo Tryz.prog
  go_enter Tryz.func14, Tryz.ntmps14
  go_wp2
  go_ret
  exact ⟨_, _, rfl, rfl, fz_lt _ _ _ _, by rw [cl_fz, iw_class, cl_lit 4652007308841189376 (by decide)]; rfl⟩

/-- What the reference asks of a point. -/
def RgW (ss : Nat → Smp) (F T : Int) (i : Nat) : Prop := (ss i).s = false ∧ pv ss F i < (ss i).t ∧ (ss i).t ≤ T
theorem snd_rg {ss : Nat → Smp} {n : Nat} {F T N : Int} (h : Snd ss n F T N) (i : Nat) (hi : i < n) : RgW ss F T i := ⟨(h.2.1 i hi).1, (h.2.1 i hi).2, (snd_gd h i hi).2.1⟩
theorem rg_snd (ss : Nat → Smp) (n : Nat) (F T N : Int) (hB : Bds F T N) (h : ∀ i, i < n → RgW ss F T i) : Snd ss n F T N := by
  refine ⟨hB, fun i hi => ⟨(h i hi).1, (h i hi).2.1⟩, ?_⟩
  cases n with
  | zero => exact hB.2.1
  | succ m => rw [pv_succ]; exact (h m (by omega)).2.2

set_option maxHeartbeats 8000000 in
set_option maxRecDepth 100000 in
theorem rsound_any (a : Option Addr) (n c : Nat) (F T N : Int) (ss : Nat → Smp) (w : World) (hf : Sml w a ss n) (hl : n ≤ 9223372036854775807) :
    Calls Tryz.prog 13 #[Wn a n c F T N] w (RP w (Snd ss n F T N)) := by
  have hb0 : Hid (Below w.heap.size w (w.alloc (wnX a n c F T N))) := (Below.refl _ w).alloc (Nat.le_refl _) _
  have HC : Hid (∀ W, Below (w.alloc (wnX a n c F T N)).heap.size (w.alloc (wnX a n c F T N)) W → WnC a n c F T N w.heap.size W) := wnC_new a n c F T N w
  have HF : Hid (Sml w a ss n) := hf
  have HN : Hid (n ≤ 9223372036854775807) := hl
  clear hf
  by_cases hB : Bds F T N
  · have HB : Hid (Bds F T N) := hB
    obtain ⟨h1, h2, h3, h4, h5⟩ := hB
    have d1 : decide (F < -9007199254740992) = false := decide_eq_false (by omega)
    have d2 : decide (T < F) = false := decide_eq_false (by omega)
    have d3 : decide (9007199254740992 < T) = false := decide_eq_false (by omega)
    have d4 : decide (N < -9007199254740992) = false := decide_eq_false (by omega)
    have d5 : decide (9007199254740992 < N) = false := decide_eq_false (by omega)
    clear h1 h2 h3 h4 h5
    go_enter Tryz.func13, Tryz.ntmps13
    go_wp2
    clear d1 d2 d3 d4 d5
    go_loopw [3, 4] (fun av iv w' => ∃ i : Nat, iv = .int .i64 (i : Nat) ∧ i ≤ n ∧ av = .int .i64 (pv ss F i) ∧ Hid (∀ j, j < i → RgW ss F T j) ∧ Hid (Below (w.alloc (wnX a n c F T N)).heap.size (w.alloc (wnX a n c F T N)) w')) (fun _ iv _ => n - (RowKit.intOf iv).toNat)
    case atStart => exact ⟨0, rfl, by omega, rfl, fun j hj => absurd hj (by omega), Below.refl _ _⟩
    case round =>
      obtain ⟨i, rfl, hi, rfl, hall, hb⟩ := hrel
      have hbw : Hid (Below w.heap.size w wr) := hb0.out.trans (hb.out.mono hb0.out.size)
      obtain ⟨x0, x1, x2, x3⟩ := HC.out wr hb.out
      by_cases hlt : i < n
      · have hii : (i : Int) < (n : Int) := by omega
        have i0 : (0 : Int) ≤ (i : Int) := by omega
        rcases HF.out with h0 | ⟨g, o, rfl, hg, hat⟩
        · omega
        obtain ⟨f1, f2, f3⟩ := hat i hlt
        have q1 := bcell hbw.out f1 hg
        have q2 := bcell hbw.out f2 hg
        have q3 := bcell hbw.out f3 hg
        have H1 : Hid (RgW ss F T i → ∀ j, j < i + 1 → RgW ss F T j) := fun h j hj => by
          by_cases hji : j < i
          · exact hall.out j hji
          · obtain rfl : j = i := by omega
            exact h
        have H2 : Hid (¬ RgW ss F T i → ¬ Snd ss n F T N) := fun h g => h (snd_rg g i hlt)
        have H3 : Hid (pv ss F (i + 1) = (ss i).t) := pv_succ ss F i
        have HI : Hid (i + 1 ≤ n) := hlt
        have HG : Hid (RgW ss F T i ↔ (ss i).s = false ∧ pv ss F i < (ss i).t ∧ (ss i).t ≤ T) := Iff.rfl
        clear f1 f2 f3 hat hall hg
        obtain ⟨u, hu⟩ : ∃ u, ss i = u := ⟨_, rfl⟩
        rw [hu] at q1 q2 q3 H3 HG
        clear hu
        generalize pv ss F i = A at *
        obtain ⟨ut, uvv, us⟩ := u
        dsimp only at q1 q2 q3 H3 HG
        have bd := fun k => below_drewN hb.out k
        have bdw := fun k => below_drewN hbw.out k
        have BD : Hid (∀ k, Below (w.alloc (wnX (some ⟨g, o, none⟩) n c F T N)).heap.size (w.alloc (wnX (some ⟨g, o, none⟩) n c F T N)) (wr.drewN k)) := bd
        have BDW : Hid (∀ k, Below w.heap.size w (wr.drewN k)) := bdw
        clear bd bdw
        cases us
        · by_cases hle : ut ≤ A
          · have e1 : decide (ut ≤ A) = true := decide_eq_true hle
            have HX : Hid (¬ Snd ss n F T N) := H2.out (fun h => by have := HG.out.1 h; omega)
            clear H1 H2 HG H3
            go_wp2_with fail
            go_big_quiet (fail)
            go_wp2
            go_ret
            exact ⟨false, rfl, ⟨fun h => (by cases h), fun h => absurd h HX.out⟩, BDW.out _⟩
          have e1 : decide (ut ≤ A) = false := decide_eq_false hle
          by_cases hT : T < ut
          · have e2 : decide (T < ut) = true := decide_eq_true hT
            have HX : Hid (¬ Snd ss n F T N) := H2.out (fun h => by have := HG.out.1 h; omega)
            clear H1 H2 HG H3
            go_wp2_with fail
            go_big_quiet (fail)
            go_wp2
            go_ret
            exact ⟨false, rfl, ⟨fun h => (by cases h), fun h => absurd h HX.out⟩, BDW.out _⟩
          have e2 : decide (T < ut) = false := decide_eq_false hT
          have HX : Hid _ := H1.out (HG.out.2 ⟨rfl, by omega, by omega⟩)
          clear H1 H2 HG
          go_wp2_with fail
          go_big_quiet (fail)
          go_wp2
          exact ⟨⟨i + 1, by go_num, HI.out, by rw [H3.out], HX, BD.out _⟩, by simp [RowKit.intOf]; omega⟩
        · have HX : Hid (¬ Snd ss n F T N) := H2.out (fun h => by have := (HG.out.1 h).1; cases this)
          clear H1 H2 HG H3
          go_wp2_with fail
          go_big_quiet (fail)
          go_wp2
          go_ret
          exact ⟨false, rfl, ⟨fun h => (by cases h), fun h => absurd h HX.out⟩, BDW.out _⟩
      · have hii : ¬ (i : Int) < (n : Int) := by omega
        have HX : Hid (Snd ss n F T N) := rg_snd ss n F T N HB.out (fun j hj => hall.out j (by omega))
        clear hall
        go_wp2
        go_ret
        exact ⟨true, rfl, ⟨fun _ => HX.out, fun _ => rfl⟩, hbw.out⟩
  · have HX : Hid (¬ Snd ss n F T N) := fun h => hB h.1
    have hb1 := hb0
    by_cases e1 : F < -9007199254740992
    · have d1 : decide (F < -9007199254740992) = true := decide_eq_true e1
      clear hB HC HF
      go_enter Tryz.func13, Tryz.ntmps13
      go_wp2
      go_ret
      exact ⟨false, rfl, ⟨fun h => (by cases h), fun h => absurd h HX.out⟩, hb1.out⟩
    have d1 : decide (F < -9007199254740992) = false := decide_eq_false e1
    by_cases e3 : 9007199254740992 < T
    · have d3 : decide (9007199254740992 < T) = true := decide_eq_true e3
      clear hB HC HF
      go_enter Tryz.func13, Tryz.ntmps13
      go_wp2
      go_ret
      exact ⟨false, rfl, ⟨fun h => (by cases h), fun h => absurd h HX.out⟩, hb1.out⟩
    have d3 : decide (9007199254740992 < T) = false := decide_eq_false e3
    by_cases e2 : T < F
    · have d2 : decide (T < F) = true := decide_eq_true e2
      clear hB HC HF
      go_enter Tryz.func13, Tryz.ntmps13
      go_wp2
      go_ret
      exact ⟨false, rfl, ⟨fun h => (by cases h), fun h => absurd h HX.out⟩, hb1.out⟩
    have d2 : decide (T < F) = false := decide_eq_false e2
    by_cases e4 : N < -9007199254740992
    · have d4 : decide (N < -9007199254740992) = true := decide_eq_true e4
      clear hB HC HF
      go_enter Tryz.func13, Tryz.ntmps13
      go_wp2
      go_ret
      exact ⟨false, rfl, ⟨fun h => (by cases h), fun h => absurd h HX.out⟩, hb1.out⟩
    have d4 : decide (N < -9007199254740992) = false := decide_eq_false e4
    by_cases e5 : 9007199254740992 < N
    · have d5 : decide (9007199254740992 < N) = true := decide_eq_true e5
      clear hB HC HF
      go_enter Tryz.func13, Tryz.ntmps13
      go_wp2
      go_ret
      exact ⟨false, rfl, ⟨fun h => (by cases h), fun h => absurd h HX.out⟩, hb1.out⟩
    exact absurd ⟨by omega, by omega, by omega, by omega, by omega⟩ hB
end Go.Proofs.YtmjenemjbpimcaaGreat
/- Over: the reference's Instant. -/
namespace Go.Proofs.YtmjenemjbpimcaaGreat
open Go.RowKit

set_option maxHeartbeats 4000000 in
set_option maxRecDepth 100000 in
theorem rinstant_any (a : Option Addr) (n c : Nat) (F T N : Int) (ss : Nat → Smp) (ctr : Bool) (w : World) (hf : Sml w a ss n) (hsw : SW ss n) (hl : n ≤ 9223372036854775807) :
    Calls Tryz.prog 8 #[Wn a n c F T N, .bool ctr] w (RX w (2 ≤ n ∧ Snd ss n F T N) (inF ss n ctr)) := by
  have HB0 : Hid (Below w.heap.size w (w.alloc (wnX a n c F T N))) := (Below.refl _ w).alloc (Nat.le_refl _) _
  have HC : Hid (∀ W, Below (w.alloc (wnX a n c F T N)).heap.size (w.alloc (wnX a n c F T N)) W → WnC a n c F T N w.heap.size W) := wnC_new a n c F T N w
  have k22 := rsound_any a n c F T N ss (w.alloc (wnX a n c F T N)) (hf.below HB0.out) hl
  have HF : Hid (Sml w a ss n) := hf
  have HW : Hid (SW ss n) := hsw
  have HL : Hid (n ≤ 9223372036854775807) := hl
  clear hf hsw
  go_enter Tryz.func8, Tryz.ntmps8
  go_wp2_with fail
  go_fit k22
  rintro e w1 ⟨m1, rfl, hm1, b1⟩
  have HM1 : Hid (m1 = true ↔ Snd ss n F T N) := hm1
  have B1 : Hid (Below (w.alloc (wnX a n c F T N)).heap.size (w.alloc (wnX a n c F T N)) w1) := b1
  have B1w : Hid (Below w.heap.size w w1) := HB0.out.trans (b1.mono HB0.out.size)
  obtain ⟨x0, x1, x2, x3⟩ := HC.out w1 b1
  clear k22 hm1 b1
  cases m1
  · have HX : Hid (¬ (2 ≤ n ∧ Snd ss n F T N)) := fun h => by have := HM1.out.2 h.2; cases this
    clear HM1
    go_wp2
    go_ret2
    exact ⟨0, false, rfl, ⟨fun h => (by cases h), fun h => absurd h HX.out⟩, B1w.out, by decide, fun h => (by cases h), fun _ => rfl⟩
  have HS : Hid (Snd ss n F T N) := HM1.out.1 rfl
  clear HM1
  by_cases hn2 : (n : Int) < 2
  · have HX : Hid (¬ (2 ≤ n ∧ Snd ss n F T N)) := fun h => by have := h.1; omega
    go_wp2
    go_ret2
    exact ⟨0, false, rfl, ⟨fun h => (by cases h), fun h => absurd h HX.out⟩, B1w.out, by decide, fun h => (by cases h), fun _ => rfl⟩
  have HP : Hid (2 ≤ n ∧ Snd ss n F T N) := ⟨by omega, HS.out⟩
  rcases HF.out with h0 | ⟨g, o, rfl, hg, hat0⟩
  · exact absurd h0 (by omega)
  have hat : SAt w1 g o ss n := fun j hj => ⟨bcell B1w.out (hat0 j hj).1 hg, bcell B1w.out (hat0 j hj).2.1 hg, bcell B1w.out (hat0 j hj).2.2 hg⟩
  obtain ⟨m, hm⟩ : ∃ m, n - 2 = m := ⟨_, rfl⟩
  obtain ⟨k, hk⟩ : ∃ k, n - 1 = k := ⟨_, rfl⟩
  obtain ⟨y0, y1, y2⟩ := hat m (by omega)
  obtain ⟨z0, z1, z2⟩ := hat k (by omega)
  have l1 : Hid ((ss k).v < 18446744073709551616) := (HW.out k (by omega)).2.2
  have HE : Hid (inF ss n ctr = if ctr = true then fb .quo (if ltB (cl (ss k).v) (cl (ss m).v) = true then cl (ss k).v else fb .sub (cl (ss k).v) (cl (ss m).v)) (secF (df (ss k).t (ss m).t)) else fb .sub (cl (ss k).v) (cl (ss m).v)) := (show _ = _ by rw [← hm, ← hk]; rfl)
  generalize inF ss n ctr = R at *
  obtain ⟨u, hu⟩ : ∃ u, ss m = u := ⟨_, rfl⟩
  obtain ⟨v, hv⟩ : ∃ v, ss k = v := ⟨_, rfl⟩
  rw [hu] at y0 y1 y2 HE
  rw [hv] at z0 z1 z2 HE l1
  have w1x : IntKind.i64.wrap ((n : Int) - 1) = (k : Int) := by rw [IntKind.wrap_i64]; omega
  have w2x : IntKind.i64.wrap ((n : Int) - 2) = (m : Int) := by rw [IntKind.wrap_i64]; omega
  have p0 : (0 : Int) ≤ (m : Int) := by omega
  have p1 : (m : Int) < (n : Int) := by omega
  have p2 : (0 : Int) ≤ (k : Int) := by omega
  have p3 : (k : Int) < (n : Int) := by omega
  have p4 : ¬ (m : Int) < 0 := by omega
  have p5 : ¬ (k : Int) < 0 := by omega
  have hs := @run_fsub Tryz.prog
  have hq := @run_fquo Tryz.prog
  have hsf := @run_store_float Tryz.prog
  clear hat hat0 hu hv hm hk HS
  have HLt := ltB_eq v.v u.v
  have HSb : Hid (∀ (X Y : Obj) k, Below w.heap.size w (((w1.alloc X).alloc Y).drewN k)) := (show ∀ (X Y : Obj) k, _ from fun X Y k => below_drewN ((B1w.out.alloc B1w.out.size _).alloc (by have := B1w.out.size; simp; omega) _) k)
  have kS : ∀ D W, Calls Tryz.prog 14 #[.int .i64 D] W (RF W (secF D)) := rseconds_any
  go_wp2_with fail
  go_region_held3 (fun w' => w'.cell? ⟨w.heap.size, 0, none⟩ = some (.slice (some ⟨g, o, none⟩) n c) ∧ w'.cell? ⟨g, o + m * 3, none⟩ = some (.int .i64 u.t) ∧ w'.cell? ⟨g, o + m * 3 + 1, none⟩ = some (.float .f64 u.v) ∧ w'.cell? ⟨g, o + m * 3 + 2, none⟩ = some (.bool u.s) ∧ w'.cell? ⟨g, o + k * 3, none⟩ = some (.int .i64 v.t) ∧ w'.cell? ⟨g, o + k * 3 + 1, none⟩ = some (.float .f64 v.v) ∧ w'.cell? ⟨g, o + k * 3 + 2, none⟩ = some (.bool v.s)) (first | exact ⟨x0, y0, y1, y2, z0, z1, z2⟩ | assumption | go_keep) (fail)
  all_goals
    rename_i hh
    clear hh
    cases ctr
    · have HF2 : Hid (R = fb .sub (cl v.v) (cl u.v)) := HE.out
      clear HE HLt
      go_wp2
      go_ret2
      exact ⟨_, true, rfl, ⟨fun _ => HP.out, fun _ => rfl⟩, HSb.out _ _ _, fz_lt _ _ _ _, fun _ => by rw [cl_fz, HF2.out], fun h => by cases h⟩
    · cases hB : ltB (cl v.v) (cl u.v)
      · rw [hB] at HLt
        have HG : Hid (R = fb .quo (fb .sub (cl v.v) (cl u.v)) (secF (df v.t u.t))) := (show R = _ by rw [HE.out, hB]; rfl)
        clear HE hB
        go_wp2_with fail
        go_fit (kS _ _)
        rintro e w5 ⟨z5, n5, rfl, rfl, hz5, hc5⟩
        have HZ5 : Hid (cl z5 = secF (df v.t u.t)) := (show _ = _ by rw [hc5, df_w])
        clear hc5
        go_wp2
        go_ret2
        exact ⟨_, true, rfl, ⟨fun _ => HP.out, fun _ => rfl⟩, HSb.out _ _ _, fz_lt _ _ _ _, fun _ => by rw [cl_fz, cl_fz, HZ5.out, HG.out], fun h => by cases h⟩
      · rw [hB] at HLt
        have HG : Hid (R = fb .quo (cl v.v) (secF (df v.t u.t))) := (show R = _ by rw [HE.out, hB]; rfl)
        clear HE hB
        go_wp2_with fail
        go_fit (kS _ _)
        rintro e w5 ⟨z5, n5, rfl, rfl, hz5, hc5⟩
        have HZ5 : Hid (cl z5 = secF (df v.t u.t)) := (show _ = _ by rw [hc5, df_w])
        clear hc5
        go_wp2
        go_ret2
        exact ⟨_, true, rfl, ⟨fun _ => HP.out, fun _ => rfl⟩, HSb.out _ _ _, fz_lt _ _ _ _, fun _ => by rw [cl_fz, HZ5.out, HG.out], fun h => by cases h⟩
end Go.Proofs.YtmjenemjbpimcaaGreat
