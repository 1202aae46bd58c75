/- A bundle of texts. -/
import Derived.Test.YtmjenemjbpimcabGreatBc22
import Derived.Test.YtmjenemjbpimcabGreatBc23
import Derived.Test.YtmjenemjbpimcabGreatBc07
/- Over: the reference's seconds and sound. -/
namespace Go.Proofs.YtmjenemjbpimcabGreat
open Go.RowKit

theorem rseconds_any (D : Int) (w : World) : Calls Tryz.prog 32 #[.int .i64 D] w (RF w (secF D)) := by
  have hc := cvd D
  have hq := @run_fquo Tryz.prog
  go_enter Tryz.func32, Tryz.ntmps32
  go_wp2
  go_ret
  exact ⟨_, _, rfl, rfl, fz_lt _ _ _ _, by rw [cl_fz, iw_class, cl_lit 4652007308841189376 (by decide)]; rfl⟩

/-- What the reference asks of a point. -/
def RgW (ss : Nat → Smp) (F T : Int) (i : Nat) : Prop := (ss i).s = false ∧ pv ss F i < (ss i).t ∧ (ss i).t ≤ T
theorem snd_rg {ss : Nat → Smp} {n : Nat} {F T N : Int} (h : Snd ss n F T N) (i : Nat) (hi : i < n) : RgW ss F T i := ⟨(h.2.1 i hi).1, (h.2.1 i hi).2, (snd_gd h i hi).2.1⟩
theorem rg_snd (ss : Nat → Smp) (n : Nat) (F T N : Int) (hB : Bds F T N) (h : ∀ i, i < n → RgW ss F T i) : Snd ss n F T N := by
  refine ⟨hB, fun i hi => ⟨(h i hi).1, (h i hi).2.1⟩, ?_⟩
  cases n with
  | zero => exact hB.2.1
  | succ m => rw [pv_succ]; exact (h m (by omega)).2.2

set_option maxHeartbeats 8000000 in
set_option maxRecDepth 100000 in
theorem rsound_any (a : Option Addr) (n c : Nat) (F T N : Int) (ss : Nat → Smp) (w : World) (hf : Sml w a ss n) (hl : n ≤ 9223372036854775807) :
    Calls Tryz.prog 22 #[Wn a n c F T N] w (RP w (Snd ss n F T N)) := by
  have hb0 : Hid (Below w.heap.size w (w.alloc (wnX a n c F T N))) := (Below.refl _ w).alloc (Nat.le_refl _) _
  have HC : Hid (∀ W, Below (w.alloc (wnX a n c F T N)).heap.size (w.alloc (wnX a n c F T N)) W → WnC a n c F T N w.heap.size W) := wnC_new a n c F T N w
  have HF : Hid (Sml w a ss n) := hf
  have HN : Hid (n ≤ 9223372036854775807) := hl
  clear hf
  by_cases hB : Bds F T N
  · have HB : Hid (Bds F T N) := hB
    obtain ⟨h1, h2, h3, h4, h5⟩ := hB
    have d1 : decide (F < -9007199254740992) = false := decide_eq_false (by omega)
    have d2 : decide (T < F) = false := decide_eq_false (by omega)
    have d3 : decide (9007199254740992 < T) = false := decide_eq_false (by omega)
    have d4 : decide (N < -9007199254740992) = false := decide_eq_false (by omega)
    have d5 : decide (9007199254740992 < N) = false := decide_eq_false (by omega)
    clear h1 h2 h3 h4 h5
    go_enter Tryz.func22, Tryz.ntmps22
    go_wp2
    clear d1 d2 d3 d4 d5
    go_loopw [3, 4] (fun av iv w' => ∃ i : Nat, iv = .int .i64 (i : Nat) ∧ i ≤ n ∧ av = .int .i64 (pv ss F i) ∧ Hid (∀ j, j < i → RgW ss F T j) ∧ Hid (Below (w.alloc (wnX a n c F T N)).heap.size (w.alloc (wnX a n c F T N)) w')) (fun _ iv _ => n - (RowKit.intOf iv).toNat)
    case atStart => exact ⟨0, rfl, by omega, rfl, fun j hj => absurd hj (by omega), Below.refl _ _⟩
    case round =>
      obtain ⟨i, rfl, hi, rfl, hall, hb⟩ := hrel
      have hbw : Hid (Below w.heap.size w wr) := hb0.out.trans (hb.out.mono hb0.out.size)
      obtain ⟨x0, x1, x2, x3⟩ := HC.out wr hb.out
      by_cases hlt : i < n
      · have hii : (i : Int) < (n : Int) := by omega
        have i0 : (0 : Int) ≤ (i : Int) := by omega
        rcases HF.out with h0 | ⟨g, o, rfl, hg, hat⟩
        · omega
        obtain ⟨f1, f2, f3⟩ := hat i hlt
        have q1 := bcell hbw.out f1 hg
        have q2 := bcell hbw.out f2 hg
        have q3 := bcell hbw.out f3 hg
        have H1 : Hid (RgW ss F T i → ∀ j, j < i + 1 → RgW ss F T j) := fun h j hj => by
          by_cases hji : j < i
          · exact hall.out j hji
          · obtain rfl : j = i := by omega
            exact h
        have H2 : Hid (¬ RgW ss F T i → ¬ Snd ss n F T N) := fun h g => h (snd_rg g i hlt)
        have H3 : Hid (pv ss F (i + 1) = (ss i).t) := pv_succ ss F i
        have HI : Hid (i + 1 ≤ n) := hlt
        have HG : Hid (RgW ss F T i ↔ (ss i).s = false ∧ pv ss F i < (ss i).t ∧ (ss i).t ≤ T) := Iff.rfl
        clear f1 f2 f3 hat hall hg
        obtain ⟨u, hu⟩ : ∃ u, ss i = u := ⟨_, rfl⟩
        rw [hu] at q1 q2 q3 H3 HG
        clear hu
        generalize pv ss F i = A at *
        obtain ⟨ut, uvv, us⟩ := u
        dsimp only at q1 q2 q3 H3 HG
        have bd := fun k => below_drewN hb.out k
        have bdw := fun k => below_drewN hbw.out k
        have BD : Hid (∀ k, Below (w.alloc (wnX (some ⟨g, o, none⟩) n c F T N)).heap.size (w.alloc (wnX (some ⟨g, o, none⟩) n c F T N)) (wr.drewN k)) := bd
        have BDW : Hid (∀ k, Below w.heap.size w (wr.drewN k)) := bdw
        clear bd bdw
        cases us
        · by_cases hle : ut ≤ A
          · have e1 : decide (ut ≤ A) = true := decide_eq_true hle
            have HX : Hid (¬ Snd ss n F T N) := H2.out (fun h => by have := HG.out.1 h; omega)
            clear H1 H2 HG H3
            go_wp2_with fail
            go_big_quiet (fail)
            go_wp2
            go_ret
            exact ⟨false, rfl, ⟨fun h => (by cases h), fun h => absurd h HX.out⟩, BDW.out _⟩
          have e1 : decide (ut ≤ A) = false := decide_eq_false hle
          by_cases hT : T < ut
          · have e2 : decide (T < ut) = true := decide_eq_true hT
            have HX : Hid (¬ Snd ss n F T N) := H2.out (fun h => by have := HG.out.1 h; omega)
            clear H1 H2 HG H3
            go_wp2_with fail
            go_big_quiet (fail)
            go_wp2
            go_ret
            exact ⟨false, rfl, ⟨fun h => (by cases h), fun h => absurd h HX.out⟩, BDW.out _⟩
          have e2 : decide (T < ut) = false := decide_eq_false hT
          have HX : Hid _ := H1.out (HG.out.2 ⟨rfl, by omega, by omega⟩)
          clear H1 H2 HG
          go_wp2_with fail
          go_big_quiet (fail)
          go_wp2
          exact ⟨⟨i + 1, by go_num, HI.out, by rw [H3.out], HX, BD.out _⟩, by simp [RowKit.intOf]; omega⟩
        · have HX : Hid (¬ Snd ss n F T N) := H2.out (fun h => by have := (HG.out.1 h).1; cases this)
          clear H1 H2 HG H3
          go_wp2_with fail
          go_big_quiet (fail)
          go_wp2
          go_ret
          exact ⟨false, rfl, ⟨fun h => (by cases h), fun h => absurd h HX.out⟩, BDW.out _⟩
      · have hii : ¬ (i : Int) < (n : Int) := by omega
        have HX : Hid (Snd ss n F T N) := rg_snd ss n F T N HB.out (fun j hj => hall.out j (by omega))
        clear hall
        go_wp2
        go_ret
        exact ⟨true, rfl, ⟨fun _ => HX.out, fun _ => rfl⟩, hbw.out⟩
  · have HX : Hid (¬ Snd ss n F T N) := fun h => hB h.1
    have hb1 := hb0
    by_cases e1 : F < -9007199254740992
    · have d1 : decide (F < -9007199254740992) = true := decide_eq_true e1
      clear hB HC HF
      go_enter Tryz.func22, Tryz.ntmps22
      go_wp2
      go_ret
      exact ⟨false, rfl, ⟨fun h => (by cases h), fun h => absurd h HX.out⟩, hb1.out⟩
    have d1 : decide (F < -9007199254740992) = false := decide_eq_false e1
    by_cases e3 : 9007199254740992 < T
    · have d3 : decide (9007199254740992 < T) = true := decide_eq_true e3
      clear hB HC HF
      go_enter Tryz.func22, Tryz.ntmps22
      go_wp2
      go_ret
      exact ⟨false, rfl, ⟨fun h => (by cases h), fun h => absurd h HX.out⟩, hb1.out⟩
    have d3 : decide (9007199254740992 < T) = false := decide_eq_false e3
    by_cases e2 : T < F
    · have d2 : decide (T < F) = true := decide_eq_true e2
      clear hB HC HF
      go_enter Tryz.func22, Tryz.ntmps22
      go_wp2
      go_ret
      exact ⟨false, rfl, ⟨fun h => (by cases h), fun h => absurd h HX.out⟩, hb1.out⟩
    have d2 : decide (T < F) = false := decide_eq_false e2
    by_cases e4 : N < -9007199254740992
    · have d4 : decide (N < -9007199254740992) = true := decide_eq_true e4
      clear hB HC HF
      go_enter Tryz.func22, Tryz.ntmps22
      go_wp2
      go_ret
      exact ⟨false, rfl, ⟨fun h => (by cases h), fun h => absurd h HX.out⟩, hb1.out⟩
    have d4 : decide (N < -9007199254740992) = false := decide_eq_false e4
    by_cases e5 : 9007199254740992 < N
    · have d5 : decide (9007199254740992 < N) = true := decide_eq_true e5
      clear hB HC HF
      go_enter Tryz.func22, Tryz.ntmps22
      go_wp2
      go_ret
      exact ⟨false, rfl, ⟨fun h => (by cases h), fun h => absurd h HX.out⟩, hb1.out⟩
    exact absurd ⟨by omega, by omega, by omega, by omega, by omega⟩ hB
end Go.Proofs.YtmjenemjbpimcabGreat
/- The reference's changes and resets. -/
namespace Go.Proofs.YtmjenemjbpimcabGreat
open Go.RowKit

theorem ch_eq (p u : Nat) : (FloatKind.f64.format.order u p != some .eq) = !(fo (cl u) (cl p) == some .eq) := by
  rw [bne, ← fo_cl]
set_option maxHeartbeats 16000000 in
set_option maxRecDepth 100000 in
theorem rpairs_any (a : Option Addr) (c : Nat) (xs : List Nat) (w : World) (hf : Fm w a xs) (hn : xs.length ≠ 0) (hl : xs.length ≤ 9223372036854775807) :
    Calls Tryz.prog 42 #[.slice a xs.length c] w (RT w (some (nW (ctI chB (fun j => xs.getD j 0) (xs.length - 1)))) (some (nW (ctI (fun x y => ltB y x) (fun j => xs.getD j 0) (xs.length - 1))))) := by
  obtain ⟨g, o, rfl, hg, hat⟩ := fm_cell hf hn
  have HAT : Hid (∀ j, j < xs.length → w.cell? ⟨g, o + j, none⟩ = some (.float .f64 (xs.getD j 0))) := hat
  have HA0 : Hid (0 = ctI chB (fun j => xs.getD j 0) 0) := rfl
  have HB0 : Hid (0 = ctI (fun x y => ltB y x) (fun j => xs.getD j 0) 0) := rfl
  have HA1 : Hid (∀ i, ctI chB (fun j => xs.getD j 0) (i + 1) = ctI chB (fun j => xs.getD j 0) i + (if (!(fo (cl (xs.getD (i + 1) 0)) (cl (xs.getD i 0)) == some .eq) && !((cl (xs.getD i 0)).isNone && (cl (xs.getD (i + 1) 0)).isNone)) = true then 1 else 0)) := fun i => rfl
  have HB1 : Hid (∀ i, ctI (fun x y => ltB y x) (fun j => xs.getD j 0) (i + 1) = ctI (fun x y => ltB y x) (fun j => xs.getD j 0) i + (if ltB (cl (xs.getD (i + 1) 0)) (cl (xs.getD i 0)) = true then 1 else 0)) := fun i => rfl
  have HAL : Hid (∀ i, ctI chB (fun j => xs.getD j 0) i ≤ i) := ctI_le _ _
  have HBL : Hid (∀ i, ctI (fun x y => ltB y x) (fun j => xs.getD j 0) i ≤ i) := ctI_le _ _
  obtain ⟨m, hm⟩ : ∃ m, xs.length = m + 1 := ⟨xs.length - 1, by omega⟩
  rw [hm] at HAT hl ⊢
  rw [Nat.add_sub_cancel]
  generalize ctI chB (fun j => xs.getD j 0) = R1 at *
  generalize ctI (fun x y => ltB y x) (fun j => xs.getD j 0) = R2 at *
  have hcv := cvm
  clear hf hn hg hat hm
  go_enter Tryz.func42, Tryz.ntmps42
  go_wp2_with fail
  go_loopw [4, 5, 6] (fun xv yv iv w' => ∃ i x y k : Nat, iv = .int .i64 ((i : Int) + 1) ∧ i ≤ m ∧ xv = .int .i64 (x : Int) ∧ yv = .int .i64 (y : Int) ∧ Hid (x = R1 i) ∧ Hid (y = R2 i) ∧ w' = w.drewN k) (fun _ _ iv _ => m + 1 - (RowKit.intOf iv).toNat)
  case atStart => exact ⟨0, 0, 0, 0, rfl, by omega, rfl, rfl, HA0, HB0, rfl⟩
  case round =>
    obtain ⟨i, x, y, k, rfl, hi, rfl, rfl, hst, hsu, rfl⟩ := hrel
    have hx9 : (x : Int) ≤ 9223372036854775806 := by have := hst.out; have := HAL.out i; omega
    have hy9 : (y : Int) ≤ 9223372036854775806 := by have := hsu.out; have := HBL.out i; omega
    by_cases hlt : i < m
    · have hii : (i : Int) + 1 < (m : Int) + 1 := by omega
      have i0 : (0 : Int) ≤ (i : Int) + 1 := by omega
      have i1 : (0 : Int) ≤ (i : Int) := by omega
      have i2 : (i : Int) < (m : Int) + 1 := by omega
      have wi : IntKind.i64.wrap ((i : Int) + 1 - 1) = (i : Int) := by rw [IntKind.wrap_i64]; omega
      have wx : IntKind.i64.wrap ((x : Int) + 1) = (x : Int) + 1 := by rw [IntKind.wrap_i64]; omega
      have wy : IntKind.i64.wrap ((y : Int) + 1) = (y : Int) + 1 := by rw [IntKind.wrap_i64]; omega
      have q1 := HAT.out (i + 1) (by omega)
      have q0 := HAT.out i (by omega)
      have HI : Hid (i + 1 ≤ m) := hlt
      have HN1 := HA1.out i
      have HN2 := HB1.out i
      rw [← hst.out] at HN1
      rw [← hsu.out] at HN2
      generalize xs.getD (i + 1) 0 = u at *
      generalize xs.getD i 0 = p at *
      have d0 := ne_self u
      have d1 := ne_self p
      have d2 := ch_eq p u
      have d3 := ltB_eq u p
      clear hst hsu
      cases e0 : (cl u).isNone
      · cases e1 : (cl p).isNone
        · cases e2 : (fo (cl u) (cl p) == some .eq)
          · cases e3 : ltB (cl u) (cl p)
            · rw [e0] at d0 HN1
              rw [e1] at d1 HN1
              rw [e2] at d2 HN1
              rw [e3] at d3 HN2
              have HZ1 : Hid (x + 1 = R1 (i + 1)) := (show _ = _ by rw [HN1]; rfl)
              have HZ2 : Hid (y = R2 (i + 1)) := (show _ = _ by rw [HN2]; rfl)
              clear HN1 HN2 e0 e1 e2 e3
              go_wp2_with fail
              go_quiet (fail)
              go_wp2_with fail
              go_quiet (fail)
              go_wp2_with fail
              go_quiet (fail)
              go_wp2_with fail
              exact ⟨⟨i + 1, x + 1, y, _, by go_num, HI.out, by go_num, by go_num, HZ1, HZ2, rfl⟩, by simp [RowKit.intOf]; omega⟩
            · rw [e0] at d0 HN1
              rw [e1] at d1 HN1
              rw [e2] at d2 HN1
              rw [e3] at d3 HN2
              have HZ1 : Hid (x + 1 = R1 (i + 1)) := (show _ = _ by rw [HN1]; rfl)
              have HZ2 : Hid (y + 1 = R2 (i + 1)) := (show _ = _ by rw [HN2]; rfl)
              clear HN1 HN2 e0 e1 e2 e3
              go_wp2_with fail
              go_quiet (fail)
              go_wp2_with fail
              go_quiet (fail)
              go_wp2_with fail
              go_quiet (fail)
              go_wp2_with fail
              exact ⟨⟨i + 1, x + 1, y + 1, _, by go_num, HI.out, by go_num, by go_num, HZ1, HZ2, rfl⟩, by simp [RowKit.intOf]; omega⟩
          · cases e3 : ltB (cl u) (cl p)
            · rw [e0] at d0 HN1
              rw [e1] at d1 HN1
              rw [e2] at d2 HN1
              rw [e3] at d3 HN2
              have HZ1 : Hid (x = R1 (i + 1)) := (show _ = _ by rw [HN1]; rfl)
              have HZ2 : Hid (y = R2 (i + 1)) := (show _ = _ by rw [HN2]; rfl)
              clear HN1 HN2 e0 e1 e2 e3
              go_wp2_with fail
              go_quiet (fail)
              go_wp2_with fail
              go_quiet (fail)
              go_wp2_with fail
              go_quiet (fail)
              go_wp2_with fail
              exact ⟨⟨i + 1, x, y, _, by go_num, HI.out, by go_num, by go_num, HZ1, HZ2, rfl⟩, by simp [RowKit.intOf]; omega⟩
            · rw [e0] at d0 HN1
              rw [e1] at d1 HN1
              rw [e2] at d2 HN1
              rw [e3] at d3 HN2
              have HZ1 : Hid (x = R1 (i + 1)) := (show _ = _ by rw [HN1]; rfl)
              have HZ2 : Hid (y + 1 = R2 (i + 1)) := (show _ = _ by rw [HN2]; rfl)
              clear HN1 HN2 e0 e1 e2 e3
              go_wp2_with fail
              go_quiet (fail)
              go_wp2_with fail
              go_quiet (fail)
              go_wp2_with fail
              go_quiet (fail)
              go_wp2_with fail
              exact ⟨⟨i + 1, x, y + 1, _, by go_num, HI.out, by go_num, by go_num, HZ1, HZ2, rfl⟩, by simp [RowKit.intOf]; omega⟩
        · cases e2 : (fo (cl u) (cl p) == some .eq)
          · cases e3 : ltB (cl u) (cl p)
            · rw [e0] at d0 HN1
              rw [e1] at d1 HN1
              rw [e2] at d2 HN1
              rw [e3] at d3 HN2
              have HZ1 : Hid (x + 1 = R1 (i + 1)) := (show _ = _ by rw [HN1]; rfl)
              have HZ2 : Hid (y = R2 (i + 1)) := (show _ = _ by rw [HN2]; rfl)
              clear HN1 HN2 e0 e1 e2 e3
              go_wp2_with fail
              go_quiet (fail)
              go_wp2_with fail
              go_quiet (fail)
              go_wp2_with fail
              go_quiet (fail)
              go_wp2_with fail
              exact ⟨⟨i + 1, x + 1, y, _, by go_num, HI.out, by go_num, by go_num, HZ1, HZ2, rfl⟩, by simp [RowKit.intOf]; omega⟩
            · rw [e0] at d0 HN1
              rw [e1] at d1 HN1
              rw [e2] at d2 HN1
              rw [e3] at d3 HN2
              have HZ1 : Hid (x + 1 = R1 (i + 1)) := (show _ = _ by rw [HN1]; rfl)
              have HZ2 : Hid (y + 1 = R2 (i + 1)) := (show _ = _ by rw [HN2]; rfl)
              clear HN1 HN2 e0 e1 e2 e3
              go_wp2_with fail
              go_quiet (fail)
              go_wp2_with fail
              go_quiet (fail)
              go_wp2_with fail
              go_quiet (fail)
              go_wp2_with fail
              exact ⟨⟨i + 1, x + 1, y + 1, _, by go_num, HI.out, by go_num, by go_num, HZ1, HZ2, rfl⟩, by simp [RowKit.intOf]; omega⟩
          · cases e3 : ltB (cl u) (cl p)
            · rw [e0] at d0 HN1
              rw [e1] at d1 HN1
              rw [e2] at d2 HN1
              rw [e3] at d3 HN2
              have HZ1 : Hid (x = R1 (i + 1)) := (show _ = _ by rw [HN1]; rfl)
              have HZ2 : Hid (y = R2 (i + 1)) := (show _ = _ by rw [HN2]; rfl)
              clear HN1 HN2 e0 e1 e2 e3
              go_wp2_with fail
              go_quiet (fail)
              go_wp2_with fail
              go_quiet (fail)
              go_wp2_with fail
              go_quiet (fail)
              go_wp2_with fail
              exact ⟨⟨i + 1, x, y, _, by go_num, HI.out, by go_num, by go_num, HZ1, HZ2, rfl⟩, by simp [RowKit.intOf]; omega⟩
            · rw [e0] at d0 HN1
              rw [e1] at d1 HN1
              rw [e2] at d2 HN1
              rw [e3] at d3 HN2
              have HZ1 : Hid (x = R1 (i + 1)) := (show _ = _ by rw [HN1]; rfl)
              have HZ2 : Hid (y + 1 = R2 (i + 1)) := (show _ = _ by rw [HN2]; rfl)
              clear HN1 HN2 e0 e1 e2 e3
              go_wp2_with fail
              go_quiet (fail)
              go_wp2_with fail
              go_quiet (fail)
              go_wp2_with fail
              go_quiet (fail)
              go_wp2_with fail
              exact ⟨⟨i + 1, x, y + 1, _, by go_num, HI.out, by go_num, by go_num, HZ1, HZ2, rfl⟩, by simp [RowKit.intOf]; omega⟩
      · cases e1 : (cl p).isNone
        · cases e2 : (fo (cl u) (cl p) == some .eq)
          · cases e3 : ltB (cl u) (cl p)
            · rw [e0] at d0 HN1
              rw [e1] at d1 HN1
              rw [e2] at d2 HN1
              rw [e3] at d3 HN2
              have HZ1 : Hid (x + 1 = R1 (i + 1)) := (show _ = _ by rw [HN1]; rfl)
              have HZ2 : Hid (y = R2 (i + 1)) := (show _ = _ by rw [HN2]; rfl)
              clear HN1 HN2 e0 e1 e2 e3
              go_wp2_with fail
              go_quiet (fail)
              go_wp2_with fail
              go_quiet (fail)
              go_wp2_with fail
              go_quiet (fail)
              go_wp2_with fail
              exact ⟨⟨i + 1, x + 1, y, _, by go_num, HI.out, by go_num, by go_num, HZ1, HZ2, rfl⟩, by simp [RowKit.intOf]; omega⟩
            · rw [e0] at d0 HN1
              rw [e1] at d1 HN1
              rw [e2] at d2 HN1
              rw [e3] at d3 HN2
              have HZ1 : Hid (x + 1 = R1 (i + 1)) := (show _ = _ by rw [HN1]; rfl)
              have HZ2 : Hid (y + 1 = R2 (i + 1)) := (show _ = _ by rw [HN2]; rfl)
              clear HN1 HN2 e0 e1 e2 e3
              go_wp2_with fail
              go_quiet (fail)
              go_wp2_with fail
              go_quiet (fail)
              go_wp2_with fail
              go_quiet (fail)
              go_wp2_with fail
              exact ⟨⟨i + 1, x + 1, y + 1, _, by go_num, HI.out, by go_num, by go_num, HZ1, HZ2, rfl⟩, by simp [RowKit.intOf]; omega⟩
          · cases e3 : ltB (cl u) (cl p)
            · rw [e0] at d0 HN1
              rw [e1] at d1 HN1
              rw [e2] at d2 HN1
              rw [e3] at d3 HN2
              have HZ1 : Hid (x = R1 (i + 1)) := (show _ = _ by rw [HN1]; rfl)
              have HZ2 : Hid (y = R2 (i + 1)) := (show _ = _ by rw [HN2]; rfl)
              clear HN1 HN2 e0 e1 e2 e3
              go_wp2_with fail
              go_quiet (fail)
              go_wp2_with fail
              go_quiet (fail)
              go_wp2_with fail
              go_quiet (fail)
              go_wp2_with fail
              exact ⟨⟨i + 1, x, y, _, by go_num, HI.out, by go_num, by go_num, HZ1, HZ2, rfl⟩, by simp [RowKit.intOf]; omega⟩
            · rw [e0] at d0 HN1
              rw [e1] at d1 HN1
              rw [e2] at d2 HN1
              rw [e3] at d3 HN2
              have HZ1 : Hid (x = R1 (i + 1)) := (show _ = _ by rw [HN1]; rfl)
              have HZ2 : Hid (y + 1 = R2 (i + 1)) := (show _ = _ by rw [HN2]; rfl)
              clear HN1 HN2 e0 e1 e2 e3
              go_wp2_with fail
              go_quiet (fail)
              go_wp2_with fail
              go_quiet (fail)
              go_wp2_with fail
              go_quiet (fail)
              go_wp2_with fail
              exact ⟨⟨i + 1, x, y + 1, _, by go_num, HI.out, by go_num, by go_num, HZ1, HZ2, rfl⟩, by simp [RowKit.intOf]; omega⟩
        · cases e2 : (fo (cl u) (cl p) == some .eq)
          · cases e3 : ltB (cl u) (cl p)
            · rw [e0] at d0 HN1
              rw [e1] at d1 HN1
              rw [e2] at d2 HN1
              rw [e3] at d3 HN2
              have HZ1 : Hid (x = R1 (i + 1)) := (show _ = _ by rw [HN1]; rfl)
              have HZ2 : Hid (y = R2 (i + 1)) := (show _ = _ by rw [HN2]; rfl)
              clear HN1 HN2 e0 e1 e2 e3
              go_wp2_with fail
              go_quiet (fail)
              go_wp2_with fail
              go_quiet (fail)
              go_wp2_with fail
              go_quiet (fail)
              go_wp2_with fail
              exact ⟨⟨i + 1, x, y, _, by go_num, HI.out, by go_num, by go_num, HZ1, HZ2, rfl⟩, by simp [RowKit.intOf]; omega⟩
            · rw [e0] at d0 HN1
              rw [e1] at d1 HN1
              rw [e2] at d2 HN1
              rw [e3] at d3 HN2
              have HZ1 : Hid (x = R1 (i + 1)) := (show _ = _ by rw [HN1]; rfl)
              have HZ2 : Hid (y + 1 = R2 (i + 1)) := (show _ = _ by rw [HN2]; rfl)
              clear HN1 HN2 e0 e1 e2 e3
              go_wp2_with fail
              go_quiet (fail)
              go_wp2_with fail
              go_quiet (fail)
              go_wp2_with fail
              go_quiet (fail)
              go_wp2_with fail
              exact ⟨⟨i + 1, x, y + 1, _, by go_num, HI.out, by go_num, by go_num, HZ1, HZ2, rfl⟩, by simp [RowKit.intOf]; omega⟩
          · cases e3 : ltB (cl u) (cl p)
            · rw [e0] at d0 HN1
              rw [e1] at d1 HN1
              rw [e2] at d2 HN1
              rw [e3] at d3 HN2
              have HZ1 : Hid (x = R1 (i + 1)) := (show _ = _ by rw [HN1]; rfl)
              have HZ2 : Hid (y = R2 (i + 1)) := (show _ = _ by rw [HN2]; rfl)
              clear HN1 HN2 e0 e1 e2 e3
              go_wp2_with fail
              go_quiet (fail)
              go_wp2_with fail
              go_quiet (fail)
              go_wp2_with fail
              go_quiet (fail)
              go_wp2_with fail
              exact ⟨⟨i + 1, x, y, _, by go_num, HI.out, by go_num, by go_num, HZ1, HZ2, rfl⟩, by simp [RowKit.intOf]; omega⟩
            · rw [e0] at d0 HN1
              rw [e1] at d1 HN1
              rw [e2] at d2 HN1
              rw [e3] at d3 HN2
              have HZ1 : Hid (x = R1 (i + 1)) := (show _ = _ by rw [HN1]; rfl)
              have HZ2 : Hid (y + 1 = R2 (i + 1)) := (show _ = _ by rw [HN2]; rfl)
              clear HN1 HN2 e0 e1 e2 e3
              go_wp2_with fail
              go_quiet (fail)
              go_wp2_with fail
              go_quiet (fail)
              go_wp2_with fail
              go_quiet (fail)
              go_wp2_with fail
              exact ⟨⟨i + 1, x, y + 1, _, by go_num, HI.out, by go_num, by go_num, HZ1, HZ2, rfl⟩, by simp [RowKit.intOf]; omega⟩
    · have hii : ¬ (i : Int) + 1 < (m : Int) + 1 := by omega
      obtain rfl : i = m := by omega
      have hc1 := hcv x
      have hc2 := hcv y
      have HZ1 : Hid (cl (nW x) = some (nW (R1 i))) := (show _ = _ by rw [nW_num, hst.out])
      have HZ2 : Hid (cl (nW y) = some (nW (R2 i))) := (show _ = _ by rw [nW_num, hsu.out])
      have B : Hid (Below w.heap.size w (w.drewN k)) := below_drewN (Below.refl _ _) k
      go_wp2
      go_ret2
      exact ⟨_, _, rfl, B.out, nW_lt _, nW_lt _, HZ1.out, HZ2.out⟩
end Go.Proofs.YtmjenemjbpimcabGreat
/- The reference's values of a window. -/
namespace Go.Proofs.YtmjenemjbpimcabGreat
open Go.RowKit

theorem make_f0 (w : World) (n : Nat) (hn : n * 8 ≤ 140737488355328) : ∃ w', (Instr.makeSlice 33 (.int .i64 0) (.int .i64 (n : Nat))).run Tryz.prog w = .ok (.slice (some ⟨w.heap.size, 0, none⟩) 0 n) w' ∧ Fr w' w.heap.size (.slice (some ⟨w.heap.size, 0, none⟩) 0 n) [] ∧ Below w.heap.size w w' ∧ w.heap.size < w'.heap.size := by
  obtain ⟨i0, hi, hz0, hz1, hz2⟩ := info_parts info23
  obtain ⟨w2, r2, o2, g2⟩ := run_make_own (P := Tryz.prog) w w.heap.size 33 25 i0 _ 1 Tryz.underlying33 hi hz0 hz1 .i64 .i64 n (by rw [hz2]; omega) (by unfold maxLen; omega) (Nat.le_refl _)
  refine ⟨w2, r2, o2, (Below.refl _ _).grown g2 (Nat.le_refl _) (fun k hk => by cases hk), ?_⟩
  rcases o2.2 with ⟨h, _⟩ | ⟨g, cap, cur, e, hg, hh, _⟩
  · cases h
  · cases e
    exact (Array.getElem?_eq_some_iff.1 hh).1
theorem vls_succ (ss : Nat → Smp) (i : Nat) : vls ss (i + 1) = vls ss i ++ [(ss i).v] := by simp [vls, List.range_succ]

set_option maxHeartbeats 4000000 in
set_option maxRecDepth 100000 in
theorem rvalues_any (a : Option Addr) (n c : Nat) (F T N : Int) (ss : Nat → Smp) (w : World) (hf : Sml w a ss n) (hl : 8 * n ≤ 140737488355328) :
    Calls Tryz.prog 23 #[Wn a n c F T N] w fun r w' => ∃ v, r = .returned v ∧ Fr w' (w.heap.size + 1) v (vls ss n) ∧ Below w.heap.size w w' := by
  have hsz : (w.alloc (wnX a n c F T N)).heap.size = w.heap.size + 1 := by simp
  obtain ⟨w1, r1, o1, b1, s1⟩ := make_f0 (w.alloc (wnX a n c F T N)) n (by omega)
  rw [hsz] at r1 o1 b1 s1
  have bw : Below w.heap.size w (w.alloc (wnX a n c F T N)) := (Below.refl _ w).alloc (Nat.le_refl _) _
  have HBW : Hid (∀ W, Below (w.heap.size + 1) w1 W → Below w.heap.size w W) := (show ∀ W, _ → _ from fun W b => bw.trans ((b1.mono (by omega)).trans (b.mono (by omega))))
  have HC0 : Hid (WnC a n c F T N w.heap.size (w.alloc (wnX a n c F T N))) := wnC_new a n c F T N w _ (Below.refl _ _)
  have HC : Hid (∀ W, Below (w.heap.size + 1) w1 W → WnC a n c F T N w.heap.size W) := (show ∀ W, _ → _ from fun W b => wnC_new a n c F T N w W ((b1.mono (by omega)).trans (b.mono (by omega))))
  have HSZ : Hid (∀ W, Below (w.heap.size + 1) w1 W → w.heap.size + 1 ≤ W.heap.size) := (show ∀ W, _ → _ from fun W b => Nat.le_trans (by omega) b.size)
  have HF : Hid (Sml w a ss n) := hf
  have O1 : Hid (Fr w1 (w.heap.size + 1) (.slice (some ⟨w.heap.size + 1, 0, none⟩) 0 n) (vls ss 0)) := o1
  have B1 : Hid (Below (w.heap.size + 1) w1 w1) := Below.refl _ _
  have HL : Hid (8 * n ≤ 140737488355328) := hl
  have hsf := @run_store_float Tryz.prog
  obtain ⟨x0, x1, x2, x3⟩ := HC0.out
  dsimp only [wnX] at r1 x0 x1 x2 x3
  clear hf hsz o1 b1 s1 bw hl HC0
  go_enter Tryz.func23, Tryz.ntmps23
  go_wp2_with fail
  go_loopw [3, 4] (fun lv iv W => ∃ (i : Nat), iv = .int .i64 (i : Int) ∧ i ≤ n ∧ Hid (Fr W (w.heap.size + 1) lv (vls ss i)) ∧ Hid (Below (w.heap.size + 1) w1 W)) (fun _ iv _ => n - (RowKit.intOf iv).toNat)
  case atStart => exact ⟨0, rfl, by omega, O1, B1⟩
  case round =>
    obtain ⟨i, rfl, hi, o, hb⟩ := hrel
    obtain ⟨x0, x1, x2, x3⟩ := HC.out wr hb.out
    have n9 : (n : Int) ≤ 9223372036854775807 := by have := HL.out; omega
    by_cases hlt : i < n
    · have hii : (i : Int) < (n : Int) := by omega
      rcases HF.out with h0 | ⟨g, o', rfl, hg, hat⟩
      · omega
      obtain ⟨f1, f2, f3⟩ := hat i hlt
      have q2 := bcell (HBW.out wr hb.out) f2 hg
      have HI : Hid (i + 1 ≤ n) := hlt
      have HV : Hid (vls ss (i + 1) = vls ss i ++ [(ss i).v]) := vls_succ ss i
      have hvl : (vls ss i).length = i := vls_len ss i
      clear f1 f2 f3 hat hg
      obtain ⟨u, hu⟩ : ∃ u, (ss i).v = u := ⟨_, rfl⟩
      rw [hu] at q2 HV
      clear hu
      obtain ⟨v3, w3, r3, o3, b3⟩ := append_f wr (w.heap.size + 1) u3 (vls ss i) u (HSZ.out wr hb.out) (by rw [hvl]; have := HL.out; omega) o.out
      have O3 : Hid (Fr w3 (w.heap.size + 1) v3 (vls ss (i + 1))) := (show Fr _ _ _ _ by rw [HV.out]; exact o3)
      have B3 : Hid (Below (w.heap.size + 1) w1 w3) := (show Below _ _ _ from hb.out.trans b3)
      clear o3 b3 HV hvl o
      go_wp2_with (at_builtin; refine wpList_append_run rfl (.tmp 16) (.tmp 23) 33 33 rfl _ _ rfl rfl r3 ?_)
      exact ⟨⟨i + 1, by go_num, HI.out, O3, B3⟩, by simp [RowKit.intOf]; omega⟩
    · have hii : ¬ (i : Int) < (n : Int) := by omega
      obtain rfl : i = n := by omega
      have B3 : Hid (Below w.heap.size w wr) := HBW.out wr hb.out
      go_wp2
      go_ret
      exact ⟨_, rfl, o.out, B3.out⟩
end Go.Proofs.YtmjenemjbpimcabGreat
