/- A bundle of texts. -/
import Derived.Test.YtmjenemjbpimcaaBk04
import Derived.StillTailTactics
import Derived.Deep.RegionHeld3
/- Over: has, growth, instant. -/
namespace Go.Proofs.Ytmjenemjbpimcaa
open Go.RowKit

theorem quiet_still {P : Program} {ops : Array Oper} {W : World} {Q : Act → Prop} : ∀ (l : List Oper) (a : Act), wpQuiet P ops (fun w' => w' = W) Q l a → wpStill P ops W Q l a
  | [], _, h => h
  | o :: rest, a, h => by
    unfold wpQuiet at h
    unfold wpStill
    split
    · rename_i hw
      rw [if_pos hw] at h
      obtain ⟨v, h1, h2⟩ := h
      have h3 := h1 W rfl
      have h4 := quiet_still rest _ h2
      unfold Oper.quietAt at h3
      unfold Oper.still
      generalize (execOp a.eval o).run P W = r at *
      cases r with
      | ok n w' =>
        cases n with
        | value u => obtain ⟨rfl, rfl⟩ := h3; exact ⟨rfl, h4⟩
        | skip => obtain ⟨rfl, rfl⟩ := h3; exact ⟨rfl, h4⟩
        | enter f args => obtain ⟨rfl, h5⟩ := h3; exact ⟨rfl, v, h5, h4⟩
        | _ => exact (show False from h3).elim
      | halt x w' => exact (show False from h3).elim
    · rename_i hw
      rw [if_neg hw] at h
      exact quiet_still rest _ h
theorem region_tail {P : Program} {id : Nat} {Q : Exit → Act → World → Prop} {a : Act} {w : World} {l : List Oper} (n : Nat) (hm : P.follows .mixedOrders = true) (hB : Region.lexTailB .any l.toArray n = true)
    (h : wpQuiet P l.toArray (fun w' => w' = w.drew) (fun a' => wpList P l.toArray Q (l.drop n) a' w.drew) (l.take n) a) : (Code.region id l.toArray true).wp P Q a w := wp_region_still_tail n hm hB (quiet_still _ _ h)


set_option maxHeartbeats 4000000 in
set_option maxRecDepth 100000 in
theorem has_any (a : Option Addr) (n c : Nat) (F T N : Int) (ss : Nat → Smp) (L : Nat) (w : World) (hf : Sml w a ss n) (hl : n ≤ 9223372036854775807) :
    Calls Try.prog 20 #[Wn a n c F T N, .int .i64 (L : Nat)] w (RP w (L ≤ n ∧ Snd ss n F T N)) := by
  have HB : Hid (Below w.heap.size w (w.alloc (wnX a n c F T N))) := (Below.refl _ w).alloc (Nat.le_refl _) _
  have k1 := isSound_any a n c F T N ss (w.alloc (wnX a n c F T N)) (hf.below HB.out) hl
  clear hf
  by_cases h : L ≤ n
  · have h1 : decide ((L : Int) ≤ (n : Int)) = true := decide_eq_true (by omega)
    have HL : Hid (L ≤ n) := h
    clear h
    go_enter Try.func20, Try.ntmps20
    go_wp2_with fail
    go_fit k1
    rintro e w1 ⟨b, rfl, hb, b1⟩
    have HX : Hid (b = true ↔ Snd ss n F T N) := hb
    clear hb k1
    have B1 : Hid (Below w.heap.size w w1) := HB.out.trans (b1.mono HB.out.size)
    clear b1
    go_wp2
    go_ret
    refine ⟨b, by cases b <;> rfl, ?_, B1.out⟩
    rw [HX.out]
    exact ⟨fun h => ⟨HL.out, h⟩, fun h => h.2⟩
  · have h1 : decide ((L : Int) ≤ (n : Int)) = false := decide_eq_false (by omega)
    have HL : Hid (¬ L ≤ n) := h
    clear h k1
    go_enter Try.func20, Try.ntmps20
    go_wp2
    go_ret
    exact ⟨false, rfl, ⟨fun h => (by cases h), fun h => absurd h.1 HL.out⟩, HB.out⟩

/-- How much the value grew, resets added from the left. -/
def grI (V : Nat → Nat) (g0 : Option Nat) : Nat → Option Nat
  | 0 => g0
  | i + 1 => if ltB (cl (V (i + 1))) (cl (V i)) = true then fb .add (grI V g0 i) (cl (V i)) else grI V g0 i
def grF (V : Nat → Nat) (n : Nat) (ctr : Bool) : Option Nat := if ctr = true then grI V (fb .sub (cl (V (n - 1))) (cl (V 0))) (n - 1) else fb .sub (cl (V (n - 1))) (cl (V 0))

set_option maxHeartbeats 4000000 in
set_option maxRecDepth 100000 in
theorem growth_any (g o n c : Nat) (ss : Nat → Smp) (ctr : Bool) (w : World) (hat : SAt w g o ss n) (hsw : SW ss n) (hn : 1 ≤ n) (hl : n ≤ 9223372036854775807) :
    Calls Try.prog 26 #[.slice (some ⟨g, o, none⟩) n c, .bool ctr] w (RF w (grF (fun j => (ss j).v) n ctr)) := by
  obtain ⟨m, rfl⟩ : ∃ m, n = m + 1 := ⟨n - 1, by omega⟩
  have HA : Hid (SAt w g o ss (m + 1)) := hat
  have HS : Hid (SW ss (m + 1)) := hsw
  have z0 := (hat 0 (by omega)).2.1
  have zn := (hat m (by omega)).2.1
  rw [show o + 0 * 3 + 1 = o + 1 by omega] at z0
  obtain ⟨x0, hx0⟩ : ∃ x, x = (ss 0).v := ⟨_, rfl⟩
  obtain ⟨xn, hxn⟩ : ∃ x, x = (ss m).v := ⟨_, rfl⟩
  rw [← hx0] at z0
  rw [← hxn] at zn
  have HX0 : Hid (x0 = (ss 0).v) := hx0
  have HXN : Hid (xn = (ss m).v) := hxn
  have hs := @run_fsub Try.prog
  have ha := @run_fadd Try.prog
  have w1 : IntKind.i64.wrap ((m : Int) + 1 - 1) = (m : Int) := by rw [IntKind.wrap_i64]; omega
  clear hat hsw hx0 hxn
  go_enter Try.func26, Try.ntmps26
  go_wp2_with fail
  refine region_tail 11 (by kernel_rfl) (by kernel_rfl) ?_
  simp only [List.take_succ_cons, List.take_zero, List.drop_succ_cons, List.drop_zero]
  repeat (go_big_quiet_step (fail))
  refine wpQuiet_nil ?_
  cases ctr
  · go_wp2
    go_ret
    refine ⟨_, _, rfl, rfl, fz_lt _ _ _ _, ?_⟩
    rw [cl_fz, HXN.out, HX0.out]
    rfl
  · have E0 : Hid (cl (fz .sub xn x0 w.drew) = fb .sub (cl (ss m).v) (cl (ss 0).v)) := (show _ = _ by rw [cl_fz, HXN.out, HX0.out])
    have L0 : Hid (fz .sub xn x0 w.drew < 18446744073709551616) := fz_lt _ _ _ _
    go_wp2
    go_loopw [5, 6] (fun gv iv w' => ∃ (i x k : Nat), iv = .int .i64 ((i + 1 : Nat) : Int) ∧ i + 1 ≤ m + 1 ∧ gv = .float .f64 x ∧ x < 18446744073709551616 ∧ Hid (cl x = grI (fun j => (ss j).v) (fb .sub (cl (ss m).v) (cl (ss 0).v)) i) ∧ w' = w.drewN k) (fun _ iv _ => m + 1 - (RowKit.intOf iv).toNat)
    case atStart => exact ⟨0, _, _, rfl, by omega, rfl, L0.out, E0, rfl⟩
    case round =>
      obtain ⟨i, x, k, rfl, hi, rfl, hx, hst, rfl⟩ := hrel
      by_cases hlt : i < m
      · have hii : (i : Int) + 1 < (m : Int) + 1 := by omega
        have y0 := (HA.out i (by omega)).2.1
        have y1 := (HA.out (i + 1) (by omega)).2.1
        have l0 := (HS.out i (by omega)).2.2
        have HI : Hid (i + 1 + 1 ≤ m + 1) := (show _ ≤ _ by omega)
        have wi : IntKind.i64.wrap ((i : Int) + 1 - 1) = (i : Int) := by rw [IntKind.wrap_i64]; omega
        have wj : IntKind.i64.wrap (i : Int) = (i : Int) := by rw [IntKind.wrap_i64]; omega
        have HG : Hid (grI (fun j => (ss j).v) (fb .sub (cl (ss m).v) (cl (ss 0).v)) (i + 1) = if ltB (cl (ss (i + 1)).v) (cl (ss i).v) = true then fb .add (grI (fun j => (ss j).v) (fb .sub (cl (ss m).v) (cl (ss 0).v)) i) (cl (ss i).v) else grI (fun j => (ss j).v) (fb .sub (cl (ss m).v) (cl (ss 0).v)) i) := rfl
        obtain ⟨v0, hv0⟩ : ∃ v, v = (ss i).v := ⟨_, rfl⟩
        obtain ⟨v1, hv1⟩ : ∃ v, v = (ss (i + 1)).v := ⟨_, rfl⟩
        rw [← hv0] at y0 l0 HG
        rw [← hv1] at y1 HG
        clear hv0 hv1
        have kR := isReset_any v0 v1
        have ha := @run_fadd Try.prog
        generalize ltB (cl v1) (cl v0) = B at *
        go_wp2_with fail
        refine region_tail 11 (by kernel_rfl) (by kernel_rfl) ?_
        simp only [List.take_succ_cons, List.take_zero, List.drop_succ_cons, List.drop_zero]
        repeat (go_big_quiet_step (fail))
        refine wpQuiet_nil ?_
        go_wp2_with fail
        go_fit (kR _)
        rintro e w5 ⟨rfl, rfl⟩
        cases B
        · have HZ : Hid (cl x = grI (fun j => (ss j).v) (fb .sub (cl (ss m).v) (cl (ss 0).v)) (i + 1)) := (show _ = _ by rw [HG.out, if_neg (by decide)]; exact hst.out)
          go_wp2
          exact ⟨⟨i + 1, _, _, by go_num, HI.out, rfl, hx, HZ, rfl⟩, by simp [RowKit.intOf]; omega⟩
        · have HZ : ∀ W, Hid (cl (fz .add x v0 W) = grI (fun j => (ss j).v) (fb .sub (cl (ss m).v) (cl (ss 0).v)) (i + 1)) := fun W => (show _ = _ by rw [cl_fz, HG.out, if_pos rfl, hst.out])
          go_wp2
          exact ⟨⟨i + 1, _, _, by go_num, HI.out, rfl, fz_lt _ _ _ _, HZ _, rfl⟩, by simp [RowKit.intOf]; omega⟩
      · have hii : ¬ (i : Int) + 1 < (m : Int) + 1 := by omega
        obtain rfl : i = m := by omega
        go_wp2
        go_ret
        exact ⟨_, _, rfl, rfl, hx, hst.out⟩
end Go.Proofs.Ytmjenemjbpimcaa
/- Over: instant. -/
namespace Go.Proofs.Ytmjenemjbpimcaa
open Go.RowKit

theorem df_w (a b : Int) : df a b = wrap64 (a - b) := IntWalk.i64_left (a - b)
/-- What irate and idelta answer, from the last two points. -/
def inF (ss : Nat → Smp) (n : Nat) (ctr : Bool) : Option Nat :=
  if ctr = true then fb .quo (if ltB (cl (ss (n - 1)).v) (cl (ss (n - 2)).v) = true then cl (ss (n - 1)).v else fb .sub (cl (ss (n - 1)).v) (cl (ss (n - 2)).v)) (secF (df (ss (n - 1)).t (ss (n - 2)).t)) else fb .sub (cl (ss (n - 1)).v) (cl (ss (n - 2)).v)

set_option maxHeartbeats 4000000 in
set_option maxRecDepth 100000 in
theorem instant_any (g o n c : Nat) (ss : Nat → Smp) (ctr : Bool) (w : World) (hat : SAt w g o ss n) (hsw : SW ss n) (_hg : g < w.heap.size) (hn : 2 ≤ n) (hl : n ≤ 9223372036854775807) :
    Calls Try.prog 23 #[.slice (some ⟨g, o, none⟩) n c, .bool ctr] w (RB w (inF ss n ctr)) := by
  obtain ⟨m, hm⟩ : ∃ m, n - 2 = m := ⟨_, rfl⟩
  obtain ⟨k, hk⟩ : ∃ k, n - 1 = k := ⟨_, rfl⟩
  obtain ⟨y0, y1, y2⟩ := hat m (by omega)
  obtain ⟨z0, z1, z2⟩ := hat k (by omega)
  have l1 : Hid ((ss k).v < 18446744073709551616) := (hsw k (by omega)).2.2
  have HE : Hid (inF ss n ctr = if ctr = true then fb .quo (if ltB (cl (ss k).v) (cl (ss m).v) = true then cl (ss k).v else fb .sub (cl (ss k).v) (cl (ss m).v)) (secF (df (ss k).t (ss m).t)) else fb .sub (cl (ss k).v) (cl (ss m).v)) := (show _ = _ by rw [← hm, ← hk]; rfl)
  generalize inF ss n ctr = R at *
  obtain ⟨u, hu⟩ : ∃ u, ss m = u := ⟨_, rfl⟩
  obtain ⟨v, hv⟩ : ∃ v, ss k = v := ⟨_, rfl⟩
  rw [hu] at y0 y1 y2 HE
  rw [hv] at z0 z1 z2 HE l1
  have w1 : IntKind.i64.wrap ((n : Int) - 1) = (k : Int) := by rw [IntKind.wrap_i64]; omega
  have w2 : IntKind.i64.wrap ((n : Int) - 2) = (m : Int) := by rw [IntKind.wrap_i64]; omega
  have p0 : (0 : Int) ≤ (m : Int) := by omega
  have p1 : (m : Int) < (n : Int) := by omega
  have p2 : (0 : Int) ≤ (k : Int) := by omega
  have p3 : (k : Int) < (n : Int) := by omega
  have p4 : ¬ (m : Int) < 0 := by omega
  have p5 : ¬ (k : Int) < 0 := by omega
  have hs := @run_fsub Try.prog
  have hq := @run_fquo Try.prog
  have hsf := @run_store_float Try.prog
  have hb0 := Below.refl w.heap.size w
  clear hat hsw hu hv hm hk hn
  have HL := ltB_eq v.v u.v
  have HS : Hid (∀ (X Y : Obj) k, Below w.heap.size w (((w.alloc X).alloc Y).drewN k)) := (show ∀ (X Y : Obj) k, _ from fun X Y k => below_drewN ((hb0.alloc (Nat.le_refl _) _).alloc (by simp) _) k)
  clear hb0
  cases ctr
  · have HF : Hid (R = fb .sub (cl v.v) (cl u.v)) := HE.out
    clear HE HL
    go_enter Try.func23, Try.ntmps23
    go_wp2_with fail
    go_region_held3 (fun w' => w'.cell? ⟨g, o + m * 3, none⟩ = some (.int .i64 u.t) ∧ w'.cell? ⟨g, o + m * 3 + 1, none⟩ = some (.float .f64 u.v) ∧ w'.cell? ⟨g, o + m * 3 + 2, none⟩ = some (.bool u.s) ∧ w'.cell? ⟨g, o + k * 3, none⟩ = some (.int .i64 v.t) ∧ w'.cell? ⟨g, o + k * 3 + 1, none⟩ = some (.float .f64 v.v) ∧ w'.cell? ⟨g, o + k * 3 + 2, none⟩ = some (.bool v.s)) (first | exact ⟨y0, y1, y2, z0, z1, z2⟩ | assumption | go_keep) (fail)
    all_goals
      rename_i hh
      clear hh
      go_wp2
      go_ret
      exact ⟨_, rfl, HS.out _ _ _, fz_lt _ _ _ _, by rw [cl_fz, HF.out]⟩
  · have HF : Hid (R = fb .quo (if ltB (cl v.v) (cl u.v) = true then cl v.v else fb .sub (cl v.v) (cl u.v)) (secF (df v.t u.t))) := HE.out
    clear HE
    have c1 := cl_lit 4652007308841189376 (by decide)
    have HQ : Hid (∀ W, cl (fz .quo (floatOfInt FloatKind.f64 (wrap64 (v.t - u.t))) 4652007308841189376 W) = secF (df v.t u.t)) := (show ∀ W, _ = _ from fun W => by
      rw [cl_fz, c1]
      exact congrArg (fun z => fb .quo z (some 4652007308841189376)) (show cl (iw (wrap64 (v.t - u.t))) = some (iw (df v.t u.t)) by rw [df_w]; exact iw_class _))
    clear c1
    cases hB : ltB (cl v.v) (cl u.v)
    · rw [hB] at HL
      have HG : Hid (R = fb .quo (fb .sub (cl v.v) (cl u.v)) (secF (df v.t u.t))) := (show R = _ by rw [HF.out, hB]; rfl)
      clear HF hB
      go_enter Try.func23, Try.ntmps23
      go_wp2_with fail
      go_region_held3 (fun w' => w'.cell? ⟨g, o + m * 3, none⟩ = some (.int .i64 u.t) ∧ w'.cell? ⟨g, o + m * 3 + 1, none⟩ = some (.float .f64 u.v) ∧ w'.cell? ⟨g, o + m * 3 + 2, none⟩ = some (.bool u.s) ∧ w'.cell? ⟨g, o + k * 3, none⟩ = some (.int .i64 v.t) ∧ w'.cell? ⟨g, o + k * 3 + 1, none⟩ = some (.float .f64 v.v) ∧ w'.cell? ⟨g, o + k * 3 + 2, none⟩ = some (.bool v.s)) (first | exact ⟨y0, y1, y2, z0, z1, z2⟩ | assumption | go_keep) (fail)
      all_goals
        rename_i hh
        clear hh
        go_wp2
        go_ret
        refine ⟨_, rfl, HS.out _ _ _, fz_lt _ _ _ _, ?_⟩
        rw [cl_fz, cl_fz, HQ.out, HG.out]
    · rw [hB] at HL
      have HG : Hid (R = fb .quo (cl v.v) (secF (df v.t u.t))) := (show R = _ by rw [HF.out, hB]; rfl)
      clear HF hB
      go_enter Try.func23, Try.ntmps23
      go_wp2_with fail
      go_region_held3 (fun w' => w'.cell? ⟨g, o + m * 3, none⟩ = some (.int .i64 u.t) ∧ w'.cell? ⟨g, o + m * 3 + 1, none⟩ = some (.float .f64 u.v) ∧ w'.cell? ⟨g, o + m * 3 + 2, none⟩ = some (.bool u.s) ∧ w'.cell? ⟨g, o + k * 3, none⟩ = some (.int .i64 v.t) ∧ w'.cell? ⟨g, o + k * 3 + 1, none⟩ = some (.float .f64 v.v) ∧ w'.cell? ⟨g, o + k * 3 + 2, none⟩ = some (.bool v.s)) (first | exact ⟨y0, y1, y2, z0, z1, z2⟩ | assumption | go_keep) (fail)
      all_goals
        rename_i hh
        clear hh
        go_wp2
        go_ret
        refine ⟨_, rfl, HS.out _ _ _, fz_lt _ _ _ _, ?_⟩
        rw [cl_fz, HQ.out, HG.out]
end Go.Proofs.Ytmjenemjbpimcaa
