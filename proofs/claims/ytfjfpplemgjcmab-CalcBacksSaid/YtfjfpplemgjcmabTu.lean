/- Turn and Beat. -/
import Derived.Test.YtfjfpplemgjcmabLi
namespace Go.Proofs.Ytfjfpplemgjcmab
open Go.RowKit

theorem run_farith {P : Program} (x y : Nat) (w : World) : (Op.floatArith .add .f64 x y).run P w = .ok (.float .f64 (fz .add x y w)) (w.drewN (fk .add x y)) := run_fadd 0 x y w
theorem run_cadd {P : Program} (t : TypeId) (a b c d : Nat) (w : World) : (binOp .add t (.complex .f64 a b) (.complex .f64 c d)).run P w =
    .ok (.complex .f64 (fz .add a c w) (fz .add b d (w.drewN (fk .add a c)))) (w.drewN (fk .add a c + fk .add b d)) := by
  simp [binOp, Op.complexOp, Op.Complex.arith, run_farith]

/-- The directions' parts. -/
def cw (k : Nat) : Nat := ([4607182418800017408, 4604544271217802189, 0, 13827916308072577997, 13830554455654793216, 13827916308072577997, 0, 4604544271217802189] : List Nat).getD k 0
def sw (k : Nat) : Nat := ([0, 4604544271217802189, 4607182418800017408, 4604544271217802189, 0, 13827916308072577997, 13830554455654793216, 13827916308072577997] : List Nat).getD k 0
theorem dir_at (k : Nat) (hk : k < 8) : dirs[k]? = some (.complex .f64 (cw k) (sw k)) := by
  rcases (show k = 0 ∨ k = 1 ∨ k = 2 ∨ k = 3 ∨ k = 4 ∨ k = 5 ∨ k = 6 ∨ k = 7 by omega) with rfl | rfl | rfl | rfl | rfl | rfl | rfl | rfl <;> rfl
theorem cw_num (k : Nat) (hk : k < 8) : cl (cw k) = some (cw k) := by
  rcases (show k = 0 ∨ k = 1 ∨ k = 2 ∨ k = 3 ∨ k = 4 ∨ k = 5 ∨ k = 6 ∨ k = 7 by omega) with rfl | rfl | rfl | rfl | rfl | rfl | rfl | rfl <;> exact cl_lit _ (by decide)
theorem sw_num (k : Nat) (hk : k < 8) : cl (sw k) = some (sw k) := by
  rcases (show k = 0 ∨ k = 1 ∨ k = 2 ∨ k = 3 ∨ k = 4 ∨ k = 5 ∨ k = 6 ∨ k = 7 by omega) with rfl | rfl | rfl | rfl | rfl | rfl | rfl | rfl <;> exact cl_lit _ (by decide)

/-- Turn's sums. -/
def trS (D : Nat → Int) (V : Nat → Nat) (p : Int) : Nat → Option Nat × Option Nat
  | 0 => (some 0, some 0)
  | i + 1 => (fb .add (trS D V p i).1 (fb .mul (cl (V i)) (some (cw (eg (D i) p).toNat))), fb .add (trS D V p i).2 (fb .mul (cl (V i)) (some (sw (eg (D i) p).toNat))))
def tuF (D : Nat → Int) (V : Nat → Nat) (n : Nat) (p : Int) : Option Nat × Option Nat := if prB p = true then trS D V p n else (some 0, some 0)
def RC (w : World) (c : Option Nat × Option Nat) (r : Ending) (w' : World) : Prop := ∃ z1 z2, r = .returned (.complex .f64 z1 z2) ∧ Below w.heap.size w w' ∧ z1 < 18446744073709551616 ∧ z2 < 18446744073709551616 ∧ (cl z1, cl z2) = c

set_option maxHeartbeats 1000000 in
set_option maxRecDepth 100000 in
theorem turn_any (a : Option Addr) (c n : Nat) (ss : Nat → Smp) (p : Int) (w : World) (hf : Sml w a ss n) (hl : n ≤ 9223372036854775807) :
    Calls Try.prog 14 #[.slice a n c, .int .i64 p] w (RC w (tuF (fun j => df (ss j).t (ss 0).t) (fun j => (ss j).v) n p)) := by
  have hb0 := Below.refl w.heap.size w
  have kP := isPeriod_any p w
  have kD := directions_any w
  cases hp : prB p
  · have e : tuF (fun j => df (ss j).t (ss 0).t) (fun j => (ss j).v) n p = (some 0, some 0) := if_neg (by rw [hp]; decide)
    rw [hp] at kP
    rw [e]
    go_enter Try.func14, Try.ntmps14
    go_wp2_with fail
    go_fit kP
    rintro r w ⟨rfl, rfl⟩
    go_wp2
    go_ret
    exact ⟨0, 0, rfl, hb0, by decide, by decide, by rw [cl_lit 0 (by decide)]⟩
  · have e : tuF (fun j => df (ss j).t (ss 0).t) (fun j => (ss j).v) n p = trS (fun j => df (ss j).t (ss 0).t) (fun j => (ss j).v) p n := if_pos hp
    rw [hp] at kP
    rw [e]
    have hp1 : 1 ≤ p ∧ p ≤ 315360000000000 := by unfold prB at hp; simpa using hp
    obtain ⟨hp1, hp2⟩ := hp1
    have ha := @run_cadd Try.prog
    have hm := @run_fmul Try.prog
    have hsc := @run_store_complex Try.prog
    have hsf := @run_store_float Try.prog
    have HF : Hid (Sml w a ss n) := hf
    obtain ⟨X, hX⟩ : ∃ X : Nat → Option Nat × Option Nat, X = trS (fun j => df (ss j).t (ss 0).t) (fun j => (ss j).v) p := ⟨_, rfl⟩
    have HX0 : Hid (X 0 = (some 0, some 0)) := by show _ = _; rw [hX]; rfl
    have HXS : Hid (∀ i, X (i + 1) = (fb .add (X i).1 (fb .mul (cl (ss i).v) (some (cw (eg (df (ss i).t (ss 0).t) p).toNat))), fb .add (X i).2 (fb .mul (cl (ss i).v) (some (sw (eg (df (ss i).t (ss 0).t) p).toNat))))) := by
      intro i
      rw [hX]; rfl
    rw [← hX]
    clear hf hX e hp
    go_enter Try.func14, Try.ntmps14
    go_wp2_with fail
    go_fit kP
    rintro r w ⟨rfl, rfl⟩
    go_wp2_with fail
    go_fit kD
    rintro r w1 ⟨rfl, hb1⟩
    clear kP kD
    go_wp2
    have hbW : Below w.heap.size w (w1.alloc (.cells dirs 52)) := hb1.alloc hb1.size _
    have hdir : ∀ k, k < 8 → (w1.alloc (.cells dirs 52)).cell? ⟨w1.heap.size, k, none⟩ = some (.complex .f64 (cw k) (sw k)) := fun k hk => by
      unfold World.cell?
      rw [show (w1.alloc (.cells dirs 52)).heap[w1.heap.size]? = some (.cells dirs 52) from heap_alloc_new w1 _]
      simpa using dir_at k hk
    have hBl : w1.heap.size < (w1.alloc (.cells dirs 52)).heap.size := by simp
    generalize w1.alloc (.cells dirs 52) = W0 at *
    generalize w1.heap.size = B at *
    have HF0 : Hid (Sml W0 a ss n) := HF.out.below hbW
    have HDI : Hid (∀ k, k < 8 → W0.cell? ⟨B, k, none⟩ = some (.complex .f64 (cw k) (sw k))) := hdir
    have HBW : Hid (Below w.heap.size w W0) := hbW
    have b0 : Below W0.heap.size W0 W0 := Below.refl _ _
    obtain ⟨G, hG⟩ : ∃ G, G = W0.heap.size := ⟨_, rfl⟩
    have HG : Hid (G = W0.heap.size) := hG
    rw [← hG] at b0 hBl
    clear hG hdir hbW hb1 hb0
    go_loopw [6, 16] (fun sv iv w' => ∃ (i z1 z2 : Nat), iv = .int .i64 (i : Int) ∧ i ≤ n ∧ sv = .complex .f64 z1 z2 ∧ z1 < 18446744073709551616 ∧ z2 < 18446744073709551616 ∧ Hid ((cl z1, cl z2) = X i) ∧ Below G W0 w') (fun _ iv _ => n - (RowKit.intOf iv).toNat)
    case atStart => exact ⟨0, 0, 0, rfl, by omega, rfl, by decide, by decide, (by rw [HX0.out, cl_lit 0 (by decide)] : _ = _), b0⟩
    case round =>
      obtain ⟨i, z1, z2, rfl, hi, rfl, hz1, hz2, hst, hb⟩ := hrel
      by_cases hlt : i < n
      · have hii : (i : Int) < n := by omega
        have hn0 : (0 : Int) < n := by omega
        rcases HF0.out with h0 | ⟨g, o, rfl, hg, hat⟩
        · rw [h0] at hlt; omega
        rw [← HG.out] at hg
        obtain ⟨f1, f2, f3⟩ := hat i hlt
        have q1 := (hb.cell (p := ⟨g, o + i * 3, none⟩) hg).trans f1
        have q2 := (hb.cell (p := ⟨g, o + i * 3 + 1, none⟩) hg).trans f2
        have q3 := (hb.cell (p := ⟨g, o + i * 3 + 2, none⟩) hg).trans f3
        have f0 := (hat 0 (by omega)).1
        rw [show o + 0 * 3 = o by omega] at f0
        have hnx := HXS.out i
        obtain ⟨u, hu⟩ : ∃ u, ss i = u := ⟨_, rfl⟩
        obtain ⟨t0, ht0⟩ : ∃ t0, (ss 0).t = t0 := ⟨_, rfl⟩
        rw [hu] at q1 q2 q3 hnx
        rw [ht0] at hnx f0
        obtain ⟨d, hd⟩ : ∃ d, df u.t t0 = d := ⟨_, rfl⟩
        rw [hd] at hnx
        have hdf : IntKind.i64.wrap (u.t - t0) = d := hd
        obtain ⟨e1, e2⟩ := eg_bd d p hp1
        obtain ⟨k, hk⟩ : ∃ k : Nat, eg d p = (k : Int) := ⟨(eg d p).toNat, by omega⟩
        have hk8 : k < 8 := by omega
        rw [hk, Int.toNat_natCast, ← hst.out] at hnx
        have HNX : Hid _ := hnx
        have kE := fun w => eighth_any d p hp1 hp2 w
        rw [hk] at kE
        have HI : Hid (i + 1 ≤ n) := hlt
        have hGw : G ≤ wr.heap.size := by rw [HG.out]; rw [HG.out] at hb; exact hb.size
        have hbA : Below G W0 (wr.alloc (cp u)) := hb.alloc hGw _
        have n0 := cp_cell wr u 0 (.int .i64 u.t) rfl
        have n1 := cp_cell wr u 1 (.float .f64 u.v) rfl
        have m0 : (wr.alloc (cp u)).cell? ⟨g, o, none⟩ = some (.int .i64 t0) := (hbA.cell (p := ⟨g, o, none⟩) hg).trans f0
        have mk : (wr.alloc (cp u)).cell? ⟨B, k, none⟩ = some (.complex .f64 (cw k) (sw k)) := (hbA.cell (p := ⟨B, k, none⟩) hBl).trans (HDI.out k hk8)
        have CW : Hid (cl (cw k) = some (cw k)) := cw_num k hk8
        have SWk : Hid (cl (sw k) = some (sw k)) := sw_num k hk8
        generalize cw k = C at *
        generalize sw k = Sn at *
        clear hu ht0 hd hat f1 f2 f3 f0 hnx hst e1 e2 hk
        go_wp2_with fail
        go_quiet (exact Calls.quiet_of_same (kE _))
        have n2 : ((wr.alloc (cp u)).drewN nq).cell? ⟨wr.heap.size, 1, none⟩ = some (.float .f64 u.v) := n1
        have hbA2 : Below G W0 ((wr.alloc (cp u)).drewN nq) := below_drewN hbA nq
        clear n0 n1 m0 mk hbA kE
        generalize (wr.alloc (cp u)).drewN nq = W2 at *
        generalize wr.heap.size = J at *
        go_wp2
        refine ⟨⟨i + 1, _, _, by go_num, HI, rfl, fz_lt _ _ _ _, fz_lt _ _ _ _, ?_, below_drewN hbA2 _⟩, by simp [RowKit.intOf]; omega⟩
        show _ = _
        rw [HNX.out]
        simp only [cl_fz]
        rw [CW.out, SWk.out]
      · have hii : ¬ (i : Int) < n := by omega
        obtain rfl : i = n := by omega
        have HB : Hid (Below w.heap.size w wr) := by
          rw [HG.out] at hb
          exact HBW.out.trans (hb.mono HBW.out.size)
        go_wp2
        go_ret
        exact ⟨z1, z2, rfl, HB.out, hz1, hz2, hst.out⟩

/-- Beat. -/
def beF (D : Nat → Int) (V : Nat → Nat) (n : Nat) (p : Int) : Option Nat :=
  if n = 0 then none else if prB p = false then none
  else fb .quo (fsq (fb .add (fb .mul (tuF D V n p).1 (tuF D V n p).1) (fb .mul (tuF D V n p).2 (tuF D V n p).2))) (some (nW n))

set_option maxHeartbeats 1000000 in
set_option maxRecDepth 100000 in
theorem beat_any (a : Option Addr) (c n : Nat) (ss : Nat → Smp) (p : Int) (w : World) (hf : Sml w a ss n) (hl : n ≤ 9223372036854775807) :
    Calls Try.prog 10 #[.slice a n c, .int .i64 p] w (RB w (beF (fun j => df (ss j).t (ss 0).t) (fun j => (ss j).v) n p)) := by
  have hb0 := Below.refl w.heap.size w
  have kN := nan_any
  by_cases h0 : n = 0
  · have e : beF (fun j => df (ss j).t (ss 0).t) (fun j => (ss j).v) n p = none := if_pos h0
    have h0' : (n : Int) = 0 := by omega
    rw [e]
    go_enter Try.func10, Try.ntmps10
    go_wp2_with fail
    go_fit (kN _)
    rintro r w ⟨rfl, rfl⟩
    go_wp2
    go_ret
    exact ⟨_, rfl, hb0, by decide, cl_theNaN⟩
  have h0' : ¬ (n : Int) = 0 := by omega
  have kP := isPeriod_any p w
  cases hp : prB p
  · have e : beF (fun j => df (ss j).t (ss 0).t) (fun j => (ss j).v) n p = none := by unfold beF; rw [if_neg h0, if_pos hp]
    rw [hp] at kP
    rw [e]
    go_enter Try.func10, Try.ntmps10
    go_wp2_with fail
    go_fit kP
    rintro r w ⟨rfl, rfl⟩
    go_wp2_with fail
    go_fit (kN _)
    rintro r w ⟨rfl, rfl⟩
    go_wp2
    go_ret
    exact ⟨_, rfl, hb0, by decide, cl_theNaN⟩
  · have E : Hid (beF (fun j => df (ss j).t (ss 0).t) (fun j => (ss j).v) n p = fb .quo (fsq (fb .add (fb .mul (tuF (fun j => df (ss j).t (ss 0).t) (fun j => (ss j).v) n p).1 (tuF (fun j => df (ss j).t (ss 0).t) (fun j => (ss j).v) n p).1) (fb .mul (tuF (fun j => df (ss j).t (ss 0).t) (fun j => (ss j).v) n p).2 (tuF (fun j => df (ss j).t (ss 0).t) (fun j => (ss j).v) n p).2))) (some (nW n))) := by
      show _ = _
      unfold beF; rw [if_neg h0, if_neg (by rw [hp]; decide)]
    rw [hp] at kP
    have kT := turn_any a c n ss p w hf hl
    have ha := @run_fadd Try.prog
    have hm := @run_fmul Try.prog
    have hq := @run_fquo Try.prog
    have hcn := cvn n
    generalize beF (fun j => df (ss j).t (ss 0).t) (fun j => (ss j).v) n p = R at *
    generalize tuF (fun j => df (ss j).t (ss 0).t) (fun j => (ss j).v) n p = T at *
    go_enter Try.func10, Try.ntmps10
    go_wp2_with fail
    go_fit kP
    rintro r w ⟨rfl, rfl⟩
    go_wp2_with fail
    go_fit kT
    rintro r w1 ⟨z1, z2, rfl, hb1, _, _, hc⟩
    have HC : Hid ((cl z1, cl z2) = T) := hc
    clear hc kT kP
    go_wp2_with fail
    go_fit (sqrt_any _ _)
    rintro r w2 ⟨z3, k3, rfl, rfl, _, h3⟩
    have H3 : Hid (cl z3 = fsq (fb .add (fb .mul T.1 T.1) (fb .mul T.2 T.2))) := by
      show _ = _
      rw [h3, ← HC.out]
      simp only [cl_fz]
    clear h3
    go_wp2
    go_ret
    refine ⟨_, rfl, below_drewN hb1 _, fz_lt _ _ _ _, ?_⟩
    rw [cl_fz, H3.out, E.out, nW_num]
end Go.Proofs.Ytfjfpplemgjcmab
