/- The reference's reader: value by the frame that stands. -/
import Derived.Test.YtedlmjieclaojabDoorHd
namespace Go.Proofs.YtedlmjieclaojabDoor
open Go.RowKit

set_option maxHeartbeats 4000000 in
set_option maxRecDepth 100000 in
/-- Way 1 without a frame: bad. -/
theorem rvalue_1bad (B c : Nat) (a0 : Option Addr) (xs : List Int) (s : Rs) (w : World) (h : Rq w B a0 c xs s.p s.b) (ag : ∀ g o, a0 = some ⟨g, o, none⟩ → g < w.heap.size) (hx : By xs) (hN : xs.length ≤ 140737488355328) (hfr : s.r.fr = 0 ∧ s.r.to = 0) (hk : (wyF (bt 8 xs) (8 * xs.length) 3 s.p).1 = 1) :
    Calls Tryd.prog 29 #[.pointer (some ⟨B, 0, none⟩), frV s.r.fr s.r.to] w (VqR B c a0 xs s w) := by
  have hU := ux_new h ag false (s.r.fr : Nat) (rF s.r.to : Nat)
  have hI : isF s.r.to = false := by rw [hfr.2]; rfl
  have HFin : Hid (∀ W, Rq W B a0 c xs (wyF (bt 8 xs) (8 * xs.length) 3 s.p).2.1 true → Kp (fun k => k = B) w W → VqR B c a0 xs s w (.returned (.tuple #[.int .u64 0, .bool false, .agg #[.bool false, .int .i64 (s.r.fr : Nat), .int .i64 (rF s.r.to : Nat)]])) W) := fun W h1 h2 => by
    obtain ⟨f1, f2, f3⟩ := rdV_1 (bt 8 xs) (8 * xs.length) s hk
    refine ⟨0, s.r.fr, s.r.to, _, _, ?_, h1, h2, by decide, .inl hfr, ?_, fun hb => by cases hb⟩
    · show _ = Ending.returned (.tuple #[.int .u64 ((0 : Nat) : Int), .bool (rdS (bt 8 xs) (8 * xs.length) s), .agg #[.bool (isF s.r.to), .int .i64 (s.r.fr : Nat), .int .i64 (rF s.r.to : Nat)]])
      rw [f2, hI]; rfl
    · rw [f3, decide_eq_true hfr.2]; rfl
  have k1 := fun (W : World) (hW : Rq W B a0 c xs s.p s.b) => ones_any B c a0 xs s.p s.b 3 W hW hx (by decide) hN
  rw [hk] at k1
  generalize (wyF (bt 8 xs) (8 * xs.length) 3 s.p).2.1 = q at *
  generalize (wyF (bt 8 xs) (8 * xs.length) 3 s.p).2.2 = xb at *
  obtain ⟨W, hW⟩ : ∃ W, W = (w.alloc (.cells #[.bool false, .int .i64 (s.r.fr : Nat), .int .i64 (rF s.r.to : Nat)] 78)).alloc (.cells #[.bool false, .int .i64 0, .int .i64 0] 78) := ⟨_, rfl⟩
  have HW : Hid (W = (w.alloc (.cells #[.bool false, .int .i64 (s.r.fr : Nat), .int .i64 (rF s.r.to : Nat)] 78)).alloc (.cells #[.bool false, .int .i64 0, .int .i64 0] 78)) := hW
  obtain ⟨Br, hBr⟩ : ∃ Br, Br = w.heap.size + 1 := ⟨_, rfl⟩
  obtain ⟨Bf, hBf⟩ : ∃ Bf, Bf = w.heap.size := ⟨_, rfl⟩
  rw [← hW, ← hBr, ← hBf] at hU
  have HBr : Hid (Br = w.heap.size + 1) := hBr
  have HBf : Hid (Bf = w.heap.size) := hBf
  have HU : Hid _ := hU
  have k2 := k1 W hU.rq
  show Calls Tryd.prog 29 #[.pointer (some ⟨B, 0, none⟩), .agg #[.bool (isF s.r.to), .int .i64 (s.r.fr : Nat), .int .i64 (rF s.r.to : Nat)]] w (VqR B c a0 xs s w)
  rw [hI]
  clear k1 h ag hx hN hfr hk hW hBr hBf hU hI
  generalize ((s.r.fr : Nat) : Int) = l at *
  generalize ((rF s.r.to : Nat) : Int) = r at *
  go_enter Tryd.func29, Tryd.ntmps29
  go_upto_region 1 with fail
  rw [← HW.out, ← HBr.out, ← HBf.out]
  go_wp2_with fail
  go_fit k2
  rintro e w1 ⟨rfl, h1, q1⟩
  have u0 := HU.out.step h1 q1
  have g0 := u0.bx.f0
  have g2 := u0.rq.c2
  have gz := u0.rq.fz
  have u1 := u0.bad
  obtain ⟨V1, hV1⟩ : ∃ V1, V1 = w1.setCell ⟨B, 2, none⟩ (.bool true) := ⟨_, rfl⟩
  have HV1 : Hid (V1 = w1.setCell ⟨B, 2, none⟩ (.bool true)) := hV1
  rw [← hV1] at u1
  have m0 := u1.bx.f0
  have m1 := u1.bx.f1
  have m2 := u1.bx.f2
  have n0 := u1.bx.r0
  have n1 := u1.bx.r1
  have n2 := u1.bx.r2
  have nz := u1.bx.fz
  have HUF : Hid (Rq (st3 V1 Br false l r) B a0 c xs q true ∧ Kp (fun k => k = B) w (st3 V1 Br false l r)) := u1.fin false l r
  obtain ⟨s0, s1, s2⟩ := st3_cells V1 Br false l r _ _ _ n0 n1 n2
  have HW5 : Hid (st3 V1 Br false l r = ((V1.setCell ⟨Br, 0, none⟩ (.bool false)).setCell ⟨Br, 1, none⟩ (.int .i64 l)).setCell ⟨Br, 2, none⟩ (.int .i64 r)) := rfl
  have HFR : Hid (VqR B c a0 xs s w (.returned (.tuple #[.int .u64 0, .bool false, .agg #[.bool false, .int .i64 l, .int .i64 r]])) (st3 V1 Br false l r)) := HFin.out _ HUF.out.1 HUF.out.2
  clear k2 h1 q1 u0 u1 HU HW HFin HUF hV1
  go_upto_region 7 with fail
  rw [← HV1.out]
  clear HV1 g0 g2 gz
  go_wp2_with fail
  go_region
  rw [← HW5.out]
  clear HW5 m0 m1 m2 n0 n1 n2 nz
  generalize st3 V1 Br false l r = W5 at *
  have s0' : W5.drew.cell? ⟨Br, 0, none⟩ = some (.bool false) := s0
  have s1' : W5.drew.cell? ⟨Br, 1, none⟩ = some (.int .i64 l) := s1
  have s2' : W5.drew.cell? ⟨Br, 2, none⟩ = some (.int .i64 r) := s2
  go_wp2
  exact bodyPost_ret (v := .tuple #[.int .u64 0, .bool false, .agg #[.bool false, .int .i64 l, .int .i64 r]]) (by simp [results, Tryd.results29, go_sem, s0', s1', s2']) rfl HFR.out.drew
set_option maxHeartbeats 8000000 in
set_option maxRecDepth 100000 in
/-- Way 1 by the frame. -/
theorem rvalue_1 (B c : Nat) (a0 : Option Addr) (xs : List Int) (s : Rs) (w : World) (h : Rq w B a0 c xs s.p s.b) (ag : ∀ g o, a0 = some ⟨g, o, none⟩ → g < w.heap.size) (hx : By xs) (hN : xs.length ≤ 140737488355328) (hfr : s.r.fr < s.r.to ∧ s.r.to ≤ 64) (hk : (wyF (bt 8 xs) (8 * xs.length) 3 s.p).1 = 1) :
    Calls Tryd.prog 29 #[.pointer (some ⟨B, 0, none⟩), frV s.r.fr s.r.to] w (VqR B c a0 xs s w) := by
  have hI : isF s.r.to = true := decide_eq_true (by omega)
  have hRr : rF s.r.to = 64 - s.r.to := by unfold rF; rw [if_neg (by omega)]
  have hU := ux_new h ag true (s.r.fr : Nat) ((64 - s.r.to : Nat) : Int)
  have HFin : Hid (∀ W, Rq W B a0 c xs (tkP (8 * xs.length) (wyF (bt 8 xs) (8 * xs.length) 3 s.p).2.1 (s.r.to - s.r.fr)) ((s.b || (wyF (bt 8 xs) (8 * xs.length) 3 s.p).2.2) || tkX (8 * xs.length) (wyF (bt 8 xs) (8 * xs.length) 3 s.p).2.1 (s.r.to - s.r.fr)) → Kp (fun k => k = B) w W → VqR B c a0 xs s w (.returned (.tuple #[.int .u64 ((tkV (bt 8 xs) (8 * xs.length) (wyF (bt 8 xs) (8 * xs.length) 3 s.p).2.1 (s.r.to - s.r.fr) * 2 ^ (64 - s.r.to) % 18446744073709551616 : Nat) : Int), .bool false, .agg #[.bool true, .int .i64 (s.r.fr : Nat), .int .i64 ((64 - s.r.to : Nat) : Int)]])) W) := fun W h1 h2 => by
    obtain ⟨f1, f2, f3⟩ := rdV_1 (bt 8 xs) (8 * xs.length) s hk
    refine ⟨tkV (bt 8 xs) (8 * xs.length) (wyF (bt 8 xs) (8 * xs.length) 3 s.p).2.1 (s.r.to - s.r.fr) * 2 ^ (64 - s.r.to) % 18446744073709551616, s.r.fr, s.r.to, _, _, ?_, h1, h2, Nat.mod_lt _ (by decide), .inr hfr, ?_, ?_⟩
    · show _ = Ending.returned (.tuple #[_, .bool (rdS (bt 8 xs) (8 * xs.length) s), .agg #[.bool (isF s.r.to), .int .i64 (s.r.fr : Nat), .int .i64 (rF s.r.to : Nat)]])
      rw [f2, hI, hRr]
    · rw [f3, f1, decide_eq_false (by omega)]; rfl
    · intro hb
      rw [f1]
      unfold rdX rdW
      dsimp only
      rw [hb]
  have k1 := fun (W : World) (hW : Rq W B a0 c xs s.p s.b) => ones_any B c a0 xs s.p s.b 3 W hW hx (by decide) hN
  rw [hk] at k1
  have hqle := wyF_p (bt 8 xs) (8 * xs.length) 3 s.p h.le
  generalize (wyF (bt 8 xs) (8 * xs.length) 3 s.p).2.1 = q at *
  generalize (wyF (bt 8 xs) (8 * xs.length) 3 s.p).2.2 = xb at *
  obtain ⟨W, hW⟩ : ∃ W, W = (w.alloc (.cells #[.bool true, .int .i64 (s.r.fr : Nat), .int .i64 ((64 - s.r.to : Nat) : Int)] 78)).alloc (.cells #[.bool false, .int .i64 0, .int .i64 0] 78) := ⟨_, rfl⟩
  have HW : Hid (W = (w.alloc (.cells #[.bool true, .int .i64 (s.r.fr : Nat), .int .i64 ((64 - s.r.to : Nat) : Int)] 78)).alloc (.cells #[.bool false, .int .i64 0, .int .i64 0] 78)) := hW
  obtain ⟨Br, hBr⟩ : ∃ Br, Br = w.heap.size + 1 := ⟨_, rfl⟩
  obtain ⟨Bf, hBf⟩ : ∃ Bf, Bf = w.heap.size := ⟨_, rfl⟩
  rw [← hW, ← hBr, ← hBf] at hU
  have HBr : Hid (Br = w.heap.size + 1) := hBr
  have HBf : Hid (Bf = w.heap.size) := hBf
  have HNE : Hid (Br ≠ Bf) := by show Br ≠ Bf; omega
  have HU : Hid _ := hU
  have k2 := k1 W hU.rq
  have K8 : Hid (∀ V, Ux w B c a0 xs Bf Br true (s.r.fr : Nat) ((64 - s.r.to : Nat) : Int) V q (s.b || xb) → Calls Tryd.prog 27 #[.pointer (some ⟨B, 0, none⟩), .int .i64 ((s.r.to - s.r.fr : Nat) : Int)] V fun e w' => e = .returned (.int .u64 (tkV (bt 8 xs) (8 * xs.length) q (s.r.to - s.r.fr) : Nat)) ∧ Ux w B c a0 xs Bf Br true (s.r.fr : Nat) ((64 - s.r.to : Nat) : Int) w' (tkP (8 * xs.length) q (s.r.to - s.r.fr)) ((s.b || xb) || tkX (8 * xs.length) q (s.r.to - s.r.fr))) := fun V u => by
    refine (rtake_any B c a0 xs q (s.b || xb) (s.r.to - s.r.fr) V u.rq hx (by omega) hN).mono ?_
    rintro e w' ⟨rfl, h1, q1⟩
    exact ⟨rfl, u.step h1 q1⟩
  have y3 : IntKind.i64.wrap ((64 : Int) - (s.r.fr : Nat)) = 64 - (s.r.fr : Nat) := by rw [IntKind.wrap_i64]; omega
  have y4 : IntKind.i64.wrap ((64 : Int) - (s.r.fr : Nat) - ((64 - s.r.to : Nat) : Int)) = ((s.r.to - s.r.fr : Nat) : Int) := by rw [IntKind.wrap_i64]; omega
  have y5 : ((64 - s.r.to : Nat) : Int) < 64 := by omega
  have y6 : (64 : Int) - (s.r.fr : Nat) - ((64 - s.r.to : Nat) : Int) = ((s.r.to - s.r.fr : Nat) : Int) := by omega
  have y7 : (s.r.fr : Int) < 64 := by omega
  have y8 : IntKind.i64.wrap ((s.r.to - s.r.fr : Nat) : Int) = ((s.r.to - s.r.fr : Nat) : Int) := by rw [IntKind.wrap_i64]; omega
  show Calls Tryd.prog 29 #[.pointer (some ⟨B, 0, none⟩), .agg #[.bool (isF s.r.to), .int .i64 (s.r.fr : Nat), .int .i64 (rF s.r.to : Nat)]] w (VqR B c a0 xs s w)
  rw [hI, hRr]
  have hVl := tkV_lt (bt 8 xs) (bt_lt 8 xs) (8 * xs.length) q (s.r.to - s.r.fr)
  have hVl2 : tkV (bt 8 xs) (8 * xs.length) q (s.r.to - s.r.fr) < 18446744073709551616 := Nat.lt_of_lt_of_le hVl (Nat.pow_le_pow_right (n := 2) (by decide) (show s.r.to - s.r.fr ≤ 64 by omega))
  have hsh := shl_u64 (tkV (bt 8 xs) (8 * xs.length) q (s.r.to - s.r.fr)) (64 - s.r.to) _ rfl
  clear k1 h ag hx hN hfr hk hW hBr hBf hU hI hRr hqle hVl
  generalize tkP (8 * xs.length) q (s.r.to - s.r.fr) = TP at *
  generalize tkX (8 * xs.length) q (s.r.to - s.r.fr) = TX at *
  generalize tkV (bt 8 xs) (8 * xs.length) q (s.r.to - s.r.fr) = TV at *
  generalize s.r.to - s.r.fr = n at *
  generalize 64 - s.r.to = r at *
  generalize s.r.fr = fr at *
  obtain ⟨XI, hXI⟩ : ∃ XI : Int, XI = ((TV * 2 ^ r % 18446744073709551616 : Nat) : Int) := ⟨_, rfl⟩
  obtain ⟨VI, hVI⟩ : ∃ VI : Int, VI = (TV : Nat) := ⟨_, rfl⟩
  have v0 : 0 ≤ VI := by omega
  have v1 : VI ≤ 18446744073709551615 := by omega
  rw [← hXI, ← hVI] at hsh
  rw [← hXI] at HFin
  rw [← hVI] at K8
  clear hXI hVI hVl2
  go_enter Tryd.func29, Tryd.ntmps29
  go_upto_region 1 with fail
  rw [← HW.out, ← HBr.out, ← HBf.out]
  go_wp2_with fail
  go_fit k2
  rintro e w1 ⟨rfl, h1, q1⟩
  have u0 := HU.out.step h1 q1
  have q0 := u0.bx.f0
  have q1' := u0.bx.f1
  have q2 := u0.bx.f2
  have HUD : Hid (∀ V, Below w1.heap.size w1 V → Ux w B c a0 xs Bf Br true (fr : Nat) (r : Nat) V q (s.b || xb)) := fun V hV => u0.below hV
  have hbD : Below w1.heap.size w1 w1.drew := (Below.refl _ _).drew
  have hNe : Br ≠ Bf := HNE.out
  clear k2 h1 q1 u0 HU HW
  go_wp2_with fail
  go_region_held3 (fun w' => w'.cell? ⟨Bf, 0, none⟩ = some (.bool true) ∧ w'.cell? ⟨Bf, 1, none⟩ = some (.int .i64 (fr : Nat)) ∧ w'.cell? ⟨Bf, 2, none⟩ = some (.int .i64 (r : Nat))) (first | exact ⟨q0, q1', q2⟩ | exact ⟨m0, m1, m2⟩ | exact ⟨(cell_far _ _ _ _ _ _ hNe).trans ((cell_far _ _ _ _ _ _ hNe).trans ((cell_far _ _ _ _ _ _ hNe).trans m0)), (cell_far _ _ _ _ _ _ hNe).trans ((cell_far _ _ _ _ _ _ hNe).trans ((cell_far _ _ _ _ _ _ hNe).trans m1)), (cell_far _ _ _ _ _ _ hNe).trans ((cell_far _ _ _ _ _ _ hNe).trans ((cell_far _ _ _ _ _ _ hNe).trans m2))⟩) (first | (go_at_call 27; go_fit (K8.out _ (HUD.out _ (by first | assumption | exact Below.refl _ _))); rintro z w4 ⟨rfl, u4⟩; have m0 := u4.bx.f0; have m1 := u4.bx.f1; have m2 := u4.bx.f2; have n0 := u4.bx.r0; have n1 := u4.bx.r1; have n2 := u4.bx.r2; have nz := u4.bx.fz; have HUF : Hid (Rq (st3 w4 Br true (fr : Nat) (r : Nat)) B a0 c xs TP ((s.b || xb) || TX) ∧ Kp (fun k => k = B) w (st3 w4 Br true (fr : Nat) (r : Nat))) := u4.fin true (fr : Nat) (r : Nat); clear u4 K8))
  all_goals
    obtain ⟨s0, s1, s2⟩ := st3_cells w4 Br true (fr : Nat) (r : Nat) _ _ _ n0 n1 n2
    have HFR : Hid (VqR B c a0 xs s w (.returned (.tuple #[.int .u64 XI, .bool false, .agg #[.bool true, .int .i64 (fr : Nat), .int .i64 (r : Nat)]])) (st3 w4 Br true (fr : Nat) (r : Nat))) := HFin.out _ HUF.out.1 HUF.out.2
    have HW5 : Hid (st3 w4 Br true (fr : Nat) (r : Nat) = ((w4.setCell ⟨Br, 0, none⟩ (.bool true)).setCell ⟨Br, 1, none⟩ (.int .i64 (fr : Nat))).setCell ⟨Br, 2, none⟩ (.int .i64 (r : Nat))) := rfl
    rw [← HW5.out]
    clear HW5 m0 m1 m2 n0 n1 n2 nz q0 q1' q2 hbD HFin HUF
    generalize st3 w4 Br true (fr : Nat) (r : Nat) = W5 at *
    go_wp2
    exact bodyPost_ret (v := .tuple #[.int .u64 XI, .bool false, .agg #[.bool true, .int .i64 (fr : Nat), .int .i64 (r : Nat)]]) (by simp [results, Tryd.results29, go_sem, s0, s1, s2]) rfl HFR.out
end Go.Proofs.YtedlmjieclaojabDoor
