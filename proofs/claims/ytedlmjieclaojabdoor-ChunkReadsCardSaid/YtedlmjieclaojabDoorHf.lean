/- The reference's reader: value by a new frame. -/
import Derived.Test.YtedlmjieclaojabDoorHe
namespace Go.Proofs.YtedlmjieclaojabDoor
open Go.RowKit

set_option maxHeartbeats 8000000 in
set_option maxRecDepth 100000 in
theorem rvalue_2 (B c : Nat) (a0 : Option Addr) (xs : List Int) (s : Rs) (w : World) (h : Rq w B a0 c xs s.p s.b) (ag : ∀ g o, a0 = some ⟨g, o, none⟩ → g < w.heap.size) (hx : By xs) (hN : xs.length ≤ 140737488355328) (hfr : (s.r.fr = 0 ∧ s.r.to = 0) ∨ (s.r.fr < s.r.to ∧ s.r.to ≤ 64)) (hk : (wyF (bt 8 xs) (8 * xs.length) 3 s.p).1 = 2) :
    Calls Tryd.prog 29 #[.pointer (some ⟨B, 0, none⟩), frV s.r.fr s.r.to] w (VqR B c a0 xs s w) := by
  have hU := ux_new h ag (isF s.r.to) (s.r.fr : Nat) (rF s.r.to : Nat)
  obtain ⟨f1, f2, f3⟩ := rdV_2 (bt 8 xs) (8 * xs.length) s hk
  have e1 : rdF1 (bt 8 xs) (8 * xs.length) (rdW (bt 8 xs) (8 * xs.length) s) = tkV (bt 8 xs) (8 * xs.length) (wyF (bt 8 xs) (8 * xs.length) 3 s.p).2.1 6 + tkV (bt 8 xs) (8 * xs.length) (tkP (8 * xs.length) (wyF (bt 8 xs) (8 * xs.length) 3 s.p).2.1 6) 6 + 1 := rfl
  have HBad : Hid (64 < rdF1 (bt 8 xs) (8 * xs.length) (rdW (bt 8 xs) (8 * xs.length) s) → ∀ W p, Rq W B a0 c xs p true → Kp (fun k => k = B) w W → VqR B c a0 xs s w (.returned (.tuple #[.int .u64 0, .bool false, .agg #[.bool (isF s.r.to), .int .i64 (s.r.fr : Nat), .int .i64 (rF s.r.to : Nat)]])) W) := fun hb W p h1 h2 => by
    refine ⟨0, s.r.fr, s.r.to, _, _, ?_, h1, h2, by decide, hfr, ?_, fun hb => by cases hb⟩
    · rw [f2]; rfl
    · rw [f3, decide_eq_true hb]; rfl
  have HOk : Hid (¬ 64 < rdF1 (bt 8 xs) (8 * xs.length) (rdW (bt 8 xs) (8 * xs.length) s) → ∀ (W : World) (q2 F n : Nat) (b2 : Bool), q2 = tkP (8 * xs.length) (tkP (8 * xs.length) (wyF (bt 8 xs) (8 * xs.length) 3 s.p).2.1 6) 6 → F = tkV (bt 8 xs) (8 * xs.length) (wyF (bt 8 xs) (8 * xs.length) 3 s.p).2.1 6 → n = tkV (bt 8 xs) (8 * xs.length) (tkP (8 * xs.length) (wyF (bt 8 xs) (8 * xs.length) 3 s.p).2.1 6) 6 + 1 → b2 = (((s.b || (wyF (bt 8 xs) (8 * xs.length) 3 s.p).2.2) || tkX (8 * xs.length) (wyF (bt 8 xs) (8 * xs.length) 3 s.p).2.1 6) || tkX (8 * xs.length) (tkP (8 * xs.length) (wyF (bt 8 xs) (8 * xs.length) 3 s.p).2.1 6) 6) →
      Rq W B a0 c xs (tkP (8 * xs.length) q2 n) (b2 || tkX (8 * xs.length) q2 n) → Kp (fun k => k = B) w W → VqR B c a0 xs s w (.returned (.tuple #[.int .u64 ((tkV (bt 8 xs) (8 * xs.length) q2 n * 2 ^ (64 - F - n) % 18446744073709551616 : Nat) : Int), .bool false, .agg #[.bool true, .int .i64 (F : Nat), .int .i64 ((64 - F - n : Nat) : Int)]])) W) := fun hb W q2 F n b2 a1 a2 a3 a4 h1 h2 => by
    have hle : F + n ≤ 64 := by rw [a2, a3]; rw [e1] at hb; omega
    have hn1 : 1 ≤ n := by omega
    have hI : isF (F + n) = true := decide_eq_true (by omega)
    have hR : rF (F + n) = 64 - F - n := by unfold rF; rw [if_neg (by omega)]; omega
    refine ⟨tkV (bt 8 xs) (8 * xs.length) q2 n * 2 ^ (64 - F - n) % 18446744073709551616, F, F + n, _, _, ?_, h1, h2, Nat.mod_lt _ (by decide), .inr ⟨by omega, hle⟩, ?_, ?_⟩
    · show _ = Ending.returned (.tuple #[_, .bool (rdS (bt 8 xs) (8 * xs.length) s), .agg #[.bool (isF (F + n)), .int .i64 (F : Nat), .int .i64 (rF (F + n) : Nat)]])
      rw [f2, hI, hR]
    · have hf : (rdFr (bt 8 xs) (8 * xs.length) (rdW (bt 8 xs) (8 * xs.length) s)) = ⟨q2, b2, { s.r with fr := F, to := F + n }⟩ := by
        unfold rdFr
        rw [if_neg hb, a1, a4, a2, a3]
        rfl
      rw [f3, f1, decide_eq_false hb, hf]
      unfold rdX
      dsimp only
      rw [show F + n - F = n by omega]
      rfl
    · intro hbf
      have hf : (rdFr (bt 8 xs) (8 * xs.length) (rdW (bt 8 xs) (8 * xs.length) s)) = ⟨q2, b2, { s.r with fr := F, to := F + n }⟩ := by
        unfold rdFr
        rw [if_neg hb, a1, a4, a2, a3]
        rfl
      rw [f1, hf]
      unfold rdX
      dsimp only
      rw [show F + n - F = n by omega, hbf, show 64 - (F + n) = 64 - F - n by omega]
  have k1 := fun (W : World) (hW : Rq W B a0 c xs s.p s.b) => ones_any B c a0 xs s.p s.b 3 W hW hx (by decide) hN
  rw [hk] at k1
  rw [e1] at HBad HOk
  generalize (wyF (bt 8 xs) (8 * xs.length) 3 s.p).2.1 = q at *
  generalize (wyF (bt 8 xs) (8 * xs.length) 3 s.p).2.2 = xb at *
  have hF64 : tkV (bt 8 xs) (8 * xs.length) q 6 < 64 := tkV_lt (bt 8 xs) (bt_lt 8 xs) _ q 6
  have hf64 : tkV (bt 8 xs) (8 * xs.length) (tkP (8 * xs.length) q 6) 6 < 64 := tkV_lt (bt 8 xs) (bt_lt 8 xs) _ _ 6
  have HT : Hid (∀ (p' : Nat) (b' : Bool) (n : Nat), n ≤ 64 → ∀ W, Rq W B a0 c xs p' b' → Calls Tryd.prog 27 #[.pointer (some ⟨B, 0, none⟩), .int .i64 (n : Nat)] W fun e w' => e = .returned (.int .u64 (tkV (bt 8 xs) (8 * xs.length) p' n : Nat)) ∧ Rq w' B a0 c xs (tkP (8 * xs.length) p' n) (b' || tkX (8 * xs.length) p' n) ∧ Kp (fun k => k = B) W w') := fun p' b' n hn W hW => rtake_any B c a0 xs p' b' n W hW hx hn hN
  have HVL : Hid (∀ p' n, n ≤ 64 → tkV (bt 8 xs) (8 * xs.length) p' n < 18446744073709551616) := fun p' n hn => Nat.lt_of_lt_of_le (tkV_lt (bt 8 xs) (bt_lt 8 xs) _ p' n) (Nat.pow_le_pow_right (n := 2) (by decide) hn)
  obtain ⟨W, hW⟩ : ∃ W, W = (w.alloc (.cells #[.bool (isF s.r.to), .int .i64 (s.r.fr : Nat), .int .i64 (rF s.r.to : Nat)] 78)).alloc (.cells #[.bool false, .int .i64 0, .int .i64 0] 78) := ⟨_, rfl⟩
  have HW : Hid (W = (w.alloc (.cells #[.bool (isF s.r.to), .int .i64 (s.r.fr : Nat), .int .i64 (rF s.r.to : Nat)] 78)).alloc (.cells #[.bool false, .int .i64 0, .int .i64 0] 78)) := hW
  obtain ⟨Br, hBr⟩ : ∃ Br, Br = w.heap.size + 1 := ⟨_, rfl⟩
  obtain ⟨Bf, hBf⟩ : ∃ Bf, Bf = w.heap.size := ⟨_, rfl⟩
  rw [← hW, ← hBr, ← hBf] at hU
  have HBr : Hid (Br = w.heap.size + 1) := hBr
  have HBf : Hid (Bf = w.heap.size) := hBf
  have HU : Hid _ := hU
  have k2 := k1 W hU.rq
  show Calls Tryd.prog 29 #[.pointer (some ⟨B, 0, none⟩), .agg #[.bool (isF s.r.to), .int .i64 (s.r.fr : Nat), .int .i64 (rF s.r.to : Nat)]] w (VqR B c a0 xs s w)
  obtain ⟨F, hF⟩ : ∃ F, F = tkV (bt 8 xs) (8 * xs.length) q 6 := ⟨_, rfl⟩
  obtain ⟨f, hf⟩ : ∃ f, f = tkV (bt 8 xs) (8 * xs.length) (tkP (8 * xs.length) q 6) 6 := ⟨_, rfl⟩
  have K10 : Hid (∀ W, Rq W B a0 c xs q (s.b || xb) → Calls Tryd.prog 27 #[.pointer (some ⟨B, 0, none⟩), .int .i64 6] W fun e w' => e = .returned (.int .u64 (F : Nat)) ∧ Rq w' B a0 c xs (tkP (8 * xs.length) q 6) ((s.b || xb) || tkX (8 * xs.length) q 6) ∧ Kp (fun k => k = B) W w') := fun W hW => by rw [hF]; exact HT.out q (s.b || xb) 6 (by decide) W hW
  have K11 : Hid (∀ b' W, Rq W B a0 c xs (tkP (8 * xs.length) q 6) b' → Calls Tryd.prog 27 #[.pointer (some ⟨B, 0, none⟩), .int .i64 6] W fun e w' => e = .returned (.int .u64 (f : Nat)) ∧ Rq w' B a0 c xs (tkP (8 * xs.length) (tkP (8 * xs.length) q 6) 6) (b' || tkX (8 * xs.length) (tkP (8 * xs.length) q 6) 6) ∧ Kp (fun k => k = B) W w') := fun b' W hW => by rw [hf]; exact HT.out _ b' 6 (by decide) W hW
  rw [← hF] at hF64
  rw [← hf] at hf64
  have HFF : Hid (F = tkV (bt 8 xs) (8 * xs.length) q 6 ∧ f = tkV (bt 8 xs) (8 * xs.length) (tkP (8 * xs.length) q 6) 6) := ⟨hF, hf⟩
  have w1' : IntKind.i64.wrap (F : Int) = F := by rw [IntKind.wrap_i64]; omega
  have w2' : IntKind.i64.wrap (f : Int) = f := by rw [IntKind.wrap_i64]; omega
  have w3' : IntKind.i64.wrap ((f : Int) + 1) = (f : Int) + 1 := by rw [IntKind.wrap_i64]; omega
  have w4' : IntKind.i64.wrap ((F : Int) + ((f : Int) + 1)) = (F : Int) + ((f : Int) + 1) := by rw [IntKind.wrap_i64]; omega
  clear k1 h ag hx hN hfr hk hW hBr hBf hU e1 f1 f2 f3 hF hf
  generalize isF s.r.to = bb at *
  generalize ((s.r.fr : Nat) : Int) = l at *
  generalize ((rF s.r.to : Nat) : Int) = r at *
  go_enter Tryd.func29, Tryd.ntmps29
  go_upto_region 1 with fail
  rw [← HW.out, ← HBr.out, ← HBf.out]
  go_wp2_with fail
  go_fit k2
  rintro e w1 ⟨rfl, h1, q1⟩
  have u1 := HU.out.step h1 q1
  have k10 := K10.out w1 u1.rq
  have HU1 : Hid _ := u1
  clear k2 h1 q1 u1 HU HW K10
  go_wp2_with fail
  go_fit k10
  rintro e w2 ⟨rfl, h2, q2⟩
  have u2 := HU1.out.step h2 q2
  have k11 := K11.out _ w2 u2.rq
  have HU2 : Hid _ := u2
  clear k10 h2 q2 u2 HU1 K11
  go_wp2_with fail
  go_fit k11
  rintro e w3 ⟨rfl, h3, q3⟩
  have u3 := HU2.out.step h3 q3
  have HU3 : Hid _ := u3
  clear k11 h3 q3 u3 HU2
  by_cases hbig : 64 < F + f + 1
  · have hb1 : (64 : Int) < (F : Int) + ((f : Int) + 1) := by omega
    have HB2 := HBad.out (by rw [← HFF.out.1, ← HFF.out.2]; exact hbig)
    have g2 := HU3.out.rq.c2
    have gz := HU3.out.rq.fz
    have u4 := HU3.out.bad
    obtain ⟨V1, hV1⟩ : ∃ V1, V1 = w3.setCell ⟨B, 2, none⟩ (.bool true) := ⟨_, rfl⟩
    have HV1 : Hid (V1 = w3.setCell ⟨B, 2, none⟩ (.bool true)) := hV1
    rw [← hV1] at u4
    have m0 := u4.bx.f0
    have m1 := u4.bx.f1
    have m2 := u4.bx.f2
    have n0 := u4.bx.r0
    have n1 := u4.bx.r1
    have n2 := u4.bx.r2
    have nz := u4.bx.fz
    have hUF := u4.fin bb l r
    obtain ⟨s0, s1, s2⟩ := st3_cells V1 Br bb l r _ _ _ n0 n1 n2
    have HW5 : Hid (st3 V1 Br bb l r = ((V1.setCell ⟨Br, 0, none⟩ (.bool bb)).setCell ⟨Br, 1, none⟩ (.int .i64 l)).setCell ⟨Br, 2, none⟩ (.int .i64 r)) := rfl
    have HFR : Hid (VqR B c a0 xs s w (.returned (.tuple #[.int .u64 0, .bool false, .agg #[.bool bb, .int .i64 l, .int .i64 r]])) (st3 V1 Br bb l r)) := HB2 _ _ hUF.1 hUF.2
    clear HU3 u4 hUF hV1 HB2 HBad HOk hbig
    go_upto_region 14 with fail
    rw [← HV1.out]
    clear HV1 g2 gz
    go_wp2_with fail
    go_region
    rw [← HW5.out]
    clear HW5 m0 m1 m2 n0 n1 n2 nz
    generalize st3 V1 Br bb l r = W5 at *
    have s0' : W5.drew.cell? ⟨Br, 0, none⟩ = some (.bool bb) := s0
    have s1' : W5.drew.cell? ⟨Br, 1, none⟩ = some (.int .i64 l) := s1
    have s2' : W5.drew.cell? ⟨Br, 2, none⟩ = some (.int .i64 r) := s2
    go_wp2
    exact bodyPost_ret (v := .tuple #[.int .u64 0, .bool false, .agg #[.bool bb, .int .i64 l, .int .i64 r]]) (by simp [results, Tryd.results29, go_sem, s0', s1', s2']) rfl HFR.out.drew
  · have hb1 : ¬ (64 : Int) < (F : Int) + ((f : Int) + 1) := by omega
    have HO2 := HOk.out (by rw [← HFF.out.1, ← HFF.out.2]; exact hbig)
    obtain ⟨n, hn⟩ : ∃ n, n = f + 1 := ⟨_, rfl⟩
    have en : (f : Int) + 1 = ((n : Nat) : Int) := by omega
    have hO3 := fun W => HO2 W (tkP (8 * xs.length) (tkP (8 * xs.length) q 6) 6) F n _ rfl HFF.out.1 (by rw [hn, HFF.out.2]) rfl
    have HO3 : Hid _ := hO3
    have y1 : IntKind.i64.wrap ((64 : Int) - (F : Nat)) = 64 - (F : Nat) := by rw [IntKind.wrap_i64]; omega
    have y2 : IntKind.i64.wrap ((64 : Int) - (F : Nat) - (n : Nat)) = ((64 - F - n : Nat) : Int) := by rw [IntKind.wrap_i64]; omega
    have y3 : (64 : Int) - (F : Nat) - (n : Nat) = ((64 - F - n : Nat) : Int) := by omega
    have y4 : IntKind.i64.wrap ((64 - F - n : Nat) : Int) = ((64 - F - n : Nat) : Int) := by rw [IntKind.wrap_i64]; omega
    have y5 : ((64 - F - n : Nat) : Int) < 64 := by omega
    have y6 : IntKind.i64.wrap (n : Int) = (n : Int) := by rw [IntKind.wrap_i64]; omega
    have hn64 : n ≤ 64 := by omega
    rw [en] at w3' w4' hb1
    obtain ⟨r2, hr2⟩ : ∃ r2, r2 = 64 - F - n := ⟨_, rfl⟩
    rw [← hr2] at y2 y3 y4 y5 HO3
    obtain ⟨w4, hw4⟩ : ∃ w4, w4 = w3.alloc (.cells #[.bool true, .int .i64 (F : Nat), .int .i64 (r2 : Nat)] 78) := ⟨_, rfl⟩
    have HW4 : Hid (w4 = w3.alloc (.cells #[.bool true, .int .i64 (F : Nat), .int .i64 (r2 : Nat)] 78)) := hw4
    have hb34 : Below w3.heap.size w3 w4 := by rw [hw4]; exact (Below.refl _ _).alloc (Nat.le_refl _) _
    obtain ⟨G, hG⟩ : ∃ G, G = w3.heap.size := ⟨_, rfl⟩
    have HG : Hid (G = w3.heap.size) := hG
    have g0 : w4.cell? ⟨G, 0, none⟩ = some (.bool true) := by rw [hw4, hG]; simp
    have g1 : w4.cell? ⟨G, 1, none⟩ = some (.int .i64 (F : Nat)) := by rw [hw4, hG]; simp
    have g2 : w4.cell? ⟨G, 2, none⟩ = some (.int .i64 (r2 : Nat)) := by rw [hw4, hG]; simp
    have HUD : Hid (∀ V, Below w4.heap.size w4 V → Ux w B c a0 xs Bf Br bb l r V (tkP (8 * xs.length) (tkP (8 * xs.length) q 6) 6) (((s.b || xb) || tkX (8 * xs.length) q 6) || tkX (8 * xs.length) (tkP (8 * xs.length) q 6) 6)) := fun V hV => (HU3.out.below hb34).below hV
    have hBG : ¬ G = B := by have := HU3.out.rq.lt; omega
    have hRG : Br ≠ G := by have hlt : Br < w3.heap.size := World.block_lt_of_cell? w3 _ HU3.out.bx.r0; omega
    have HGD : Hid (∀ V, Below w4.heap.size w4 V → V.cell? ⟨G, 0, none⟩ = some (.bool true) ∧ V.cell? ⟨G, 1, none⟩ = some (.int .i64 (F : Nat)) ∧ V.cell? ⟨G, 2, none⟩ = some (.int .i64 (r2 : Nat))) := fun V hV => ⟨bcell2 hV g0, bcell2 hV g1, bcell2 hV g2⟩
    generalize tkP (8 * xs.length) (tkP (8 * xs.length) q 6) 6 = q6 at *
    generalize (((s.b || xb) || tkX (8 * xs.length) q 6) || tkX (8 * xs.length) (tkP (8 * xs.length) q 6) 6) = b6 at *
    have hVl := HVL.out q6 n hn64
    have hsh := shl_u64 (tkV (bt 8 xs) (8 * xs.length) q6 n) r2 _ rfl
    have K16 : Hid (∀ V, Below w4.heap.size w4 V → Calls Tryd.prog 27 #[.pointer (some ⟨B, 0, none⟩), .int .i64 (n : Nat)] V fun e w' => e = .returned (.int .u64 (tkV (bt 8 xs) (8 * xs.length) q6 n : Nat)) ∧ (w'.cell? ⟨G, 0, none⟩ = some (.bool true) ∧ w'.cell? ⟨G, 1, none⟩ = some (.int .i64 (F : Nat)) ∧ w'.cell? ⟨G, 2, none⟩ = some (.int .i64 (r2 : Nat))) ∧ Ux w B c a0 xs Bf Br bb l r w' (tkP (8 * xs.length) q6 n) (b6 || tkX (8 * xs.length) q6 n)) := fun V hV => by
      have u := HUD.out V hV
      refine (HT.out q6 b6 n hn64 V u.rq).mono ?_
      rintro e w' ⟨rfl, h1, q1⟩
      obtain ⟨a1, a2, a3⟩ := HGD.out V hV
      exact ⟨rfl, ⟨q1.cell a1 hBG, q1.cell a2 hBG, q1.cell a3 hBG⟩, u.step h1 q1⟩
    clear HU3 hw4 hb34 hG HO2 hO3 HOk HBad HT HVL hbig hn hr2 HFF
    generalize tkP (8 * xs.length) q6 n = TP at *
    generalize tkX (8 * xs.length) q6 n = TX at *
    generalize tkV (bt 8 xs) (8 * xs.length) q6 n = TV at *
    obtain ⟨XI, hXI⟩ : ∃ XI : Int, XI = ((TV * 2 ^ r2 % 18446744073709551616 : Nat) : Int) := ⟨_, rfl⟩
    obtain ⟨VI, hVI⟩ : ∃ VI : Int, VI = (TV : Nat) := ⟨_, rfl⟩
    have v0 : 0 ≤ VI := by omega
    have v1 : VI ≤ 18446744073709551615 := by omega
    rw [← hXI, ← hVI] at hsh
    rw [← hXI] at HO3
    rw [← hVI] at K16
    clear hXI hVI hVl
    go_upto_region 16 with fail
    rw [← HW4.out, ← HG.out]
    have hbD : Below w4.heap.size w4 w4.drew := (Below.refl _ _).drew
    clear HW4
    go_wp2_with fail
    go_region_held3 (fun w' => w'.cell? ⟨G, 0, none⟩ = some (.bool true) ∧ w'.cell? ⟨G, 1, none⟩ = some (.int .i64 (F : Nat)) ∧ w'.cell? ⟨G, 2, none⟩ = some (.int .i64 (r2 : Nat))) (first | exact ⟨g0, g1, g2⟩ | exact ⟨m0, m1, m2⟩ | exact ⟨(cell_far _ _ _ _ _ _ hRG).trans ((cell_far _ _ _ _ _ _ hRG).trans ((cell_far _ _ _ _ _ _ hRG).trans m0)), (cell_far _ _ _ _ _ _ hRG).trans ((cell_far _ _ _ _ _ _ hRG).trans ((cell_far _ _ _ _ _ _ hRG).trans m1)), (cell_far _ _ _ _ _ _ hRG).trans ((cell_far _ _ _ _ _ _ hRG).trans ((cell_far _ _ _ _ _ _ hRG).trans m2))⟩) (first | (go_at_call 27; go_fit (K16.out _ (by first | assumption | exact Below.refl _ _)); rintro z w5 ⟨rfl, ⟨m0, m1, m2⟩, u5⟩; have n0 := u5.bx.r0; have n1 := u5.bx.r1; have n2 := u5.bx.r2; have nz := u5.bx.fz; have HUF : Hid (Rq (st3 w5 Br true (F : Nat) (r2 : Nat)) B a0 c xs TP (b6 || TX) ∧ Kp (fun k => k = B) w (st3 w5 Br true (F : Nat) (r2 : Nat))) := u5.fin true (F : Nat) (r2 : Nat); clear u5 K16))
    all_goals
      obtain ⟨s0, s1, s2⟩ := st3_cells w5 Br true (F : Nat) (r2 : Nat) _ _ _ n0 n1 n2
      have HFR : Hid (VqR B c a0 xs s w (.returned (.tuple #[.int .u64 XI, .bool false, .agg #[.bool true, .int .i64 (F : Nat), .int .i64 (r2 : Nat)]])) (st3 w5 Br true (F : Nat) (r2 : Nat))) := HO3.out _ HUF.out.1 HUF.out.2
      have HW5 : Hid (st3 w5 Br true (F : Nat) (r2 : Nat) = ((w5.setCell ⟨Br, 0, none⟩ (.bool true)).setCell ⟨Br, 1, none⟩ (.int .i64 (F : Nat))).setCell ⟨Br, 2, none⟩ (.int .i64 (r2 : Nat))) := rfl
      rw [← HW5.out]
      clear HW5 m0 m1 m2 n0 n1 n2 nz g0 g1 g2 hbD HO3 HUF
      generalize st3 w5 Br true (F : Nat) (r2 : Nat) = W5 at *
      go_wp2
      exact bodyPost_ret (v := .tuple #[.int .u64 XI, .bool false, .agg #[.bool true, .int .i64 (F : Nat), .int .i64 (r2 : Nat)]]) (by simp [results, Tryd.results29, go_sem, s0, s1, s2]) rfl HFR.out
theorem rvalue_any (B c : Nat) (a0 : Option Addr) (xs : List Int) (s : Rs) (w : World) (h : Rq w B a0 c xs s.p s.b) (ag : ∀ g o, a0 = some ⟨g, o, none⟩ → g < w.heap.size) (hx : By xs) (hN : xs.length ≤ 140737488355328) (hfr : (s.r.fr = 0 ∧ s.r.to = 0) ∨ (s.r.fr < s.r.to ∧ s.r.to ≤ 64)) :
    Calls Tryd.prog 29 #[.pointer (some ⟨B, 0, none⟩), frV s.r.fr s.r.to] w (VqR B c a0 xs s w) := by
  have hk := wyF_le (bt 8 xs) (8 * xs.length) 3 s.p
  have : (wyF (bt 8 xs) (8 * xs.length) 3 s.p).1 = 0 ∨ (wyF (bt 8 xs) (8 * xs.length) 3 s.p).1 = 1 ∨ (wyF (bt 8 xs) (8 * xs.length) 3 s.p).1 = 2 ∨ (wyF (bt 8 xs) (8 * xs.length) 3 s.p).1 = 3 := by omega
  rcases this with k | k | k | k
  · exact rvalue_03 B c a0 xs s w h ag hx hN hfr 0 false k (.inl ⟨rfl, rfl⟩)
  · rcases hfr with hf | hf
    · exact rvalue_1bad B c a0 xs s w h ag hx hN hf k
    · exact rvalue_1 B c a0 xs s w h ag hx hN hf k
  · exact rvalue_2 B c a0 xs s w h ag hx hN hfr k
  · exact rvalue_03 B c a0 xs s w h ag hx hN hfr 3 true k (.inr ⟨rfl, rfl⟩)
end Go.Proofs.YtedlmjieclaojabDoor
