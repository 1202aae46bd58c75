/- The reference: value, where the frame covers. -/
import Derived.Test.YtedlmjieclaojabDoorRe
namespace Go.Proofs.YtedlmjieclaojabDoor
open Go.RowKit

set_option maxHeartbeats 8000000 in
set_option maxRecDepth 100000 in
theorem value_cov (S : Nat) (v : Value) (L : List Int) (x fr to : Nat) (w : World) (h : Rw S w v L) (hL : L.length + 300 ≤ 140737488355328) (h0 : x ≠ 0) (hx : x < 18446744073709551616) (hfr : fr < to ∧ to ≤ 64) (hc : cov x fr to = true) :
    Calls Tryd.prog 42 #[v, .int .u64 (x : Nat), frV fr to] w (VlR S v L x fr to w) := by
  have hz := fun W => zeros_any x W (by omega) hx
  obtain ⟨e1, e2, e3⟩ := vluC x fr to h0 hc
  have hc' : fr ≤ lz x ∧ 64 - tz x ≤ to := by simpa [cov] using hc
  have hI : isF to = true := decide_eq_true (by omega)
  have hRr : rF to = 64 - to := by unfold rF; rw [if_neg (by omega)]
  have hU := uw_new h true (fr : Nat) ((64 - to : Nat) : Int)
  have HFin : Hid (∀ (W : World) (v1 : Value) (b : Bool) (l r : Int) (Bf Br : Nat), Uw S w v L Bf Br b l r W v1 (([] ++ nb 2 2) ++ nb (x / 2 ^ (64 - to)) (to - fr)) → VlR S v L x fr to w (.returned (.tuple #[v1, .agg #[.bool true, .int .i64 (fr : Nat), .int .i64 ((64 - to : Nat) : Int)]])) (st3 W Br true (fr : Nat) ((64 - to : Nat) : Int))) := fun W v1 b l r Bf Br u => by
    obtain ⟨h1, h2, h3⟩ := u.fin true (fr : Nat) ((64 - to : Nat) : Int) x fr to (by rw [List.nil_append, e1])
    refine ⟨v1, ?_, h1, h2, h3⟩
    show _ = Ending.returned (.tuple #[v1, .agg #[.bool (isF (vto x fr to)), .int .i64 (vfr x fr to : Nat), .int .i64 (rF (vto x fr to) : Nat)]])
    rw [e2, e3, hI, hRr]
  obtain ⟨a, c, hv⟩ := h.form
  have HV : Hid (v = .slice a L.length c) := hv
  obtain ⟨W, hW⟩ : ∃ W, W = (w.alloc (.cells #[.bool true, .int .i64 (fr : Nat), .int .i64 ((64 - to : Nat) : Int)] 78)).alloc (.cells #[.bool false, .int .i64 0, .int .i64 0] 78) := ⟨_, rfl⟩
  have HW : Hid (W = (w.alloc (.cells #[.bool true, .int .i64 (fr : Nat), .int .i64 ((64 - to : Nat) : Int)] 78)).alloc (.cells #[.bool false, .int .i64 0, .int .i64 0] 78)) := hW
  obtain ⟨Br, hBr⟩ : ∃ Br, Br = w.heap.size + 1 := ⟨_, rfl⟩
  obtain ⟨Bf, hBf⟩ : ∃ Bf, Bf = w.heap.size := ⟨_, rfl⟩
  rw [← hW, ← hBr, ← hBf] at hU
  have HBr : Hid (Br = w.heap.size + 1) := hBr
  have HBf : Hid (Bf = w.heap.size) := hBf
  have HU : Hid _ := hU
  have HNE : Hid (Br ≠ Bf) := by show Br ≠ Bf; omega
  have k5 : Calls Tryd.prog 39 #[v, .int .u64 2, .int .i64 2] W fun e w' => ∃ v2, e = .returned v2 ∧ Uw S w v L Bf Br true (fr : Nat) ((64 - to : Nat) : Int) w' v2 ([] ++ nb 2 2) := HU.out.num 2 2 (by decide) (by decide) (by simp) hL
  have hxd : x / 2 ^ (64 - to) < 18446744073709551616 := Nat.lt_of_le_of_lt (Nat.div_le_self _ _) hx
  have K6 : Hid (∀ V v1, Uw S w v L Bf Br true (fr : Nat) ((64 - to : Nat) : Int) V v1 ([] ++ nb 2 2) → Calls Tryd.prog 39 #[v1, .int .u64 ((x / 2 ^ (64 - to) : Nat) : Int), .int .i64 ((to - fr : Nat) : Int)] V fun e w' => ∃ v2, e = .returned v2 ∧ Uw S w v L Bf Br true (fr : Nat) ((64 - to : Nat) : Int) w' v2 (([] ++ nb 2 2) ++ nb (x / 2 ^ (64 - to)) (to - fr))) := fun V v1 u => u.num _ _ hxd (by omega) (by rw [List.nil_append, nb_len]; decide) hL
  show Calls Tryd.prog 42 #[v, .int .u64 (x : Nat), .agg #[.bool (isF to), .int .i64 (fr : Nat), .int .i64 (rF to : Nat)]] w (VlR S v L x fr to w)
  rw [hI, hRr]
  have y1 : (fr : Int) ≤ (lz x : Nat) := by omega
  have y2 : ((64 - to : Nat) : Int) ≤ (tz x : Nat) := by have := (tz_spec x (by omega) hx).1; omega
  have y3 : IntKind.i64.wrap ((64 : Int) - (fr : Nat)) = 64 - (fr : Nat) := by rw [IntKind.wrap_i64]; omega
  have y4 : IntKind.i64.wrap ((64 : Int) - (fr : Nat) - ((64 - to : Nat) : Int)) = ((to - fr : Nat) : Int) := by rw [IntKind.wrap_i64]; omega
  have y5 : ((64 - to : Nat) : Int) < 64 := by omega
  have y6 : (64 : Int) - (fr : Nat) - ((64 - to : Nat) : Int) = ((to - fr : Nat) : Int) := by omega
  have y7 : (fr : Int) < 64 := by omega
  have y8 : IntKind.i64.wrap ((to - fr : Nat) : Int) = ((to - fr : Nat) : Int) := by rw [IntKind.wrap_i64]; omega
  obtain ⟨X, hX⟩ : ∃ X : Int, X = (x : Nat) := ⟨_, rfl⟩
  have hX0 : 0 ≤ X := by omega
  have hX1 : X ≤ 18446744073709551615 := by omega
  have hXz : (X == 0) = false := by simp; omega
  have hXd : X / 2 ^ (64 - to) = ((x / 2 ^ (64 - to) : Nat) : Int) := by rw [hX]; simp
  rw [← hX] at hz ⊢
  clear hv h hW hBr hBf hU hX hc hc' hI hRr e1 e2 e3 h0 hx hxd
  generalize lz x = lx at *
  generalize tz x = tx at *
  generalize to - fr = n at *
  generalize 64 - to = r at *
  generalize x / 2 ^ r = xr at *
  obtain ⟨XR, hXR⟩ : ∃ XR : Int, XR = (xr : Nat) := ⟨_, rfl⟩
  rw [← hXR] at K6 hXd
  have hXR0 : 0 ≤ XR := by omega
  clear hXR hfr
  go_enter Tryd.func42, Tryd.ntmps42
  go_upto_region 1 with fail
  rw [← HW.out, ← HBr.out, ← HBf.out]
  have g0 := HU.out.bx.f0
  have g1 := HU.out.bx.f1
  have g2 := HU.out.bx.f2
  clear HW HU
  go_wp2_with fail
  go_fit (hz _)
  rintro e w1 ⟨rfl, rfl⟩
  clear hz
  go_wp2_with fail
  go_fit k5
  rintro e w2 ⟨v2, rfl, u2⟩
  have q0 := u2.bx.f0
  have q1 := u2.bx.f1
  have q2 := u2.bx.f2
  have HU2 : Hid _ := u2
  have HUD : Hid (∀ V, Below w2.heap.size w2 V → Uw S w v L Bf Br true (fr : Nat) (r : Nat) V v2 ([] ++ nb 2 2)) := fun V hV => HU2.out.below hV
  have hbD : Below w2.heap.size w2 w2.drew := (Below.refl _ _).drew
  have hNe : Br ≠ Bf := HNE.out
  clear k5 u2 g0 g1 g2
  go_wp2_with fail
  go_region_held3 (fun w' => w'.cell? ⟨Bf, 0, none⟩ = some (.bool true) ∧ w'.cell? ⟨Bf, 1, none⟩ = some (.int .i64 (fr : Nat)) ∧ w'.cell? ⟨Bf, 2, none⟩ = some (.int .i64 (r : Nat))) (first | exact ⟨q0, q1, q2⟩ | exact ⟨m0, m1, m2⟩ | exact ⟨(cell_far _ _ _ _ _ _ hNe).trans ((cell_far _ _ _ _ _ _ hNe).trans ((cell_far _ _ _ _ _ _ hNe).trans m0)), (cell_far _ _ _ _ _ _ hNe).trans ((cell_far _ _ _ _ _ _ hNe).trans ((cell_far _ _ _ _ _ _ hNe).trans m1)), (cell_far _ _ _ _ _ _ hNe).trans ((cell_far _ _ _ _ _ _ hNe).trans ((cell_far _ _ _ _ _ _ hNe).trans m2))⟩) (first | (go_at_call 39; go_fit (K6.out _ _ (HUD.out _ (by first | assumption | exact Below.refl _ _))); rintro z w4 ⟨v4, rfl, u4⟩; have m0 := u4.bx.f0; have m1 := u4.bx.f1; have m2 := u4.bx.f2; have n0 := u4.bx.r0; have n1 := u4.bx.r1; have n2 := u4.bx.r2; have nz := u4.bx.fz; have HR4 : Hid (VlR S v L x fr to w (.returned (.tuple #[v4, .agg #[.bool true, .int .i64 (fr : Nat), .int .i64 (r : Nat)]])) (st3 w4 Br true (fr : Nat) (r : Nat))) := HFin.out _ _ _ _ _ _ _ u4; clear u4 K6))
  all_goals
    obtain ⟨s0, s1, s2⟩ := st3_cells w4 Br true (fr : Nat) (r : Nat) _ _ _ n0 n1 n2
    have HW5 : Hid (st3 w4 Br true (fr : Nat) (r : Nat) = ((w4.setCell ⟨Br, 0, none⟩ (.bool true)).setCell ⟨Br, 1, none⟩ (.int .i64 (fr : Nat))).setCell ⟨Br, 2, none⟩ (.int .i64 (r : Nat))) := rfl
    rw [← HW5.out]
    clear HW5 m0 m1 m2 n0 n1 n2 nz q0 q1 q2 hbD HFin
    generalize st3 w4 Br true (fr : Nat) (r : Nat) = W5 at *
    go_wp2
    refine bodyPost_ret (v := .tuple #[v4, .agg #[.bool true, .int .i64 (fr : Nat), .int .i64 (r : Nat)]]) (by simp [results, Tryd.results42, go_sem, s0, s1, s2]) rfl HR4.out
end Go.Proofs.YtedlmjieclaojabDoor
