/- The reference: value, where a new frame is told. -/
import Derived.Test.YtedlmjieclaojabDoorRe
namespace Go.Proofs.YtedlmjieclaojabDoor
open Go.RowKit

set_option maxHeartbeats 8000000 in
set_option maxRecDepth 100000 in
theorem value_new (S : Nat) (v : Value) (L : List Int) (x fr to : Nat) (w : World) (h : Rw S w v L) (hL : L.length + 300 ≤ 140737488355328) (h0 : x ≠ 0) (hx : x < 18446744073709551616) (hfr : (fr = 0 ∧ to = 0) ∨ (fr < to ∧ to ≤ 64)) (hc : cov x fr to = false) :
    Calls Tryd.prog 42 #[v, .int .u64 (x : Nat), frV fr to] w (VlR S v L x fr to w) := by
  have hz := fun W => zeros_any x W (by omega) hx
  obtain ⟨e1, e2, e3⟩ := vluN x fr to h0 hx hc
  have hlt := lt_spec x (by omega) hx
  have hI2 : isF (64 - tz x) = true := decide_eq_true (by omega)
  have hR2 : rF (64 - tz x) = tz x := by unfold rF; rw [if_neg (by omega)]; omega
  have hcases : isF to = false ∨ (isF to = true ∧ ¬ (fr : Int) ≤ (lz x : Nat)) ∨ (isF to = true ∧ (fr : Int) ≤ (lz x : Nat) ∧ ¬ (rF to : Int) ≤ (tz x : Nat)) := by
    rcases hfr with ⟨_, h⟩ | ⟨h1, h2⟩
    · left; rw [h]; decide
    · right
      have hi : isF to = true := decide_eq_true (by omega)
      have hr : rF to = 64 - to := by unfold rF; rw [if_neg (by omega)]
      have hc' : ¬ (fr ≤ lz x ∧ 64 - tz x ≤ to) := by
        intro hh
        have : cov x fr to = true := by simpa [cov] using hh
        rw [hc] at this; cases this
      rw [hr]
      by_cases hl : fr ≤ lz x
      · exact .inr ⟨hi, by omega, by omega⟩
      · exact .inl ⟨hi, by omega⟩
  have hU := uw_new h (isF to) (fr : Nat) (rF to : Nat)
  have HFin : Hid (∀ (W : World) (v1 : Value) (b : Bool) (l r : Int) (Bf Br : Nat), Uw S w v L Bf Br b l r W v1 (((([] ++ nb 6 3) ++ nb (lz x) 6) ++ nb (63 - lz x - tz x) 6) ++ nb (x / 2 ^ tz x) (64 - lz x - tz x)) → VlR S v L x fr to w (.returned (.tuple #[v1, .agg #[.bool true, .int .i64 (lz x : Nat), .int .i64 (tz x : Nat)]])) (st3 W Br true (lz x : Nat) (tz x : Nat))) := fun W v1 b l r Bf Br u => by
    obtain ⟨h1, h2, h3⟩ := u.fin true (lz x : Nat) (tz x : Nat) x fr to (by rw [List.nil_append, e1])
    refine ⟨v1, ?_, h1, h2, h3⟩
    show _ = Ending.returned (.tuple #[v1, .agg #[.bool (isF (vto x fr to)), .int .i64 (vfr x fr to : Nat), .int .i64 (rF (vto x fr to) : Nat)]])
    rw [e2, e3, hI2, hR2]
  obtain ⟨a, c, hv⟩ := h.form
  have HV : Hid (v = .slice a L.length c) := hv
  obtain ⟨W, hW⟩ : ∃ W, W = (w.alloc (.cells #[.bool (isF to), .int .i64 (fr : Nat), .int .i64 (rF to : Nat)] 78)).alloc (.cells #[.bool false, .int .i64 0, .int .i64 0] 78) := ⟨_, rfl⟩
  have HW : Hid (W = (w.alloc (.cells #[.bool (isF to), .int .i64 (fr : Nat), .int .i64 (rF to : Nat)] 78)).alloc (.cells #[.bool false, .int .i64 0, .int .i64 0] 78)) := hW
  obtain ⟨Br, hBr⟩ : ∃ Br, Br = w.heap.size + 1 := ⟨_, rfl⟩
  obtain ⟨Bf, hBf⟩ : ∃ Bf, Bf = w.heap.size := ⟨_, rfl⟩
  rw [← hW, ← hBr, ← hBf] at hU
  have HBr : Hid (Br = w.heap.size + 1) := hBr
  have HBf : Hid (Bf = w.heap.size) := hBf
  have HU : Hid _ := hU
  have HLL : Hid (L.length + 300 ≤ 140737488355328) := hL
  have k5 : Calls Tryd.prog 39 #[v, .int .u64 6, .int .i64 3] W fun e w' => ∃ v2, e = .returned v2 ∧ Uw S w v L Bf Br (isF to) (fr : Nat) (rF to : Nat) w' v2 ([] ++ nb 6 3) := HU.out.num 6 3 (by decide) (by decide) (by simp) hL
  have hxd : x / 2 ^ tz x < 18446744073709551616 := Nat.lt_of_le_of_lt (Nat.div_le_self _ _) hx
  have K6 : Hid (∀ V v1, Uw S w v L Bf Br (isF to) (fr : Nat) (rF to : Nat) V v1 ([] ++ nb 6 3) → Calls Tryd.prog 39 #[v1, .int .u64 (lz x : Nat), .int .i64 6] V fun e w' => ∃ v2, e = .returned v2 ∧ Uw S w v L Bf Br (isF to) (fr : Nat) (rF to : Nat) w' v2 (([] ++ nb 6 3) ++ nb (lz x) 6)) := fun V v1 u => u.num _ 6 (by omega) (by decide) (by simp only [List.length_append, List.length_nil, nb_len]; decide) hL
  have K7 : Hid (∀ V v1, Uw S w v L Bf Br (isF to) (fr : Nat) (rF to : Nat) V v1 (([] ++ nb 6 3) ++ nb (lz x) 6) → Calls Tryd.prog 39 #[v1, .int .u64 ((63 - lz x - tz x : Nat) : Int), .int .i64 6] V fun e w' => ∃ v2, e = .returned v2 ∧ Uw S w v L Bf Br (isF to) (fr : Nat) (rF to : Nat) w' v2 ((([] ++ nb 6 3) ++ nb (lz x) 6) ++ nb (63 - lz x - tz x) 6)) := fun V v1 u => u.num _ 6 (by omega) (by decide) (by simp only [List.length_append, List.length_nil, nb_len]; decide) hL
  have K8 : Hid (∀ V v1, Uw S w v L Bf Br (isF to) (fr : Nat) (rF to : Nat) V v1 ((([] ++ nb 6 3) ++ nb (lz x) 6) ++ nb (63 - lz x - tz x) 6) → Calls Tryd.prog 39 #[v1, .int .u64 ((x / 2 ^ tz x : Nat) : Int), .int .i64 ((64 - lz x - tz x : Nat) : Int)] V fun e w' => ∃ v2, e = .returned v2 ∧ Uw S w v L Bf Br (isF to) (fr : Nat) (rF to : Nat) w' v2 (((([] ++ nb 6 3) ++ nb (lz x) 6) ++ nb (63 - lz x - tz x) 6) ++ nb (x / 2 ^ tz x) (64 - lz x - tz x))) := fun V v1 u => u.num _ _ hxd (by omega) (by simp only [List.length_append, List.length_nil, nb_len]; decide) hL
  show Calls Tryd.prog 42 #[v, .int .u64 (x : Nat), .agg #[.bool (isF to), .int .i64 (fr : Nat), .int .i64 (rF to : Nat)]] w (VlR S v L x fr to w)
  have y1 : IntKind.i64.wrap ((63 : Int) - (lz x : Nat)) = 63 - (lz x : Nat) := by rw [IntKind.wrap_i64]; omega
  have y2 : IntKind.i64.wrap ((63 : Int) - (lz x : Nat) - (tz x : Nat)) = ((63 - lz x - tz x : Nat) : Int) := by rw [IntKind.wrap_i64]; omega
  have y3 : IntKind.i64.wrap ((64 : Int) - (lz x : Nat)) = 64 - (lz x : Nat) := by rw [IntKind.wrap_i64]; omega
  have y4 : IntKind.i64.wrap ((64 : Int) - (lz x : Nat) - (tz x : Nat)) = ((64 - lz x - tz x : Nat) : Int) := by rw [IntKind.wrap_i64]; omega
  have y5 : (63 : Int) - (lz x : Nat) - (tz x : Nat) = ((63 - lz x - tz x : Nat) : Int) := by omega
  have y6 : (64 : Int) - (lz x : Nat) - (tz x : Nat) = ((64 - lz x - tz x : Nat) : Int) := by omega
  have y7 : (lz x : Int) < 64 := by omega
  have y8 : (tz x : Int) < 64 := by omega
  have y9 : IntKind.u64.wrap (lz x : Nat) = (lz x : Nat) := by rw [IntKind.wrap_u64]; omega
  have y10 : IntKind.u64.wrap ((63 - lz x - tz x : Nat) : Int) = ((63 - lz x - tz x : Nat) : Int) := by rw [IntKind.wrap_u64]; omega
  have y11 : IntKind.i64.wrap ((63 - lz x - tz x : Nat) : Int) = ((63 - lz x - tz x : Nat) : Int) := by rw [IntKind.wrap_i64]; omega
  have y12 : IntKind.i64.wrap ((64 - lz x - tz x : Nat) : Int) = ((64 - lz x - tz x : Nat) : Int) := by rw [IntKind.wrap_i64]; omega
  obtain ⟨X, hX⟩ : ∃ X : Int, X = (x : Nat) := ⟨_, rfl⟩
  have hX0 : 0 ≤ X := by omega
  have hX1 : X ≤ 18446744073709551615 := by omega
  have hXz : (X == 0) = false := by simp; omega
  have hXd : X / 2 ^ tz x = ((x / 2 ^ tz x : Nat) : Int) := by rw [hX]; simp
  rw [← hX] at hz ⊢
  clear hv h hW hBr hBf hU hX hc hI2 hR2 e1 e2 e3 h0 hx hxd hlt hL hfr
  generalize lz x = lx at *
  generalize tz x = tx at *
  generalize 63 - lx - tx = n1 at *
  generalize 64 - lx - tx = n2 at *
  generalize x / 2 ^ tx = xr at *
  generalize isF to = b at *
  generalize ((rF to : Nat) : Int) = r at *
  generalize hl : ((fr : Nat) : Int) = l at *
  clear hl
  obtain ⟨XR, hXR⟩ : ∃ XR : Int, XR = (xr : Nat) := ⟨_, rfl⟩
  rw [← hXR] at K8 hXd
  have hXR0 : 0 ≤ XR := by omega
  clear hXR
  go_enter Tryd.func42, Tryd.ntmps42
  go_upto_region 1 with fail
  rw [← HW.out, ← HBr.out, ← HBf.out]
  have g0 := HU.out.bx.f0
  have g1 := HU.out.bx.f1
  have g2 := HU.out.bx.f2
  clear HW HU
  go_wp2_with fail
  go_fit (hz _)
  rintro e w1 ⟨rfl, rfl⟩
  clear hz
  rcases hcases with rfl | ⟨rfl, q1⟩ | ⟨rfl, q1, q2⟩
  all_goals
    go_wp2_with fail
    go_fit k5
    rintro e w2 ⟨v2, rfl, u2⟩
    have k6 := K6.out _ _ u2
    clear k5 u2 g0 g1 g2 K6
    go_wp2_with fail
    go_fit k6
    rintro e w3 ⟨v3, rfl, u3⟩
    have k7 := K7.out _ _ u3
    clear k6 u3 K7
    go_wp2_with fail
    go_fit k7
    rintro e w4 ⟨v4, rfl, u4⟩
    have k8 := K8.out _ _ u4
    clear k7 u4 K8
    go_wp2_with fail
    go_fit k8
    rintro e w5 ⟨v5, rfl, u5⟩
    have n0 := u5.bx.r0
    have n1 := u5.bx.r1
    have n2 := u5.bx.r2
    have nz := u5.bx.fz
    have HR4 : Hid (VlR S v L x fr to w (.returned (.tuple #[v5, .agg #[.bool true, .int .i64 (lx : Nat), .int .i64 (tx : Nat)]])) (st3 w5 Br true (lx : Nat) (tx : Nat))) := HFin.out _ _ _ _ _ _ _ u5
    obtain ⟨s0, s1, s2⟩ := st3_cells w5 Br true (lx : Nat) (tx : Nat) _ _ _ n0 n1 n2
    have HW5 : Hid (st3 w5 Br true (lx : Nat) (tx : Nat) = ((w5.setCell ⟨Br, 0, none⟩ (.bool true)).setCell ⟨Br, 1, none⟩ (.int .i64 (lx : Nat))).setCell ⟨Br, 2, none⟩ (.int .i64 (tx : Nat))) := rfl
    clear k8 u5 HFin
    go_wp2
    rw [← HW5.out]
    refine bodyPost_ret (v := .tuple #[v5, .agg #[.bool true, .int .i64 (lx : Nat), .int .i64 (tx : Nat)]]) (by simp [results, Tryd.results42, go_sem, s0, s1, s2]) rfl HR4.out
end Go.Proofs.YtedlmjieclaojabDoor
