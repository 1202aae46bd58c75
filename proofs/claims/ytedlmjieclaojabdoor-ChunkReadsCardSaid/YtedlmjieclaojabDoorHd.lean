/- The reference's reader: value, its walk. -/
import Derived.Test.YtedlmjieclaojabDoorHc
namespace Go.Proofs.YtedlmjieclaojabDoor
open Go.RowKit

theorem VqR.drew {B c : Nat} {a0 : Option Addr} {xs : List Int} {s : Rs} {w w' : World} {e : Ending} (h : VqR B c a0 xs s w e w') : VqR B c a0 xs s w e w'.drew := by
  obtain ⟨x, fr, to, p, b, h1, h2, h3, h4⟩ := h
  exact ⟨x, fr, to, p, b, h1, h2.below (Below.refl _ _).drew, h3.drew, h4⟩
theorem rdV_0 (B : Nat → Nat) (N : Nat) (s : Rs) (h : (wyF B N 3 s.p).1 = 0) : rdV B N s = rdW B N s ∧ rdS B N s = false ∧ rfX B N s = false := by
  unfold rdV rdS rfX
  rw [h]
  exact ⟨rfl, rfl, rfl⟩
theorem rdV_3 (B : Nat → Nat) (N : Nat) (s : Rs) (h : (wyF B N 3 s.p).1 = 3) : rdV B N s = rdW B N s ∧ rdS B N s = true ∧ rfX B N s = false := by
  unfold rdV rdS rfX
  rw [h]
  exact ⟨rfl, rfl, rfl⟩
theorem rdV_1 (B : Nat → Nat) (N : Nat) (s : Rs) (h : (wyF B N 3 s.p).1 = 1) : rdV B N s = rdX B N (rdW B N s) ∧ rdS B N s = false ∧ rfX B N s = decide (s.r.to = 0) := by
  unfold rdV rdS rfX
  rw [h]
  exact ⟨rfl, rfl, by simp⟩
theorem rdV_2 (B : Nat → Nat) (N : Nat) (s : Rs) (h : (wyF B N 3 s.p).1 = 2) : rdV B N s = rdX B N (rdFr B N (rdW B N s)) ∧ rdS B N s = false ∧ rfX B N s = decide (64 < rdF1 B N (rdW B N s)) := by
  unfold rdV rdS rfX
  rw [h]
  exact ⟨rfl, rfl, by simp⟩
theorem shl_u64 (V r : Nat) (A : Int) (hA : A = (V : Int) * 2 ^ r) : IntKind.u64.wrap A = ((V * 2 ^ r % 18446744073709551616 : Nat) : Int) := by
  rw [IntKind.wrap_u64, hA]
  simp
set_option maxHeartbeats 4000000 in
set_option maxRecDepth 100000 in
/-- The ways 0 and 3: nothing more is read. -/
theorem rvalue_03 (B c : Nat) (a0 : Option Addr) (xs : List Int) (s : Rs) (w : World) (h : Rq w B a0 c xs s.p s.b) (ag : ∀ g o, a0 = some ⟨g, o, none⟩ → g < w.heap.size) (hx : By xs) (hN : xs.length ≤ 140737488355328) (hfr : (s.r.fr = 0 ∧ s.r.to = 0) ∨ (s.r.fr < s.r.to ∧ s.r.to ≤ 64)) (k : Nat) (sb : Bool) (hk : (wyF (bt 8 xs) (8 * xs.length) 3 s.p).1 = k) (hk03 : (k = 0 ∧ sb = false) ∨ (k = 3 ∧ sb = true)) :
    Calls Tryd.prog 29 #[.pointer (some ⟨B, 0, none⟩), frV s.r.fr s.r.to] w (VqR B c a0 xs s w) := by
  have hU := ux_new h ag (isF s.r.to) (s.r.fr : Nat) (rF s.r.to : Nat)
  have HFin : Hid (∀ W, Rq W B a0 c xs (wyF (bt 8 xs) (8 * xs.length) 3 s.p).2.1 (s.b || (wyF (bt 8 xs) (8 * xs.length) 3 s.p).2.2) → Kp (fun k => k = B) w W → VqR B c a0 xs s w (.returned (.tuple #[.int .u64 0, .bool sb, .agg #[.bool (isF s.r.to), .int .i64 (s.r.fr : Nat), .int .i64 (rF s.r.to : Nat)]])) W) := fun W h1 h2 => by
    have e3 : rdV (bt 8 xs) (8 * xs.length) s = rdW (bt 8 xs) (8 * xs.length) s ∧ rdS (bt 8 xs) (8 * xs.length) s = sb ∧ rfX (bt 8 xs) (8 * xs.length) s = false := by
      rcases hk03 with ⟨rfl, rfl⟩ | ⟨rfl, rfl⟩
      · exact rdV_0 _ _ s hk
      · exact rdV_3 _ _ s hk
    obtain ⟨f1, f2, f3⟩ := e3
    refine ⟨0, s.r.fr, s.r.to, _, _, ?_, h1, h2, by decide, hfr, ?_, ?_⟩
    · rw [f2]; rfl
    · rw [f3, f1]; rfl
    · intro hb
      rw [f1]
      unfold rdW
      rw [hb, Nat.xor_zero]
  have k1 := fun (W : World) (hW : Rq W B a0 c xs s.p s.b) => ones_any B c a0 xs s.p s.b 3 W hW hx (by decide) hN
  rw [hk] at k1
  generalize (wyF (bt 8 xs) (8 * xs.length) 3 s.p).2.1 = q at *
  generalize (wyF (bt 8 xs) (8 * xs.length) 3 s.p).2.2 = xb at *
  obtain ⟨W, hW⟩ : ∃ W, W = (w.alloc (.cells #[.bool (isF s.r.to), .int .i64 (s.r.fr : Nat), .int .i64 (rF s.r.to : Nat)] 78)).alloc (.cells #[.bool false, .int .i64 0, .int .i64 0] 78) := ⟨_, rfl⟩
  have HW : Hid (W = (w.alloc (.cells #[.bool (isF s.r.to), .int .i64 (s.r.fr : Nat), .int .i64 (rF s.r.to : Nat)] 78)).alloc (.cells #[.bool false, .int .i64 0, .int .i64 0] 78)) := hW
  obtain ⟨Br, hBr⟩ : ∃ Br, Br = w.heap.size + 1 := ⟨_, rfl⟩
  obtain ⟨Bf, hBf⟩ : ∃ Bf, Bf = w.heap.size := ⟨_, rfl⟩
  rw [← hW, ← hBr, ← hBf] at hU
  have HBr : Hid (Br = w.heap.size + 1) := hBr
  have HBf : Hid (Bf = w.heap.size) := hBf
  have HU : Hid _ := hU
  have k2 := k1 W hU.rq
  show Calls Tryd.prog 29 #[.pointer (some ⟨B, 0, none⟩), .agg #[.bool (isF s.r.to), .int .i64 (s.r.fr : Nat), .int .i64 (rF s.r.to : Nat)]] w (VqR B c a0 xs s w)
  clear k1 h ag hx hN hfr hk hW hBr hBf hU
  generalize isF s.r.to = bb at *
  generalize ((s.r.fr : Nat) : Int) = l at *
  generalize ((rF s.r.to : Nat) : Int) = r at *
  rcases hk03 with ⟨rfl, rfl⟩ | ⟨rfl, rfl⟩
  case' inl => obtain ⟨sb, hsb⟩ : ∃ sb, sb = false := ⟨_, rfl⟩
  case' inr => obtain ⟨sb, hsb⟩ : ∃ sb, sb = true := ⟨_, rfl⟩
  all_goals
    rw [← hsb] at HFin
    have HSB : Hid _ := hsb
    clear hsb
    go_enter Tryd.func29, Tryd.ntmps29
    go_upto_region 1 with fail
    rw [← HW.out, ← HBr.out, ← HBf.out]
    go_wp2_with fail
    go_fit k2
    rintro e w1 ⟨rfl, h1, q1⟩
    have u1 := HU.out.step h1 q1
    have m0 := u1.bx.f0
    have m1 := u1.bx.f1
    have m2 := u1.bx.f2
    have n0 := u1.bx.r0
    have n1 := u1.bx.r1
    have n2 := u1.bx.r2
    have nz := u1.bx.fz
    have HUF : Hid (Rq (st3 w1 Br bb l r) B a0 c xs q (s.b || xb) ∧ Kp (fun k => k = B) w (st3 w1 Br bb l r)) := u1.fin bb l r
    obtain ⟨s0, s1, s2⟩ := st3_cells w1 Br bb l r _ _ _ n0 n1 n2
    have HW5 : Hid (st3 w1 Br bb l r = ((w1.setCell ⟨Br, 0, none⟩ (.bool bb)).setCell ⟨Br, 1, none⟩ (.int .i64 l)).setCell ⟨Br, 2, none⟩ (.int .i64 r)) := rfl
    have HFR : Hid (VqR B c a0 xs s w (.returned (.tuple #[.int .u64 0, .bool sb, .agg #[.bool bb, .int .i64 l, .int .i64 r]])) (st3 w1 Br bb l r)) := HFin.out _ HUF.out.1 HUF.out.2
    clear k2 h1 q1 u1 HU HW HFin HUF
    go_wp2_with fail
    go_region
    rw [← HW5.out]
    clear HW5 m0 m1 m2 n0 n1 n2 nz
    generalize st3 w1 Br bb l r = W5 at *
    have s0' : W5.drew.cell? ⟨Br, 0, none⟩ = some (.bool bb) := s0
    have s1' : W5.drew.cell? ⟨Br, 1, none⟩ = some (.int .i64 l) := s1
    have s2' : W5.drew.cell? ⟨Br, 2, none⟩ = some (.int .i64 r) := s2
    have HSV := HSB.out
    subst HSV
    go_wp2
    exact bodyPost_ret (v := .tuple #[.int .u64 0, .bool _, .agg #[.bool bb, .int .i64 l, .int .i64 r]]) (by simp [results, Tryd.results29, go_sem, s0', s1', s2']) rfl HFR.out.drew
end Go.Proofs.YtedlmjieclaojabDoor
