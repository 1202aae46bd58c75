/- The reference: value, its walk. -/
import Derived.Test.YtedlmjieclaojabDoorRd
namespace Go.Proofs.YtedlmjieclaojabDoor
open Go.RowKit

theorem uw_new {S : Nat} {w : World} {v : Value} {L : List Int} (h : Rw S w v L) (b : Bool) (l r : Int) :
    Uw S w v L w.heap.size (w.heap.size + 1) b l r ((w.alloc (.cells #[.bool b, .int .i64 l, .int .i64 r] 78)).alloc (.cells #[.bool false, .int .i64 0, .int .i64 0] 78)) v [] := by
  have b1 : Below w.heap.size w (w.alloc (.cells #[.bool b, .int .i64 l, .int .i64 r] 78)) := (Below.refl _ _).alloc (Nat.le_refl _) _
  have b2 : Below w.heap.size w ((w.alloc (.cells #[.bool b, .int .i64 l, .int .i64 r] 78)).alloc (.cells #[.bool false, .int .i64 0, .int .i64 0] 78)) := b1.alloc (by simp) _
  refine ⟨by rw [List.append_nil]; exact h.below b2, Sub.refl _ _, Kp.of b2, ⟨by simp, by simp, by simp, by simp, by simp, by simp, fun i => by simp⟩, fun e => ?_, fun e => ?_, Nat.le_refl _, Nat.le_succ _⟩
  · have := (h.base _ e).2; omega
  · have := (h.base _ e).2; omega

theorem st3_cells (W : World) (Br : Nat) (b : Bool) (l r : Int) (u0 u1 u2 : Value) (n0 : W.cell? ⟨Br, 0, none⟩ = some u0) (n1 : W.cell? ⟨Br, 1, none⟩ = some u1) (n2 : W.cell? ⟨Br, 2, none⟩ = some u2) :
    (st3 W Br b l r).cell? ⟨Br, 0, none⟩ = some (.bool b) ∧ (st3 W Br b l r).cell? ⟨Br, 1, none⟩ = some (.int .i64 l) ∧ (st3 W Br b l r).cell? ⟨Br, 2, none⟩ = some (.int .i64 r) := by
  unfold st3
  refine ⟨?_, ?_, ?_⟩
  · rw [cell_off _ _ _ _ _ (by omega), cell_off _ _ _ _ _ (by omega)]
    exact same_c _ _ _ _ _ n0
  · rw [cell_off _ _ _ _ _ (by omega)]
    refine same_c _ _ _ _ u1 ?_
    rw [cell_off _ _ _ _ _ (by omega)]
    exact n1
  · refine same_c _ _ _ _ u2 ?_
    rw [cell_off _ _ _ _ _ (by omega), cell_off _ _ _ _ _ (by omega)]
    exact n2
set_option maxHeartbeats 4000000 in
set_option maxRecDepth 100000 in
theorem value_zero (S : Nat) (v : Value) (L : List Int) (fr to : Nat) (w : World) (h : Rw S w v L) (hL : L.length + 300 ≤ 140737488355328) :
    Calls Tryd.prog 42 #[v, .int .u64 0, frV fr to] w (VlR S v L 0 fr to w) := by
  have hU := uw_new h (isF to) (fr : Nat) (rF to : Nat)
  have HFin : Hid (∀ (W : World) (v1 : Value) (b : Bool) (l r : Int) (Bf Br : Nat), Uw S w v L Bf Br b l r W v1 ([] ++ nb 0 1) → VlR S v L 0 fr to w (.returned (.tuple #[v1, .agg #[.bool (isF to), .int .i64 (fr : Nat), .int .i64 (rF to : Nat)]])) (st3 W Br (isF to) (fr : Nat) (rF to : Nat))) := fun W v1 b l r Bf Br u => by
    obtain ⟨h1, h2, h3⟩ := u.fin (isF to) (fr : Nat) (rF to : Nat) 0 fr to (by rw [List.nil_append, vlu0])
    refine ⟨v1, ?_, h1, h2, h3⟩
    unfold vfr vto
    rw [if_pos rfl, if_pos rfl]
  obtain ⟨a, c, hv⟩ := h.form
  have HV : Hid (v = .slice a L.length c) := hv
  obtain ⟨W, hW⟩ : ∃ W, W = (w.alloc (.cells #[.bool (isF to), .int .i64 (fr : Nat), .int .i64 (rF to : Nat)] 78)).alloc (.cells #[.bool false, .int .i64 0, .int .i64 0] 78) := ⟨_, rfl⟩
  have HW : Hid (W = (w.alloc (.cells #[.bool (isF to), .int .i64 (fr : Nat), .int .i64 (rF to : Nat)] 78)).alloc (.cells #[.bool false, .int .i64 0, .int .i64 0] 78)) := hW
  obtain ⟨Br, hBr⟩ : ∃ Br, Br = w.heap.size + 1 := ⟨_, rfl⟩
  obtain ⟨Bf, hBf⟩ : ∃ Bf, Bf = w.heap.size := ⟨_, rfl⟩
  rw [← hW, ← hBr, ← hBf] at hU
  have HBr : Hid (Br = w.heap.size + 1) := hBr
  have HBf : Hid (Bf = w.heap.size) := hBf
  have HU : Hid _ := hU
  have K : Hid (∀ V, Below W.heap.size W V → Calls Tryd.prog 39 #[v, .int .u64 0, .int .i64 1] V fun e w' => ∃ v2, e = .returned v2 ∧ Uw S w v L Bf Br (isF to) (fr : Nat) (rF to : Nat) w' v2 ([] ++ nb 0 1)) := fun V hV => (HU.out.below hV).num 0 1 (by decide) (by decide) (by simp) hL
  have HN : Hid (¬ Bf = Br) := by show ¬ _; omega
  clear hv h hW hBr hBf hU
  show Calls Tryd.prog 42 #[v, .int .u64 0, .agg #[.bool (isF to), .int .i64 (fr : Nat), .int .i64 (rF to : Nat)]] w (VlR S v L 0 fr to w)
  generalize isF to = b at *
  generalize ((fr : Nat) : Int) = l at *
  generalize ((rF to : Nat) : Int) = r at *
  go_enter Tryd.func42, Tryd.ntmps42
  go_upto_region 1 with fail
  rw [← HW.out, ← HBr.out, ← HBf.out]
  have g0 := HU.out.bx.f0
  have g1 := HU.out.bx.f1
  have g2 := HU.out.bx.f2
  have hbD : Below W.heap.size W W.drew := (Below.refl _ _).drew
  have hbR : Below W.heap.size W W := Below.refl _ _
  clear HW HU
  go_wp2_with fail
  go_region_with (first | (go_at_call 39; go_fit (K.out _ (by assumption)); rintro z w4 ⟨v4, rfl, u4⟩; have m0 := u4.bx.f0; have m1 := u4.bx.f1; have m2 := u4.bx.f2; have n0 := u4.bx.r0; have n1 := u4.bx.r1; have n2 := u4.bx.r2; have nz := u4.bx.fz; have HR4 : Hid (VlR S v L 0 fr to w (.returned (.tuple #[v4, .agg #[.bool b, .int .i64 l, .int .i64 r]])) (st3 w4 Br b l r)) := HFin.out _ _ _ _ _ _ _ u4; clear u4 K))
  all_goals
    obtain ⟨s0, s1, s2⟩ := st3_cells w4 Br b l r _ _ _ n0 n1 n2
    have HW5 : Hid (st3 w4 Br b l r = ((w4.setCell ⟨Br, 0, none⟩ (.bool b)).setCell ⟨Br, 1, none⟩ (.int .i64 l)).setCell ⟨Br, 2, none⟩ (.int .i64 r)) := rfl
    rw [← HW5.out]
    clear HW5 m0 m1 m2 n0 n1 n2 nz g0 g1 g2 hbD hbR HFin
    generalize st3 w4 Br b l r = W5 at *
    go_wp2
    refine bodyPost_ret (v := .tuple #[v4, .agg #[.bool b, .int .i64 l, .int .i64 r]]) (by simp [results, Tryd.results42, go_sem, s0, s1, s2]) rfl HR4.out
end Go.Proofs.YtedlmjieclaojabDoor
