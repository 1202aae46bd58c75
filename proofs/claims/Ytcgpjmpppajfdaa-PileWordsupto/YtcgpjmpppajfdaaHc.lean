/- under, rise, sink. -/
import Derived.Test.YtcgpjmpppajfdaaHa
namespace Go.Proofs.Ytcgpjmpppajfdaa
open Go.RowKit

set_option maxHeartbeats 2000000 in
set_option maxRecDepth 100000 in
theorem under_any (A : Rk → Rk → Bool) (b bx g c n i : Nat) (lv : Value) (f : Nat → Rk) (w : World) (hA : AhC lv A) (h : Hp w b bx lv (.slice (some ⟨g, 0, none⟩) n c) n f) (hi : i ≤ n) (hn : n ≤ 1152921504606846976) :
    Calls Try.prog 83 #[.pointer (some ⟨b, 0, none⟩), .int .i64 (i : Int)] w fun r w' => r = .returned (.int .i64 (undr A n f i : Nat)) ∧ Below w.heap.size w w' := by
  have cl := h.ls
  have ca := h.ah
  unfold undr
  by_cases h1 : n ≤ 2 * i + 1
  · rw [if_pos h1]
    have hii : (n : Int) ≤ 2 * (i : Int) + 1 := by omega
    clear h
    go_enter Try.func83, Try.ntmps83
    go_wp2
    go_ret
    exact ⟨rfl, Below.refl _ _⟩
  · rw [if_neg h1]
    have hii : ¬ (n : Int) ≤ 2 * (i : Int) + 1 := by omega
    by_cases h2 : 2 * i + 2 < n
    · obtain ⟨p, hp⟩ : ∃ p : Nat, p = 2 * i + 1 := ⟨_, rfl⟩
      obtain ⟨q, hq⟩ : ∃ q : Nat, q = 2 * i + 2 := ⟨_, rfl⟩
      have hpi : 2 * (i : Int) + 1 = (p : Int) := by omega
      have hqi : 2 * (i : Int) + 2 = (q : Int) := by omega
      have hpn : p < n := by omega
      have hqn : q < n := by omega
      rw [← hp, ← hq]
      have r : Rr w g c n f := h.row
      have c0 := r.c0 p hpn
      have c1 := r.c1 p hpn
      have c2 := r.c2 p hpn
      have d0 := r.c0 q hqn
      have d1 := r.c1 q hqn
      have d2 := r.c2 q hqn
      have kO := fun W hW => hA W bx hW (f q) (f p)
      have cb := h.bxc
      have HN : Hid (n ≤ 1152921504606846976) := hn
      have hii2 : ¬ (n : Int) ≤ (p : Int) := by omega
      have hq2 : (q : Int) < (n : Int) := by omega
      clear h r hp hq hii h1 h2
      generalize hF : A (f q) (f p) = F at *
      obtain ⟨⟨⟨pk, pi⟩, pr⟩, hx⟩ : ∃ x, f p = x := ⟨_, rfl⟩
      obtain ⟨⟨⟨qk, qi⟩, qr⟩, hy⟩ : ∃ x, f q = x := ⟨_, rfl⟩
      rw [hx] at c0 c1 c2 kO
      rw [hy] at d0 d1 d2 kO
      clear hx hy hF
      dsimp only at c0 c1 c2 d0 d1 d2
      obtain ⟨R, hR⟩ : ∃ R, (if q < n ∧ F = true then q else p) = R := ⟨_, rfl⟩
      rw [hR]
      have HR : Hid ((if q < n ∧ F = true then q else p) = R) := hR
      clear hR
      have e0 := fun d os => cell_regrown c0 d os
      have e1 := fun d os => cell_regrown c1 d os
      have e2 := fun d os => cell_regrown c2 d os
      have g0 := fun d os => cell_regrown d0 d os
      have g1 := fun d os => cell_regrown d1 d os
      have g2 := fun d os => cell_regrown d2 d os
      have el := fun d os => cell_regrown cl d os
      have ea := fun d os => cell_regrown ca d os
      have cO := fun d os => Calls.regrown_of (kO (Go.Sort.grow (redrawn w d) os) (cell_regrown cb d os))
      go_enter Try.func83, Try.ntmps83
      go_wp2_with fail
      refine wp_region_quiet_below (by kernel_rfl) (by kernel_rfl) ?_
      repeat (first | quiet_step (fail) | quiet_step (exact cO _ _))
      refine wpQuiet_nil ?_
      intro _ hw'
      obtain ⟨⟨dq, osq⟩, hw''⟩ := hw'
      subst hw''
      have hb := below_regrown w dq osq
      clear c0 c1 c2 d0 d1 d2 e0 e1 e2 g0 g1 g2 el ea cO kO cl ca
      generalize Go.Sort.grow (redrawn w dq) osq = W2 at *
      cases F with
      | true =>
        go_wp2
        go_ret
        have e := HR.out
        simp [hqn] at e
        exact ⟨by rw [← e]; rfl, hb⟩
      | false =>
        go_wp2
        go_ret
        have e := HR.out
        simp at e
        exact ⟨by rw [← e]; rfl, hb⟩
    · rw [if_neg (fun x => h2 x.1)]
      obtain ⟨p, hp⟩ : ∃ p : Nat, p = 2 * i + 1 := ⟨_, rfl⟩
      obtain ⟨q, hq⟩ : ∃ q : Nat, q = 2 * i + 2 := ⟨_, rfl⟩
      have hpi : 2 * (i : Int) + 1 = (p : Int) := by omega
      have hqi : 2 * (i : Int) + 2 = (q : Int) := by omega
      have hii2 : ¬ (n : Int) ≤ (p : Int) := by omega
      have HQ : Hid (¬ q < n) := by show ¬ _; omega
      rw [← hp]
      have HN : Hid (n ≤ 1152921504606846976) := hn
      have el := fun d os => cell_regrown cl d os
      have hqb : (q : Int) ≤ 2305843009213693954 := by omega
      clear h hp hq hii h1 h2
      go_enter Try.func83, Try.ntmps83
      go_wp2_with fail
      have hd : decide (q < n) = false := decide_eq_false HQ.out
      go_big_quiet (fail)
      have hb := below_drewN (Below.refl w.heap.size w) nq
      generalize w.drewN nq = W2 at *
      clear cl ca el
      go_wp2
      go_ret
      exact ⟨rfl, hb⟩
end Go.Proofs.Ytcgpjmpppajfdaa
