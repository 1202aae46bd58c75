/- rise and sink. -/
import Derived.Test.YtcgpjmpppajfdaaHc
namespace Go.Proofs.Ytcgpjmpppajfdaa
open Go.RowKit

set_option maxHeartbeats 4000000 in
set_option maxRecDepth 100000 in
theorem rise_any (A : Rk → Rk → Bool) (b bx g c n i0 : Nat) (lv : Value) (f : Nat → Rk) (w : World) (hA : AhC lv A) (h : Hp w b bx lv (.slice (some ⟨g, 0, none⟩) n c) n f) (hi : i0 < n) (hn : n ≤ 1152921504606846976) :
    Calls Try.prog 63 #[.pointer (some ⟨b, 0, none⟩), .int .i64 (i0 : Int)] w fun r w' => r = .returned (.tuple #[]) ∧ Hp w' b bx lv (.slice (some ⟨g, 0, none⟩) n c) n (riseF A f i0) ∧ Kp (· = g) w w' := by
  have hsi := @run_store_int Try.prog
  have H0 : Hid (Hp w b bx lv (.slice (some ⟨g, 0, none⟩) n c) n f) := h
  have HA : Hid (AhC lv A) := hA
  clear h hA
  go_enter Try.func63, Try.ntmps63
  go_wp2
  go_loopw [1] (fun iv w' => ∃ (i : Nat) (f1 : Nat → Rk), iv = .int .i64 (i : Int) ∧ i < n ∧ Hid (Hp w' b bx lv (.slice (some ⟨g, 0, none⟩) n c) n f1) ∧ Hid (riseF A f1 i = riseF A f i0) ∧ Hid (Kp (· = g) w w')) (fun iv _ => (RowKit.intOf iv).toNat)
  case atStart => exact ⟨i0, f, rfl, hi, H0, rfl, Kp.refl _ _⟩
  case round =>
    obtain ⟨i, f1, rfl, hi1, o, hr, hk⟩ := hrel
    by_cases hp : 0 < i
    · obtain ⟨p, hpp⟩ : ∃ p : Nat, p = (i - 1) / 2 := ⟨_, rfl⟩
      have hii : (0 : Int) < (i : Int) := by omega
      have hqu : ((i : Int) - 1).tdiv 2 = (p : Int) := by
        rw [hpp, Int.tdiv_eq_ediv_of_nonneg (by omega)]
        omega
      have hpn : p < n := by omega
      have hpl : p < i := by omega
      have HP : Hid (p = (i - 1) / 2) := hpp
      clear hpp
      have r : Rr wr g c n f1 := o.out.row
      have cl := o.out.ls
      have ca := o.out.ah
      have cb := o.out.bxc
      have c0 := r.c0 i hi1
      have c1 := r.c1 i hi1
      have c2 := r.c2 i hi1
      have d0 := r.c0 p hpn
      have d1 := r.c1 p hpn
      have d2 := r.c2 p hpn
      have kO := fun W hW => HA.out W bx hW (f1 i) (f1 p)
      have HY : Hid (A (f1 i) (f1 p) = true → riseF A (swp f1 i p) p = riseF A f i0) := fun e => by
        rw [← hr.out, riseF_yes A f1 i hp (by rw [← HP.out]; exact e), ← HP.out]
      have HZ : Hid (A (f1 i) (f1 p) = false → f1 = riseF A f i0) := fun e => by
        rw [← hr.out, riseF_no A f1 i (by rw [← HP.out]; exact e)]
      have HS : Hid (∀ W, Hp W b bx lv (.slice (some ⟨g, 0, none⟩) n c) n f1 → Hp (swW W g i p (f1 i) (f1 p)) b bx lv (.slice (some ⟨g, 0, none⟩) n c) n (swp f1 i p) ∧ Kp (· = g) W (swW W g i p (f1 i) (f1 p))) := fun W hW =>
        ⟨hW.rowed (swW_kp W g i p _ _ rfl) (Rr.swap (show Rr W g c n f1 from hW.row) i p hi1 hpn), swW_kp W g i p _ _ rfl⟩
      unfold swW seW at HS
      generalize A (f1 i) (f1 p) = F at *
      obtain ⟨⟨⟨xk, xi⟩, xr⟩, hx⟩ : ∃ x, f1 i = x := ⟨_, rfl⟩
      obtain ⟨⟨⟨yk, yi⟩, yr⟩, hy⟩ : ∃ x, f1 p = x := ⟨_, rfl⟩
      rw [hx] at c0 c1 c2 kO HS
      rw [hy] at d0 d1 d2 kO HS
      clear hx hy r hr
      dsimp only at c0 c1 c2 d0 d1 d2 HS
      have e0 := fun d os => cell_regrown c0 d os
      have e1 := fun d os => cell_regrown c1 d os
      have e2 := fun d os => cell_regrown c2 d os
      have g0 := fun d os => cell_regrown d0 d os
      have g1 := fun d os => cell_regrown d1 d os
      have g2 := fun d os => cell_regrown d2 d os
      have el := fun d os => cell_regrown cl d os
      have ea := fun d os => cell_regrown ca d os
      have cO := fun d os => Calls.regrown_of (kO (Go.Sort.grow (redrawn wr d) os) (cell_regrown cb d os))
      go_wp2_with fail
      refine wp_region_quiet_below (by kernel_rfl) (by kernel_rfl) ?_
      repeat (first | quiet_step (fail) | quiet_step (exact cO _ _))
      refine wpQuiet_nil ?_
      intro _ hw'
      obtain ⟨⟨dq, osq⟩, hw''⟩ := hw'
      subst hw''
      have hb := below_regrown wr dq osq
      have O2 := o.out.below hb
      have K2 : Hid (Kp (· = g) w (Go.Sort.grow (redrawn wr dq) osq)) := hk.out.trans (Kp.of hb)
      have D0 := e0 dq osq
      have D1 := e1 dq osq
      have D2 := e2 dq osq
      have D3 := g0 dq osq
      have D4 := g1 dq osq
      have D5 := g2 dq osq
      clear c0 c1 c2 d0 d1 d2 e0 e1 e2 g0 g1 g2 el ea cO kO cl ca cb o hb hk
      generalize Go.Sort.grow (redrawn wr dq) osq = W2 at *
      cases F with
      | true =>
        obtain ⟨O4, K4⟩ := HS.out W2 O2
        have r2 : Rr W2 g c n f1 := O2.row
        have cl := O2.ls
        have fz1 := r2.froz (i * 3)
        have fz2 := r2.froz (i * 3 + 1)
        have fz3 := r2.froz (i * 3 + 2)
        have fz4 := r2.froz (p * 3)
        have fz5 := r2.froz (p * 3 + 1)
        have fz6 := r2.froz (p * 3 + 2)
        have O5 : Hid _ := O4
        have K5 : Hid (Kp (· = g) w _) := K2.out.trans K4
        have HR := HY.out rfl
        have HR2 : Hid (riseF A (swp f1 i p) p = riseF A f i0) := HR
        clear O2 O4 K4 K2 HR HS HY HZ r2
        go_wp2_with fail
        go_region
        go_wp2
        exact ⟨⟨p, _, by go_num, hpn, O5, HR2, K5⟩, by simp [RowKit.intOf]; omega⟩
      | false =>
        have O3 : Hid (Hp W2 b bx lv (.slice (some ⟨g, 0, none⟩) n c) n (riseF A f i0)) := by rw [← HZ.out rfl]; exact O2
        clear O2 HY HZ HS
        go_wp2
        refine bodyPost_ret (results_none rfl _ _ _) rfl ?_
        exact ⟨rfl, O3.out, K2.out⟩
    · have hz : i = 0 := by omega
      subst hz
      have e : f1 = riseF A f i0 := by rw [← hr.out, riseF_zero]
      have O3 : Hid (Hp wr b bx lv (.slice (some ⟨g, 0, none⟩) n c) n (riseF A f i0)) := by rw [← e]; exact o
      clear o hr e
      go_wp2
      go_end0
      exact ⟨rfl, O3.out, hk.out⟩
end Go.Proofs.Ytcgpjmpppajfdaa
