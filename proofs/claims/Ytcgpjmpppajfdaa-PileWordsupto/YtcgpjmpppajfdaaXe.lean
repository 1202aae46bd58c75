
/- sink. -/
import Derived.Test.YtcgpjmpppajfdaaXc
namespace Go.Proofs.Ytcgpjmpppajfdaa.Ws.Rv
open Go.RowKit

set_option maxHeartbeats 4000000 in
set_option maxRecDepth 100000 in
theorem sink_any (A : Wk → Wk → Bool) (b bx g c n : Nat) (lv : Ev) (f : Nat → Wk) (w : World) (hA : AhC lv A) (h : Hp w b bx lv (.slice (some ⟨g, 0, none⟩) n c) n f) (hn : n ≤ 1152921504606846976) :
    Calls Try.prog 72 #[.pointer (some ⟨b, 0, none⟩)] w fun r w' => r = .returned (.tuple #[]) ∧ Hp w' b bx lv (.slice (some ⟨g, 0, none⟩) n c) n (sinkF A n f 0) ∧ Kp (· = g) w w' := by
  have hsi := @run_store_int Try.prog
  have hss := @run_store_string Try.prog
  have H0 : Hid (Hp w b bx lv (.slice (some ⟨g, 0, none⟩) n c) n f) := h
  have HA : Hid (AhC lv A) := hA
  have HN : Hid (n ≤ 1152921504606846976) := hn
  clear h hA
  go_enter Try.func72, Try.ntmps72
  go_wp2
  go_loopw [2, 3] (fun iv _ w' => ∃ (i : Nat) (f1 : Nat → Wk), iv = .int .i64 (i : Int) ∧ i ≤ n ∧ Hid (Hp w' b bx lv (.slice (some ⟨g, 0, none⟩) n c) n f1) ∧ Hid (sinkF A n f1 i = sinkF A n f 0) ∧ Hid (Kp (· = g) w w')) (fun iv _ _ => n - (RowKit.intOf iv).toNat)
  case atStart => exact ⟨0, f, rfl, by omega, H0, rfl, Kp.refl _ _⟩
  case round =>
    obtain ⟨i, f1, rfl, hi1, o, hr, hk⟩ := hrel
    have kU := under_any A b bx g c n i lv f1 wr HA.out o.out hi1 HN.out
    have hc := undr_cases A n f1 i
    have HR0 : Hid (undr A n f1 i = 0 → f1 = sinkF A n f 0) := fun e => by rw [← hr.out, sinkF_none A n f1 i e]
    have HY0 : Hid (undr A n f1 i ≠ 0 → A (f1 (undr A n f1 i)) (f1 i) = true → sinkF A n (swp f1 i (undr A n f1 i)) (undr A n f1 i) = sinkF A n f 0) := fun e e2 => by rw [← hr.out, sinkF_yes A n f1 i e e2]
    have HZ0 : Hid (undr A n f1 i ≠ 0 → A (f1 (undr A n f1 i)) (f1 i) = false → f1 = sinkF A n f 0) := fun e e2 => by rw [← hr.out, sinkF_no A n f1 i e e2]
    generalize undr A n f1 i = p at *
    clear hr
    go_wp2_with fail
    refine kU.mono ?_
    rintro r wa ⟨rfl, hba⟩
    have oa : Hid (Hp wa b bx lv (.slice (some ⟨g, 0, none⟩) n c) n f1) := o.out.below hba
    have ka : Hid (Kp (· = g) w wa) := hk.out.trans (Kp.of hba)
    clear o hk kU hba
    by_cases hp0 : p = 0
    · have O3 : Hid (Hp wa b bx lv (.slice (some ⟨g, 0, none⟩) n c) n (sinkF A n f 0)) := by rw [← HR0.out hp0]; exact oa
      subst hp0
      clear HR0 HY0 HZ0 hc oa
      go_wp2_with fail
      go_big_quiet (fail)
      have O4 : Hid (Hp (wa.drewN nq) b bx lv (.slice (some ⟨g, 0, none⟩) n c) n (sinkF A n f 0)) := O3.out.below (below_drewN (Below.refl _ _) nq)
      have K4 : Hid (Kp (· = g) w (wa.drewN nq)) := ka.out.trans (Kp.of (below_drewN (Below.refl _ _) nq))
      clear O3 ka
      generalize wa.drewN nq = W2 at *
      go_wp2
      refine bodyPost_ret (results_none rfl _ _ _) rfl ?_
      exact ⟨rfl, O4.out, K4.out⟩
    · have hpl : i < p ∧ p < n := by omega
      obtain ⟨hpl, hpn⟩ := hpl
      have hi2 : i < n := by omega
      have HPZ : Hid (((p : Int) == 0) = false) := by show _ = _; simp; omega
      have r : Rr wa g c n f1 := oa.out.row
      have cl := oa.out.ls
      have ca := oa.out.ah
      have cb := oa.out.bxc
      have c0 := r.c0 i hi2
      have c1 := r.c1 i hi2
      have d0 := r.c0 p hpn
      have d1 := r.c1 p hpn
      have kO := fun W hW => HA.out W bx hW (f1 p) (f1 i)
      have HY : Hid (A (f1 p) (f1 i) = true → sinkF A n (swp f1 i p) p = sinkF A n f 0) := fun e => HY0.out hp0 e
      have HZ : Hid (A (f1 p) (f1 i) = false → f1 = sinkF A n f 0) := fun e => HZ0.out hp0 e
      have HS : Hid (∀ W, Hp W b bx lv (.slice (some ⟨g, 0, none⟩) n c) n f1 → Hp (swW W g i p (f1 i) (f1 p)) b bx lv (.slice (some ⟨g, 0, none⟩) n c) n (swp f1 i p) ∧ Kp (· = g) W (swW W g i p (f1 i) (f1 p))) := fun W hW =>
        ⟨hW.rowed (swW_kp W g i p _ _ rfl) (Rr.swap (show Rr W g c n f1 from hW.row) i p hi2 hpn), swW_kp W g i p _ _ rfl⟩
      unfold swW seW at HS
      generalize A (f1 p) (f1 i) = F at *
      obtain ⟨⟨xs, xr⟩, hx⟩ : ∃ x, f1 i = x := ⟨_, rfl⟩
      obtain ⟨⟨ys, yr⟩, hy⟩ : ∃ x, f1 p = x := ⟨_, rfl⟩
      rw [hx] at c0 c1 kO HS
      rw [hy] at d0 d1 kO HS
      clear hx hy r hp0 hc HR0 HY0 HZ0
      dsimp only at c0 c1 d0 d1 HS
      have e0 := fun d os => cell_regrown c0 d os
      have e1 := fun d os => cell_regrown c1 d os
      have g0 := fun d os => cell_regrown d0 d os
      have g1 := fun d os => cell_regrown d1 d os
      have el := fun d os => cell_regrown cl d os
      have ea := fun d os => cell_regrown ca d os
      have cO := fun d os => Calls.regrown_of (kO (Go.Sort.grow (redrawn wa d) os) (bx_regrown cb d os))
      go_wp2_with fail
      have hpz := HPZ.out
      refine wp_region_quiet_below (by kernel_rfl) (by kernel_rfl) ?_
      repeat (first | quiet_step (fail) | quiet_step (exact cO _ _))
      refine wpQuiet_nil ?_
      intro _ hw'
      obtain ⟨⟨dq, osq⟩, hw''⟩ := hw'
      subst hw''
      have hb := below_regrown wa dq osq
      have O2 := oa.out.below hb
      have K2 : Hid (Kp (· = g) w (Go.Sort.grow (redrawn wa dq) osq)) := ka.out.trans (Kp.of hb)
      have D0 := e0 dq osq
      have D1 := e1 dq osq
      have D3 := g0 dq osq
      have D4 := g1 dq osq
      clear c0 c1 d0 d1 e0 e1 g0 g1 el ea cO kO cl ca cb oa hb ka
      generalize Go.Sort.grow (redrawn wa dq) osq = W2 at *
      cases F with
      | true =>
        obtain ⟨O4, K4⟩ := HS.out W2 O2
        have r2 : Rr W2 g c n f1 := O2.row
        have cl := O2.ls
        have fz1 := r2.froz (i * 2)
        have fz2 := r2.froz (i * 2 + 1)
        have fz4 := r2.froz (p * 2)
        have fz5 := r2.froz (p * 2 + 1)
        have O5 : Hid _ := O4
        have K5 : Hid (Kp (· = g) w _) := K2.out.trans K4
        have HR := HY.out rfl
        have HR2 : Hid (sinkF A n (swp f1 i p) p = sinkF A n f 0) := HR
        have HPN : Hid (p ≤ n) := Nat.le_of_lt hpn
        clear O2 O4 K4 K2 HR HS HY HZ r2
        go_wp2_with fail
        go_region
        go_wp2
        exact ⟨⟨p, _, by go_num, HPN, O5, HR2, K5⟩, by simp [RowKit.intOf]; omega⟩
      | false =>
        have O3 : Hid (Hp W2 b bx lv (.slice (some ⟨g, 0, none⟩) n c) n (sinkF A n f 0)) := by rw [← HZ.out rfl]; exact O2
        clear O2 HY HZ HS
        go_wp2
        refine bodyPost_ret (results_none rfl _ _ _) rfl ?_
        exact ⟨rfl, O3.out, K2.out⟩
end Go.Proofs.Ytcgpjmpppajfdaa.Ws.Rv
