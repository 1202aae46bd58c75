/- A row of buckets sorted in place: by insertion. -/
import Derived.Test.YtfjfpplemgjcmabBy
namespace Go.Proofs.Ytfjfpplemgjcmab
open Go.RowKit

set_option maxHeartbeats 2000000 in
set_option maxRecDepth 100000 in
theorem insSortB_any (S g c n a b : Nat) (f : Nat → Bk) (w : World) (h : Rb w S g c n f) (hab : a ≤ b) (hbn : b ≤ n) (hn : n ≤ 2305843009213693952) :
    Calls Try.prog 124 #[.slice (some ⟨g, 0, none⟩) n c, .int .i64 (a : Int), .int .i64 (b : Int), cvB] w fun r w' => r = .returned (.tuple #[]) ∧ (∃ f', Rb w' S g c n f' ∧ Stb kb f f' a b ∧ Srt kb f' a b) ∧ Below S w w' := by
  have hsf := @run_store_float Try.prog
  have H0 : Hid (Rb w S g c n f) := h
  clear h
  go_enter Try.func124, Try.ntmps124
  go_wp2
  go_loopw [8, 9] (fun iv _ w' => ∃ (i : Nat) (f1 : Nat → Bk), iv = .int .i64 (i : Int) ∧ a + 1 ≤ i ∧ (i ≤ b ∨ i = a + 1) ∧ Hid (Rb w' S g c n f1) ∧ Hid (Stb kb f f1 a b) ∧ Hid (Srt kb f1 a i) ∧ Below S w w') (fun iv _ _ => b + 1 - (RowKit.intOf iv).toNat)
  case atStart => exact ⟨a + 1, f, by congr 1, by omega, .inr rfl, H0, Stb.refl _ _ _, Srt.one _ _ _ (Nat.le_refl _), Below.refl _ _⟩
  case round =>
    obtain ⟨i, f1, rfl, hi1, hi2, o, st, so, hbel⟩ := hrel
    by_cases hlt : i < b
    · have hii : (i : Int) < b := by omega
      have HI : Hid (i + 1 ≤ b) := hlt
      have HIN : Hid (∀ j, a ≤ j → j ≤ i → (∀ x, j ≤ x → x < i → kb (f1 i) < kb (f1 x)) → (j = a ∨ kb (f1 (j - 1)) ≤ kb (f1 i)) → Stb kb f (rot f1 j i (i + 1)) a b ∧ Srt kb (rot f1 j i (i + 1)) a (i + 1)) := fun j h1 h2 h3 h4 =>
        ⟨st.out.trans ((rot_stb f1 j i (i + 1) h2 (by omega) fun x y hx1 hx2 hy1 hy2 => by
          have := h3 x hx1 hx2
          have e : y = i := by omega
          subst e
          omega).wide h1 (by omega) (by omega)), ins_srt f1 a i j so.out h1 h2 h3 h4⟩
      go_wp2
      go_loopw [9] (fun jv w' => ∃ (j : Nat), jv = .int .i64 (j : Int) ∧ a ≤ j ∧ j ≤ i ∧ Hid (Rb w' S g c n (rot f1 j i (i + 1))) ∧ Hid (∀ x, j ≤ x → x < i → kb (f1 i) < kb (f1 x)) ∧ Below S w w') (fun jv _ => (RowKit.intOf jv).toNat)
      case atStart => exact ⟨i, rfl, by omega, Nat.le_refl _, by show Rb _ _ _ _ _ _; rw [rot_empty f1 i i (i + 1) (.inl rfl) (Nat.le_refl _) (by omega)]; exact o, fun x h1 h2 => by omega, hbel⟩
      case round =>
        obtain ⟨j, rfl, hj1, hj2, o2, hk, hbel2⟩ := hrel
        by_cases hja : j = a
        · have hd : decide (a < j) = false := decide_eq_false (by omega)
          obtain ⟨s1, s2⟩ := HIN.out j hj1 hj2 hk.out (.inl hja)
          have S1 : Hid _ := s1
          have S2 : Hid _ := s2
          clear s1 s2 hja
          go_wp2_with fail
          go_quiet (fail)
          have O2 : Hid (Rb (wr.drewN nq) S g c n (rot f1 j i (i + 1))) := o2
          have B2 := below_drewN hbel2 nq
          clear o2 hbel2
          generalize wr.drewN nq = W2 at *
          go_wp2
          exact ⟨⟨i + 1, _, by go_num, by omega, .inl HI, O2, S1, S2, B2⟩, by simp [RowKit.intOf]; omega⟩
        · have hgt : (a : Int) < (j : Int) := by omega
          obtain ⟨p, hp⟩ : ∃ p : Nat, p = j - 1 := ⟨_, rfl⟩
          have hpj : p + 1 = j := by omega
          have hpi : (j : Int) - 1 = (p : Int) := by omega
          have HP : Hid (p = j - 1) := hp
          clear hp
          have c1 := o2.out.cellU j (by omega)
          have c2 := o2.out.cellC j (by omega)
          have c3 := o2.out.cellU p (by omega)
          have c4 := o2.out.cellC p (by omega)
          have v1 : rot f1 j i (i + 1) j = f1 i := by rw [rot_lo _ _ _ _ _ (Nat.le_refl _) (by omega)]; congr 1; omega
          have v2 : rot f1 j i (i + 1) p = f1 p := rot_out _ _ _ _ _ (by omega) hj2 (by omega)
          rw [v1] at c1 c2
          rw [v2] at c3 c4
          have kO := orderB_any (f1 i) (f1 p)
          have hjn : j < n ∧ p < n := by omega
          obtain ⟨hjn, hpn⟩ := hjn
          have hwp : IntKind.i64.wrap (p : Int) = (p : Int) := by rw [IntKind.wrap_i64]; omega
          by_cases hcm : kb (f1 i) < kb (f1 p)
          · rw [cmS_negB _ _ hcm] at kO
            have K3 : Hid (∀ x, p ≤ x → x < i → kb (f1 i) < kb (f1 x)) := fun x h1 h2 => by
              by_cases hx : x = p
              · subst hx; exact hcm
              · exact hk.out x (by omega) h2
            have e3 : up (up (rot f1 j i (i + 1)) j (f1 p)) p (f1 i) = rot f1 p i (i + 1) := by
              have := rot_down f1 j i (by omega) hj2
              rw [← HP.out, v1, v2] at this
              exact this
            have HS : Hid (∀ W, Rb W S g c n (rot f1 j i (i + 1)) → Rb (swW W g j p (f1 i) (f1 p)) S g c n (rot f1 p i (i + 1)) ∧ Below S W (swW W g j p (f1 i) (f1 p))) := fun W hW => by
              have o3 := hW.swap j p (by omega) (by omega)
              rw [v1, v2, e3] at o3
              exact ⟨o3, hW.swap_below j p _ _⟩
            clear v1 v2 hcm e3
            unfold swW at HS
            obtain ⟨⟨xu, xc⟩, hx⟩ : ∃ x, f1 i = x := ⟨_, rfl⟩
            obtain ⟨⟨yu, yc⟩, hy⟩ : ∃ y, f1 p = y := ⟨_, rfl⟩
            rw [hx] at c1 c2 kO HS
            rw [hy] at c3 c4 kO HS
            clear hx hy
            dsimp only at c1 c2 c3 c4 HS
            have cO := fun d os => Calls.regrown_of (kO (Go.Sort.grow (redrawn wr d) os))
            have e1 := fun d os => cell_regrown c1 d os
            have e2 := fun d os => cell_regrown c2 d os
            have e3 := fun d os => cell_regrown c3 d os
            have e4 := fun d os => cell_regrown c4 d os
            go_wp2_with fail
            refine wp_region_quiet_below (by kernel_rfl) (by kernel_rfl) ?_
            repeat (first | quiet_step (fail) | quiet_step (exact cO _ _))
            refine wpQuiet_nil ?_
            intro _ hw'
            obtain ⟨⟨dq, osq⟩, hw''⟩ := hw'
            subst hw''
            have o3 : Rb (Go.Sort.grow (redrawn wr dq) osq) S g c n (rot f1 j i (i + 1)) := o2.out.below (below_regrown wr dq osq)
            have b3 := hbel2.trans ((below_regrown wr dq osq).mono (Nat.le_of_lt (Nat.lt_of_le_of_lt o2.out.ge o2.out.lt)))
            have d1 := e1 dq osq
            have d2 := e2 dq osq
            have d3 := e3 dq osq
            have d4 := e4 dq osq
            clear c1 c2 c3 c4 e1 e2 e3 e4 cO kO o2 hbel2
            generalize Go.Sort.grow (redrawn wr dq) osq = W2 at *
            obtain ⟨o4, b4⟩ := HS.out W2 o3
            have fz1 := o3.froz (j * 2)
            have fz2 := o3.froz (j * 2 + 1)
            have fz3 := o3.froz (p * 2)
            have fz4 := o3.froz (p * 2 + 1)
            have O4 : Hid _ := o4
            have b5 := b3.trans b4
            clear o3 b3 o4 b4 HS
            go_wp2_with fail
            go_region
            go_wp2
            exact ⟨⟨p, by go_num, by omega, by omega, O4, K3, b5⟩, by simp [RowKit.intOf]; omega⟩
          · obtain ⟨cc, hcc, hc0⟩ := cmS_posB _ _ hcm
            rw [hcc] at kO
            obtain ⟨s1, s2⟩ := HIN.out j hj1 hj2 hk.out (.inr (by rw [← HP.out]; omega))
            have S1 : Hid _ := s1
            have S2 : Hid _ := s2
            have hnl : decide (cc < 0) = false := decide_eq_false (by omega)
            clear s1 s2 hcc v1 v2 hcm
            obtain ⟨⟨xu, xc⟩, hx⟩ : ∃ x, f1 i = x := ⟨_, rfl⟩
            obtain ⟨⟨yu, yc⟩, hy⟩ : ∃ y, f1 p = y := ⟨_, rfl⟩
            rw [hx] at c1 c2 kO
            rw [hy] at c3 c4 kO
            clear hx hy
            dsimp only at c1 c2 c3 c4
            have cO := fun d os => Calls.regrown_of (kO (Go.Sort.grow (redrawn wr d) os))
            have e1 := fun d os => cell_regrown c1 d os
            have e2 := fun d os => cell_regrown c2 d os
            have e3 := fun d os => cell_regrown c3 d os
            have e4 := fun d os => cell_regrown c4 d os
            go_wp2_with fail
            refine wp_region_quiet_below (by kernel_rfl) (by kernel_rfl) ?_
            repeat (first | quiet_step (fail) | quiet_step (exact cO _ _))
            refine wpQuiet_nil ?_
            intro _ hw'
            obtain ⟨⟨dq, osq⟩, hw''⟩ := hw'
            subst hw''
            have O2 : Hid (Rb (Go.Sort.grow (redrawn wr dq) osq) S g c n (rot f1 j i (i + 1))) := o2.out.below (below_regrown wr dq osq)
            have B2 := hbel2.trans ((below_regrown wr dq osq).mono (Nat.le_of_lt (Nat.lt_of_le_of_lt o2.out.ge o2.out.lt)))
            clear o2 hbel2 c1 c2 c3 c4 e1 e2 e3 e4 cO kO
            generalize Go.Sort.grow (redrawn wr dq) osq = W2 at *
            go_wp2
            exact ⟨⟨i + 1, _, by go_num, by omega, .inl HI, O2, S1, S2, B2⟩, by simp [RowKit.intOf]; omega⟩
    · have hii : ¬ (i : Int) < b := by omega
      have S2 : Hid (Srt kb f1 a b) := fun x y h1 h2 h3 => so.out x y h1 h2 (by omega)
      go_wp2
      go_end0
      exact ⟨rfl, ⟨_, o.out, st.out, S2.out⟩, hbel⟩
end Go.Proofs.Ytfjfpplemgjcmab
