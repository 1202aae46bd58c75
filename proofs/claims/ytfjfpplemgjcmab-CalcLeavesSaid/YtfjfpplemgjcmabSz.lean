/- A row of floats sorted in place: by insertion. -/
import Derived.Test.YtfjfpplemgjcmabSy
import Derived.Test.YtfjfpplemgjcmabOd
namespace Go.Proofs.Ytfjfpplemgjcmab
open Go.RowKit

abbrev cv67 : Value := .func (.func 67) #[] #[]
theorem cmS_neg (a b : Int) (h : a < b) : cmS a b = -1 := if_pos h
theorem cmS_pos (a b : Int) (h : ¬ a < b) : ∃ c, cmS a b = c ∧ 0 ≤ c := by
  unfold cmS; rw [if_neg h]; split
  · exact ⟨1, rfl, by decide⟩
  · exact ⟨0, rfl, by decide⟩

set_option maxHeartbeats 2000000 in
set_option maxRecDepth 100000 in
theorem insSort_any (S g c n a b : Nat) (f : Nat → Nat) (w : World) (h : Rf w S g c n f) (hab : a ≤ b) (hbn : b ≤ n) (hn : n ≤ 4611686018427387904) :
    Calls Try.prog 115 #[.slice (some ⟨g, 0, none⟩) n c, .int .i64 (a : Int), .int .i64 (b : Int), cv67] w fun r w' => r = .returned (.tuple #[]) ∧ (∃ f', Rf w' S g c n f' ∧ Stb ky f f' a b ∧ Srt ky f' a b) ∧ Below S w w' := by
  have hsf := @run_store_float Try.prog
  have H0 : Hid (Rf w S g c n f) := h
  clear h
  go_enter Try.func115, Try.ntmps115
  go_wp2
  go_loopw [8, 9] (fun iv _ w' => ∃ (i : Nat) (f1 : Nat → Nat), iv = .int .i64 (i : Int) ∧ a + 1 ≤ i ∧ (i ≤ b ∨ i = a + 1) ∧ Hid (Rf w' S g c n f1) ∧ Hid (Stb ky f f1 a b) ∧ Hid (Srt ky f1 a i) ∧ Below S w w') (fun iv _ _ => b + 1 - (RowKit.intOf iv).toNat)
  case atStart => exact ⟨a + 1, f, by congr 1, by omega, .inr rfl, H0, Stb.refl _ _ _, Srt.one _ _ _ (Nat.le_refl _), Below.refl _ _⟩
  case round =>
    obtain ⟨i, f1, rfl, hi1, hi2, o, st, so, hbel⟩ := hrel
    by_cases hlt : i < b
    · have hii : (i : Int) < b := by omega
      have HI : Hid (i + 1 ≤ b) := hlt
      have HIN : Hid (∀ j, a ≤ j → j ≤ i → (∀ x, j ≤ x → x < i → ky (f1 i) < ky (f1 x)) → (j = a ∨ ky (f1 (j - 1)) ≤ ky (f1 i)) → Stb ky f (rot f1 j i (i + 1)) a b ∧ Srt ky (rot f1 j i (i + 1)) a (i + 1)) := fun j h1 h2 h3 h4 =>
        ⟨st.out.trans ((rot_stb f1 j i (i + 1) h2 (by omega) fun x y hx1 hx2 hy1 hy2 => by
          have := h3 x hx1 hx2
          have e : y = i := by omega
          subst e
          omega).wide h1 (by omega) (by omega)), ins_srt f1 a i j so.out h1 h2 h3 h4⟩
      go_wp2
      go_loopw [9] (fun jv w' => ∃ (j : Nat), jv = .int .i64 (j : Int) ∧ a ≤ j ∧ j ≤ i ∧ Hid (Rf w' S g c n (rot f1 j i (i + 1))) ∧ Hid (∀ x, j ≤ x → x < i → ky (f1 i) < ky (f1 x)) ∧ Below S w w') (fun jv _ => (RowKit.intOf jv).toNat)
      case atStart => exact ⟨i, rfl, by omega, Nat.le_refl _, by show Rf _ _ _ _ _ _; rw [rot_empty f1 i i (i + 1) (.inl rfl) (Nat.le_refl _) (by omega)]; exact o, fun x h1 h2 => by omega, hbel⟩
      case round =>
        obtain ⟨j, rfl, hj1, hj2, o2, hk, hbel2⟩ := hrel
        by_cases hja : j = a
        · have hd : decide (a < j) = false := decide_eq_false (by omega)
          obtain ⟨s1, s2⟩ := HIN.out j hj1 hj2 hk.out (.inl hja)
          have S1 : Hid _ := s1
          have S2 : Hid _ := s2
          clear s1 s2 hja
          go_wp2_with fail
          go_quiet (fail)
          have O2 : Hid (Rf (wr.drewN nq) S g c n (rot f1 j i (i + 1))) := o2
          have B2 := below_drewN hbel2 nq
          clear o2 hbel2
          generalize wr.drewN nq = W2 at *
          go_wp2
          exact ⟨⟨i + 1, _, by go_num, by omega, .inl HI, O2, S1, S2, B2⟩, by simp [RowKit.intOf]; omega⟩
        · have hgt : (a : Int) < (j : Int) := by omega
          obtain ⟨p, hp⟩ : ∃ p : Nat, p = j - 1 := ⟨_, rfl⟩
          have hpj : p + 1 = j := by omega
          have hpi : (j : Int) - 1 = (p : Int) := by omega
          have HP : Hid (p = j - 1) := hp
          clear hp
          have c1 := o2.out.cell j (by omega)
          have c2 := o2.out.cell p (by omega)
          have v1 : rot f1 j i (i + 1) j = f1 i := by rw [rot_lo _ _ _ _ _ (Nat.le_refl _) (by omega)]; congr 1; omega
          have v2 : rot f1 j i (i + 1) p = f1 p := rot_out _ _ _ _ _ (by omega) hj2 (by omega)
          rw [v1] at c1
          rw [v2] at c2
          have kO := order_any (f1 i) (f1 p)
          have hjn : j < n ∧ p < n := by omega
          obtain ⟨hjn, hpn⟩ := hjn
          by_cases hcm : ky (f1 i) < ky (f1 p)
          · rw [cmS_neg _ _ hcm] at kO
            have K3 : Hid (∀ x, p ≤ x → x < i → ky (f1 i) < ky (f1 x)) := fun x h1 h2 => by
              by_cases hx : x = p
              · subst hx; exact hcm
              · exact hk.out x (by omega) h2
            have e3 : up (up (rot f1 j i (i + 1)) j (f1 p)) p (f1 i) = rot f1 p i (i + 1) := by
              have := rot_down f1 j i (by omega) hj2
              rw [← HP.out, v1, v2] at this
              exact this
            have HS : Hid (∀ W, Rf W S g c n (rot f1 j i (i + 1)) → Rf (((W.drewN 1).setCell ⟨g, j, none⟩ (.float .f64 (f1 p))).setCell ⟨g, p, none⟩ (.float .f64 (f1 i))) S g c n (rot f1 p i (i + 1)) ∧ Below S W (((W.drewN 1).setCell ⟨g, j, none⟩ (.float .f64 (f1 p))).setCell ⟨g, p, none⟩ (.float .f64 (f1 i)))) := fun W hW => by
              have o3 := hW.swap j p
              rw [v1, v2, e3] at o3
              exact ⟨o3, hW.swap_below j p _ _⟩
            clear v1 v2 hcm e3
            generalize f1 i = x at *
            generalize f1 p = y at *
            go_wp2_with fail
            go_quiet (exact Calls.quiet_of_same (kO _))
            have o3 : Rf (wr.drewN nq) S g c n (rot f1 j i (i + 1)) := o2.out
            have b3 := below_drewN hbel2 nq
            have d1 : (wr.drewN nq).cell? ⟨g, j, none⟩ = some (.float .f64 x) := c1
            have d2 : (wr.drewN nq).cell? ⟨g, p, none⟩ = some (.float .f64 y) := c2
            generalize wr.drewN nq = W2 at *
            obtain ⟨o4, b4⟩ := HS.out W2 o3
            have fz1 := o3.froz j
            have fz2 := o3.froz p
            have O4 : Hid _ := o4
            have b5 := b3.trans b4
            clear o3 b3 c1 c2 o4 b4 kO o2 hbel2 HS
            go_wp2_with fail
            go_region
            go_wp2
            exact ⟨⟨p, by go_num, by omega, by omega, O4, K3, b5⟩, by simp [RowKit.intOf]; omega⟩
          · obtain ⟨cc, hcc, hc0⟩ := cmS_pos _ _ hcm
            rw [hcc] at kO
            obtain ⟨s1, s2⟩ := HIN.out j hj1 hj2 hk.out (.inr (by rw [← HP.out]; omega))
            have S1 : Hid _ := s1
            have S2 : Hid _ := s2
            have hnl : decide (cc < 0) = false := decide_eq_false (by omega)
            clear s1 s2 hcc v1 v2 hcm
            generalize f1 i = x at *
            generalize f1 p = y at *
            go_wp2_with fail
            go_quiet (exact Calls.quiet_of_same (kO _))
            have O2 : Hid (Rf (wr.drewN nq) S g c n (rot f1 j i (i + 1))) := o2
            have B2 := below_drewN hbel2 nq
            clear o2 hbel2 c1 c2
            generalize wr.drewN nq = W2 at *
            go_wp2
            exact ⟨⟨i + 1, _, by go_num, by omega, .inl HI, O2, S1, S2, B2⟩, by simp [RowKit.intOf]; omega⟩
    · have hii : ¬ (i : Int) < b := by omega
      have S2 : Hid (Srt ky f1 a b) := fun x y h1 h2 h3 => so.out x y h1 h2 (by omega)
      go_wp2
      go_end0
      exact ⟨rfl, ⟨_, o.out, st.out, S2.out⟩, hbel⟩
end Go.Proofs.Ytfjfpplemgjcmab
