/- A bundle of texts. -/
import Derived.Test.YtmjenemjbpimcaaBk16
/- A row of floats sorted in place: a sorted row merged with one thing. -/
namespace Go.Proofs.Ytmjenemjbpimcaa
open Go.RowKit

set_option maxHeartbeats 2000000 in
set_option maxRecDepth 100000 in
theorem sym2_any (S g c n a m : Nat) (f : Nat → Nat) (w : World) (h : Rf w S g c n f) (hma : a + 1 < m) (hbn : m + 1 ≤ n) (hn : n ≤ 4611686018427387904) (h1 : Srt ky f a m) :
    Calls Try.prog 98 #[.slice (some ⟨g, 0, none⟩) n c, .int .i64 (a : Int), .int .i64 (m : Int), .int .i64 ((m + 1 : Nat) : Int), cv67] w (Mg S g c n a (m + 1) f w) := by
  have hsf := @run_store_float Try.prog
  have H0 : Hid (Rf w S g c n f) := h
  have H1 : Hid (Srt ky f a m) := h1
  have hno : ((m : Int) - (a : Int) == 1) = false := beq_eq_false_iff_ne.2 (by omega)
  have hone : (((m + 1 : Nat) : Int) - (m : Int) == 1) = true := by simp; omega
  obtain ⟨b, hb⟩ : ∃ b, m + 1 = b := ⟨_, rfl⟩
  rw [hb] at hone ⊢
  have HB : Hid (m + 1 = b) := hb
  have ham : a < m ∧ m < b ∧ b ≤ n := by omega
  obtain ⟨ham, hmb, hbn'⟩ := ham
  have HU : Hid (∀ s, 0 < s → s ≤ m → up (up (rot f s m (m + 1)) s (rot f s m (m + 1) (s - 1))) (s - 1) (rot f s m (m + 1) s) = rot f (s - 1) m (m + 1)) := fun s h0 h1 => rot_down f s m h0 h1
  clear h h1 hb hma hbn
  go_enter Try.func98, Try.ntmps98
  go_wp2
  go_loopw [14, 15] (fun iv jv w' => ∃ (i j : Nat), iv = .int .i64 (i : Int) ∧ jv = .int .i64 (j : Int) ∧ a ≤ i ∧ i ≤ j ∧ j ≤ m ∧ Hid ((i = a ∨ ky (f (i - 1)) ≤ ky (f m)) ∧ (j = m ∨ ky (f m) < ky (f j))) ∧ Hid (Rf w' S g c n f) ∧ Below S w w') (fun iv jv _ => (RowKit.intOf jv).toNat - (RowKit.intOf iv).toNat)
  case atStart => exact ⟨a, m, rfl, rfl, by omega, by omega, by omega, ⟨.inl rfl, .inl rfl⟩, H0, Below.refl _ _⟩
  case round =>
    obtain ⟨i, j, rfl, rfl, hi1, hij, hjb, hk, o, hbel⟩ := hrel
    by_cases hlt : i < j
    · have hii : (i : Int) < j := by omega
      obtain ⟨hh, hhe⟩ : ∃ hh : Nat, hh = (i + j) / 2 := ⟨_, rfl⟩
      have hh1 : i ≤ hh ∧ hh < j := by omega
      have hhi : ((i : Int) + (j : Int)) / 2 = (hh : Int) := by omega
      obtain ⟨hh1, hh2⟩ := hh1
      clear hhe
      have c1 := o.out.cell m (by omega)
      have c2 := o.out.cell hh (by omega)
      have kO := order_any (f m) (f hh)
      have hhn : hh < n ∧ m < n := by omega
      obtain ⟨hhn, hmn⟩ := hhn
      by_cases hcm : ky (f m) < ky (f hh)
      · rw [cmS_neg _ _ hcm] at kO
        have K2 : Hid ((i = a ∨ ky (f (i - 1)) ≤ ky (f m)) ∧ (hh = m ∨ ky (f m) < ky (f hh))) := ⟨hk.out.1, .inr hcm⟩
        clear hcm
        go_wp2_with fail
        go_quiet (exact Calls.quiet_of_same (kO _))
        have O2 : Hid (Rf (wr.drewN nq) S g c n f) := o
        have B2 := below_drewN hbel nq
        clear o hbel c1 c2
        generalize wr.drewN nq = W2 at *
        go_wp2
        exact ⟨⟨i, hh, rfl, rfl, by omega, by omega, by omega, K2, O2, B2⟩, by simp [RowKit.intOf]; omega⟩
      · obtain ⟨cc, hcc, hc0⟩ := cmS_pos _ _ hcm
        rw [hcc] at kO
        have hnl : decide (cc < 0) = false := decide_eq_false (by omega)
        have K2 : Hid ((hh + 1 = a ∨ ky (f (hh + 1 - 1)) ≤ ky (f m)) ∧ (j = m ∨ ky (f m) < ky (f j))) := ⟨.inr (by rw [Nat.add_sub_cancel]; omega), hk.out.2⟩
        clear hcm hcc
        go_wp2_with fail
        go_quiet (exact Calls.quiet_of_same (kO _))
        have O2 : Hid (Rf (wr.drewN nq) S g c n f) := o
        have B2 := below_drewN hbel nq
        clear o hbel c1 c2
        generalize wr.drewN nq = W2 at *
        go_wp2
        exact ⟨⟨hh + 1, j, by go_num, rfl, by omega, by omega, by omega, K2, O2, B2⟩, by simp [RowKit.intOf]; omega⟩
    · have hii : ¬ (i : Int) < j := by omega
      obtain rfl : i = j := by omega
      have HS : Hid (Stb ky f (rot f i m (m + 1)) a (m + 1) ∧ Srt ky (rot f i m (m + 1)) a (m + 1)) := by
        have hall : ∀ x, i ≤ x → x < m → ky (f m) < ky (f x) := fun x h1 h2 => by
          rcases hk.out.2 with h | h
          · omega
          · have := H1.out.le i x (by omega) h1 h2
            omega
        refine ⟨(rot_stb f i m (m + 1) (by omega) (by omega) fun x y hx1 hx2 hy1 hy2 => ?_).wide hi1 (by omega) (Nat.le_refl _), ins_srt f a m i H1.out hi1 hjb hall hk.out.1⟩
        obtain rfl : y = m := by omega
        have := hall x hx1 hx2
        omega
      clear hk
      go_wp2
      go_loopw [17] (fun kv w' => ∃ (k : Nat), kv = .int .i64 (k : Int) ∧ i ≤ k ∧ k ≤ m ∧ Hid (Rf w' S g c n (rot f k m (m + 1))) ∧ Below S w w') (fun kv _ => (RowKit.intOf kv).toNat)
      case atStart => exact ⟨m, rfl, by omega, Nat.le_refl _, by show Rf _ _ _ _ _ _; rw [rot_empty f m m (m + 1) (.inl rfl) (by omega) (by omega)]; exact o, hbel⟩
      case round =>
        obtain ⟨k, rfl, hk1, hk2, o2, hbel2⟩ := hrel
        by_cases hke : i < k
        · have hki : (i : Int) < (k : Int) := by omega
          obtain ⟨q, hq⟩ : ∃ q : Nat, q = k - 1 := ⟨_, rfl⟩
          have hqi : (k : Int) - 1 = (q : Int) := by omega
          have e3 := HU.out k (by omega) hk2
          rw [← hq] at e3
          have o3 := o2.out
          have hqn : q < k ∧ k < n := by omega
          have HI : Hid (i ≤ q) := by show _ ≤ _; omega
          have HA : Hid (q ≤ m) := by show _ ≤ _; omega
          have HD : Hid (q < k) := by show _ < _; omega
          obtain ⟨hkq, hqn⟩ := hqn
          clear hq
          have c1 := o3.cell k (by omega)
          have c2 := o3.cell q (by omega)
          have f1 := o3.froz k
          have f2 := o3.froz q
          have o4 := o3.swap k q
          have b4 := hbel2.trans (o3.swap_below k q (rot f k m (m + 1) q) (rot f k m (m + 1) k))
          rw [e3] at o4
          have O4 : Hid _ := o4
          clear o3 o4 e3 o2 hbel2
          generalize rot f k m (m + 1) k = x at *
          generalize rot f k m (m + 1) q = y at *
          go_wp2_with fail
          go_region
          go_wp2
          exact ⟨⟨q, by go_num, HI.out, HA.out, O4, b4⟩, by simp [RowKit.intOf]; exact HD.out⟩
        · have hki : ¬ (i : Int) < (k : Int) := by omega
          have O2 : Hid (Rf wr S g c n (rot f i m (m + 1))) := by
            show Rf _ _ _ _ _ _
            have e : i = k := by omega
            rw [e]; exact o2
          have HS2 : Hid (Stb ky f (rot f i m (m + 1)) a b ∧ Srt ky (rot f i m (m + 1)) a b) := by
            have := HS.out
            rw [HB.out] at this ⊢
            exact this
          go_wp2
          go_end0
          exact ⟨rfl, ⟨_, O2.out, HS2.out.1, HS2.out.2⟩, hbel2⟩
end Go.Proofs.Ytmjenemjbpimcaa
