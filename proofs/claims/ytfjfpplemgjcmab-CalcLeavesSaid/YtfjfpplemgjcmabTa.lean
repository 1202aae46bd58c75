/- A row of floats sorted in place: one thing merged with a sorted row. -/
import Derived.Test.YtfjfpplemgjcmabSz
namespace Go.Proofs.Ytfjfpplemgjcmab
open Go.RowKit

/-- What a merge leaves. -/
def Mg (S g c n a b : Nat) (f : Nat → Nat) (w : World) (r : Ending) (w' : World) : Prop := r = .returned (.tuple #[]) ∧ (∃ f', Rf w' S g c n f' ∧ Stb ky f f' a b ∧ Srt ky f' a b) ∧ Below S w w'

set_option maxHeartbeats 2000000 in
set_option maxRecDepth 100000 in
theorem sym1_any (S g c n a b : Nat) (f : Nat → Nat) (w : World) (h : Rf w S g c n f) (hmb : a + 1 < b) (hbn : b ≤ n) (hn : n ≤ 4611686018427387904) (h2 : Srt ky f (a + 1) b) :
    Calls Try.prog 116 #[.slice (some ⟨g, 0, none⟩) n c, .int .i64 (a : Int), .int .i64 ((a + 1 : Nat) : Int), .int .i64 (b : Int), cv67] w (Mg S g c n a b f w) := by
  have hsf := @run_store_float Try.prog
  have H0 : Hid (Rf w S g c n f) := h
  have H2 : Hid (Srt ky f (a + 1) b) := h2
  have hone : (((a + 1 : Nat) : Int) - (a : Int) == 1) = true := by simp; omega
  obtain ⟨m, hm⟩ : ∃ m, a + 1 = m := ⟨_, rfl⟩
  rw [hm] at hone ⊢
  rw [hm] at H2
  have HM : Hid (a + 1 = m) := hm
  have ham : a < m ∧ m < b := by omega
  obtain ⟨ham, hmb'⟩ := ham
  have HU : Hid (∀ e, a < e → up (up (rot f a (a + 1) e) (e - 1) (rot f a (a + 1) e e)) e (rot f a (a + 1) e (e - 1)) = rot f a (a + 1) (e + 1)) := fun e he => rot_up f a e he
  clear h h2 hm hmb
  go_enter Try.func116, Try.ntmps116
  go_wp2
  go_loopw [10, 11] (fun iv jv w' => ∃ (i j : Nat), iv = .int .i64 (i : Int) ∧ jv = .int .i64 (j : Int) ∧ m ≤ i ∧ i ≤ j ∧ j ≤ b ∧ Hid ((i = m ∨ ky (f (i - 1)) < ky (f a)) ∧ (j = b ∨ ky (f a) ≤ ky (f j))) ∧ Hid (Rf w' S g c n f) ∧ Below S w w') (fun iv jv _ => (RowKit.intOf jv).toNat - (RowKit.intOf iv).toNat)
  case atStart => exact ⟨m, b, rfl, rfl, by omega, by omega, by omega, ⟨.inl rfl, .inl rfl⟩, H0, Below.refl _ _⟩
  case round =>
    obtain ⟨i, j, rfl, rfl, hi1, hij, hjb, hk, o, hbel⟩ := hrel
    by_cases hlt : i < j
    · have hii : (i : Int) < j := by omega
      obtain ⟨hh, hhe⟩ : ∃ hh : Nat, hh = (i + j) / 2 := ⟨_, rfl⟩
      have hh1 : i ≤ hh ∧ hh < j := by omega
      have hhi : ((i : Int) + (j : Int)) / 2 = (hh : Int) := by omega
      obtain ⟨hh1, hh2⟩ := hh1
      clear hhe
      have c1 := o.out.cell hh (by omega)
      have c2 := o.out.cell a (by omega)
      have kO := order_any (f hh) (f a)
      have hhn : hh < n ∧ a < n := by omega
      obtain ⟨hhn, han⟩ := hhn
      by_cases hcm : ky (f hh) < ky (f a)
      · rw [cmS_neg _ _ hcm] at kO
        have K2 : Hid ((hh + 1 = m ∨ ky (f (hh + 1 - 1)) < ky (f a)) ∧ (j = b ∨ ky (f a) ≤ ky (f j))) := ⟨.inr hcm, hk.out.2⟩
        clear hcm
        go_wp2_with fail
        go_quiet (exact Calls.quiet_of_same (kO _))
        have O2 : Hid (Rf (wr.drewN nq) S g c n f) := o
        have B2 := below_drewN hbel nq
        clear o hbel c1 c2
        generalize wr.drewN nq = W2 at *
        go_wp2
        exact ⟨⟨hh + 1, j, by go_num, rfl, by omega, by omega, by omega, K2, O2, B2⟩, by simp [RowKit.intOf]; omega⟩
      · obtain ⟨cc, hcc, hc0⟩ := cmS_pos _ _ hcm
        rw [hcc] at kO
        have hnl : decide (cc < 0) = false := decide_eq_false (by omega)
        have K2 : Hid ((i = m ∨ ky (f (i - 1)) < ky (f a)) ∧ (hh = b ∨ ky (f a) ≤ ky (f hh))) := ⟨hk.out.1, .inr (by omega)⟩
        clear hcm hcc
        go_wp2_with fail
        go_quiet (exact Calls.quiet_of_same (kO _))
        have O2 : Hid (Rf (wr.drewN nq) S g c n f) := o
        have B2 := below_drewN hbel nq
        clear o hbel c1 c2
        generalize wr.drewN nq = W2 at *
        go_wp2
        exact ⟨⟨i, hh, rfl, rfl, by omega, by omega, by omega, K2, O2, B2⟩, by simp [RowKit.intOf]; omega⟩
    · have hii : ¬ (i : Int) < j := by omega
      obtain rfl : i = j := by omega
      have HS : Hid (Stb ky f (rot f a (a + 1) i) a b ∧ Srt ky (rot f a (a + 1) i) a b) := by
        have hm := HM.out
        have hall : ∀ x, a + 1 ≤ x → x < i → ky (f x) < ky (f a) := fun x h1 h2 => by
          rcases hk.out.1 with h | h
          · omega
          · have := H2.out.le x (i - 1) (by omega) (by omega) (by omega)
            omega
        refine ⟨(rot_stb f a (a + 1) i (by omega) (by omega) fun x y hx1 hx2 hy1 hy2 => ?_).wide (Nat.le_refl _) (by omega) hjb, ins_srt1 f a b i (by rw [hm]; exact H2.out) (by omega) hjb hall hk.out.2⟩
        obtain rfl : x = a := by omega
        have := hall y hy1 hy2
        omega
      clear hk
      go_wp2
      go_loopw [13] (fun kv w' => ∃ (k : Nat), kv = .int .i64 (k : Int) ∧ a ≤ k ∧ k + 1 ≤ i ∧ Hid (Rf w' S g c n (rot f a (a + 1) (k + 1))) ∧ Below S w w') (fun kv _ => i - (RowKit.intOf kv).toNat)
      case atStart => exact ⟨a, rfl, by omega, by omega, by show Rf _ _ _ _ _ _; rw [rot_empty f a (a + 1) (a + 1) (.inr rfl) (by omega) (by omega)]; exact o, hbel⟩
      case round =>
        obtain ⟨k, rfl, hk1, hk2, o2, hbel2⟩ := hrel
        by_cases hke : k + 1 < i
        · have hki : (k : Int) < (i : Int) - 1 := by omega
          obtain ⟨q, hq⟩ : ∃ q : Nat, q = k + 1 := ⟨_, rfl⟩
          have hqi : (k : Int) + 1 = (q : Int) := by omega
          have e3 := HU.out q (by omega)
          rw [show q - 1 = k by omega] at e3
          have o3 := o2.out
          rw [← hq] at o3
          have hqn : k < q ∧ q < n := by omega
          have HQ : Hid (q = k + 1) := hq
          have HI : Hid (q + 1 ≤ i) := by show _ ≤ _; omega
          have HA : Hid (a ≤ q) := by show _ ≤ _; omega
          have HD : Hid (i - q < i - k) := by show _ < _; omega
          obtain ⟨hkq, hqn⟩ := hqn
          clear hq
          have c1 := o3.cell k (by omega)
          have c2 := o3.cell q hqn
          have f1 := o3.froz k
          have f2 := o3.froz q
          have o4 := o3.swap k q
          have b4 := hbel2.trans (o3.swap_below k q (rot f a (a + 1) q q) (rot f a (a + 1) q k))
          rw [e3] at o4
          have O4 : Hid _ := o4
          clear o3 o4 e3 o2 hbel2
          generalize rot f a (a + 1) q k = x at *
          generalize rot f a (a + 1) q q = y at *
          go_wp2_with fail
          go_region
          go_wp2
          exact ⟨⟨q, by go_num, HA.out, HI.out, O4, b4⟩, by simp [RowKit.intOf]; exact HD.out⟩
        · have hki : ¬ (k : Int) < (i : Int) - 1 := by omega
          have O2 : Hid (Rf wr S g c n (rot f a (a + 1) i)) := by
            show Rf _ _ _ _ _ _
            have e : i = k + 1 := by omega
            rw [e]; exact o2
          go_wp2
          go_end0
          exact ⟨rfl, ⟨_, O2.out, HS.out.1, HS.out.2⟩, hbel2⟩
end Go.Proofs.Ytfjfpplemgjcmab
