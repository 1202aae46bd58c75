/- A row of buckets sorted in place: a sorted row merged with one thing. -/
import Derived.Test.YtfjfpplemgjcmabCa
namespace Go.Proofs.Ytfjfpplemgjcmab
open Go.RowKit

set_option maxHeartbeats 2000000 in
set_option maxRecDepth 100000 in
theorem sym2B_any (S g c n a m : Nat) (f : Nat → Bk) (w : World) (h : Rb w S g c n f) (hma : a + 1 < m) (hbn : m + 1 ≤ n) (hn : n ≤ 2305843009213693952) (h1 : Srt kb f a m) :
    Calls Try.prog 125 #[.slice (some ⟨g, 0, none⟩) n c, .int .i64 (a : Int), .int .i64 (m : Int), .int .i64 ((m + 1 : Nat) : Int), cvB] w (MgB S g c n a (m + 1) f w) := by
  have hsf := @run_store_float Try.prog
  have H0 : Hid (Rb w S g c n f) := h
  have H1 : Hid (Srt kb f a m) := h1
  have hno : ((m : Int) - (a : Int) == 1) = false := beq_eq_false_iff_ne.2 (by omega)
  have hone : (((m + 1 : Nat) : Int) - (m : Int) == 1) = true := by simp; omega
  obtain ⟨b, hb⟩ : ∃ b, m + 1 = b := ⟨_, rfl⟩
  rw [hb] at hone ⊢
  have HB : Hid (m + 1 = b) := hb
  have ham : a < m ∧ m < b ∧ b ≤ n := by omega
  obtain ⟨ham, hmb, hbn'⟩ := ham
  have HU : Hid (∀ s, 0 < s → s ≤ m → up (up (rot f s m (m + 1)) s (rot f s m (m + 1) (s - 1))) (s - 1) (rot f s m (m + 1) s) = rot f (s - 1) m (m + 1)) := fun s h0 h1 => rot_down f s m h0 h1
  clear h h1 hb hma hbn
  go_enter Try.func125, Try.ntmps125
  go_wp2
  go_loopw [14, 15] (fun iv jv w' => ∃ (i j : Nat), iv = .int .i64 (i : Int) ∧ jv = .int .i64 (j : Int) ∧ a ≤ i ∧ i ≤ j ∧ j ≤ m ∧ Hid ((i = a ∨ kb (f (i - 1)) ≤ kb (f m)) ∧ (j = m ∨ kb (f m) < kb (f j))) ∧ Hid (Rb w' S g c n f) ∧ Below S w w') (fun iv jv _ => (RowKit.intOf jv).toNat - (RowKit.intOf iv).toNat)
  case atStart => exact ⟨a, m, rfl, rfl, by omega, by omega, by omega, ⟨.inl rfl, .inl rfl⟩, H0, Below.refl _ _⟩
  case round =>
    obtain ⟨i, j, rfl, rfl, hi1, hij, hjb, hk, o, hbel⟩ := hrel
    by_cases hlt : i < j
    · have hii : (i : Int) < j := by omega
      obtain ⟨hh, hhe⟩ : ∃ hh : Nat, hh = (i + j) / 2 := ⟨_, rfl⟩
      have hh1 : i ≤ hh ∧ hh < j := by omega
      have hhi : ((i : Int) + (j : Int)) / 2 = (hh : Int) := by omega
      obtain ⟨hh1, hh2⟩ := hh1
      clear hhe
      have c1 := o.out.cellU m (by omega)
      have c2 := o.out.cellC m (by omega)
      have c3 := o.out.cellU hh (by omega)
      have c4 := o.out.cellC hh (by omega)
      have kO := orderB_any (f m) (f hh)
      have hhn : hh < n ∧ m < n := by omega
      obtain ⟨hhn, hmn⟩ := hhn
      by_cases hcm : kb (f m) < kb (f hh)
      · rw [cmS_negB _ _ hcm] at kO
        have K2 : Hid ((i = a ∨ kb (f (i - 1)) ≤ kb (f m)) ∧ (hh = m ∨ kb (f m) < kb (f hh))) := ⟨hk.out.1, .inr hcm⟩
        clear hcm
        obtain ⟨⟨xu, xc⟩, hx⟩ : ∃ x, f m = x := ⟨_, rfl⟩
        obtain ⟨⟨yu, yc⟩, hy⟩ : ∃ y, f hh = y := ⟨_, rfl⟩
        rw [hx] at c1 c2 kO
        rw [hy] at c3 c4 kO
        clear hx hy
        dsimp only at c1 c2 c3 c4
        have cO := fun d os => Calls.regrown_of (kO (Go.Sort.grow (redrawn wr d) os))
        have e1 := fun d os => cell_regrown c1 d os
        have e2 := fun d os => cell_regrown c2 d os
        have e3 := fun d os => cell_regrown c3 d os
        have e4 := fun d os => cell_regrown c4 d os
        go_wp2_with fail
        refine wp_region_quiet_below (by kernel_rfl) (by kernel_rfl) ?_
        repeat (first | quiet_step (fail) | quiet_step (exact cO _ _))
        refine wpQuiet_nil ?_
        intro _ hw'
        obtain ⟨⟨dq, osq⟩, hw''⟩ := hw'
        subst hw''
        have O2 : Hid (Rb (Go.Sort.grow (redrawn wr dq) osq) S g c n f) := o.out.below (below_regrown wr dq osq)
        have B2 := hbel.trans ((below_regrown wr dq osq).mono (Nat.le_of_lt (Nat.lt_of_le_of_lt o.out.ge o.out.lt)))
        clear o hbel c1 c2 c3 c4 e1 e2 e3 e4 cO kO
        generalize Go.Sort.grow (redrawn wr dq) osq = W2 at *
        go_wp2
        exact ⟨⟨i, hh, rfl, rfl, by omega, by omega, by omega, K2, O2, B2⟩, by simp [RowKit.intOf]; omega⟩
      · obtain ⟨cc, hcc, hc0⟩ := cmS_posB _ _ hcm
        rw [hcc] at kO
        have hnl : decide (cc < 0) = false := decide_eq_false (by omega)
        have K2 : Hid ((hh + 1 = a ∨ kb (f (hh + 1 - 1)) ≤ kb (f m)) ∧ (j = m ∨ kb (f m) < kb (f j))) := ⟨.inr (by rw [Nat.add_sub_cancel]; omega), hk.out.2⟩
        clear hcm hcc
        obtain ⟨⟨xu, xc⟩, hx⟩ : ∃ x, f m = x := ⟨_, rfl⟩
        obtain ⟨⟨yu, yc⟩, hy⟩ : ∃ y, f hh = y := ⟨_, rfl⟩
        rw [hx] at c1 c2 kO
        rw [hy] at c3 c4 kO
        clear hx hy
        dsimp only at c1 c2 c3 c4
        have cO := fun d os => Calls.regrown_of (kO (Go.Sort.grow (redrawn wr d) os))
        have e1 := fun d os => cell_regrown c1 d os
        have e2 := fun d os => cell_regrown c2 d os
        have e3 := fun d os => cell_regrown c3 d os
        have e4 := fun d os => cell_regrown c4 d os
        go_wp2_with fail
        refine wp_region_quiet_below (by kernel_rfl) (by kernel_rfl) ?_
        repeat (first | quiet_step (fail) | quiet_step (exact cO _ _))
        refine wpQuiet_nil ?_
        intro _ hw'
        obtain ⟨⟨dq, osq⟩, hw''⟩ := hw'
        subst hw''
        have O2 : Hid (Rb (Go.Sort.grow (redrawn wr dq) osq) S g c n f) := o.out.below (below_regrown wr dq osq)
        have B2 := hbel.trans ((below_regrown wr dq osq).mono (Nat.le_of_lt (Nat.lt_of_le_of_lt o.out.ge o.out.lt)))
        clear o hbel c1 c2 c3 c4 e1 e2 e3 e4 cO kO
        generalize Go.Sort.grow (redrawn wr dq) osq = W2 at *
        go_wp2
        exact ⟨⟨hh + 1, j, by go_num, rfl, by omega, by omega, by omega, K2, O2, B2⟩, by simp [RowKit.intOf]; omega⟩
    · have hii : ¬ (i : Int) < j := by omega
      obtain rfl : i = j := by omega
      have HS : Hid (Stb kb f (rot f i m (m + 1)) a (m + 1) ∧ Srt kb (rot f i m (m + 1)) a (m + 1)) := by
        have hall : ∀ x, i ≤ x → x < m → kb (f m) < kb (f x) := fun x h1 h2 => by
          rcases hk.out.2 with h | h
          · omega
          · have := H1.out.le i x (by omega) h1 h2
            omega
        refine ⟨(rot_stb f i m (m + 1) (by omega) (by omega) fun x y hx1 hx2 hy1 hy2 => ?_).wide hi1 (by omega) (Nat.le_refl _), ins_srt f a m i H1.out hi1 hjb hall hk.out.1⟩
        obtain rfl : y = m := by omega
        have := hall x hx1 hx2
        omega
      clear hk
      go_wp2
      go_loopw [17] (fun kv w' => ∃ (k : Nat), kv = .int .i64 (k : Int) ∧ i ≤ k ∧ k ≤ m ∧ Hid (Rb w' S g c n (rot f k m (m + 1))) ∧ Below S w w') (fun kv _ => (RowKit.intOf kv).toNat)
      case atStart => exact ⟨m, rfl, by omega, Nat.le_refl _, by show Rb _ _ _ _ _ _; rw [rot_empty f m m (m + 1) (.inl rfl) (by omega) (by omega)]; exact o, hbel⟩
      case round =>
        obtain ⟨k, rfl, hk1, hk2, o2, hbel2⟩ := hrel
        by_cases hke : i < k
        · have hki : (i : Int) < (k : Int) := by omega
          obtain ⟨q, hq⟩ : ∃ q : Nat, q = k - 1 := ⟨_, rfl⟩
          have hqi : (k : Int) - 1 = (q : Int) := by omega
          have e3 := HU.out k (by omega) hk2
          rw [← hq] at e3
          have o3 := o2.out
          have hqn : q < k ∧ k < n := by omega
          have HI : Hid (i ≤ q) := by show _ ≤ _; omega
          have HA : Hid (q ≤ m) := by show _ ≤ _; omega
          have HD : Hid (q < k) := by show _ < _; omega
          obtain ⟨hkq, hqn⟩ := hqn
          clear hq
          have c1 := o3.cellU k (by omega)
          have c2 := o3.cellC k (by omega)
          have c3 := o3.cellU q (by omega)
          have c4 := o3.cellC q (by omega)
          have f1 := o3.froz (k * 2)
          have f2 := o3.froz (k * 2 + 1)
          have f3 := o3.froz (q * 2)
          have f4 := o3.froz (q * 2 + 1)
          have o4 := o3.swap k q (by omega) (by omega)
          have b4 := hbel2.trans (o3.swap_below k q (rot f k m (m + 1) k) (rot f k m (m + 1) q))
          rw [e3] at o4
          unfold swW at o4 b4
          have O4 : Hid _ := o4
          clear o3 o4 e3 o2 hbel2
          generalize (rot f k m (m + 1) k).1 = xu at *
          generalize (rot f k m (m + 1) k).2 = xc at *
          generalize (rot f k m (m + 1) q).1 = yu at *
          generalize (rot f k m (m + 1) q).2 = yc at *
          go_wp2_with fail
          go_region
          go_wp2
          exact ⟨⟨q, by go_num, HI.out, HA.out, O4, b4⟩, by simp [RowKit.intOf]; exact HD.out⟩
        · have hki : ¬ (i : Int) < (k : Int) := by omega
          have O2 : Hid (Rb wr S g c n (rot f i m (m + 1))) := by
            show Rb _ _ _ _ _ _
            have e : i = k := by omega
            rw [e]; exact o2
          have HS2 : Hid (Stb kb f (rot f i m (m + 1)) a b ∧ Srt kb (rot f i m (m + 1)) a b) := by
            have := HS.out
            rw [HB.out] at this ⊢
            exact this
          go_wp2
          go_end0
          exact ⟨rfl, ⟨_, O2.out, HS2.out.1, HS2.out.2⟩, hbel2⟩
end Go.Proofs.Ytfjfpplemgjcmab
