/- A row of buckets sorted in place: one thing merged with a sorted row. -/
import Derived.Test.YtfjfpplemgjcmabBz
namespace Go.Proofs.Ytfjfpplemgjcmab
open Go.RowKit

/-- What a merge leaves. -/
def MgB (S g c n a b : Nat) (f : Nat → Bk) (w : World) (r : Ending) (w' : World) : Prop := r = .returned (.tuple #[]) ∧ (∃ f', Rb w' S g c n f' ∧ Stb kb f f' a b ∧ Srt kb f' a b) ∧ Below S w w'

set_option maxHeartbeats 2000000 in
set_option maxRecDepth 100000 in
theorem sym1B_any (S g c n a b : Nat) (f : Nat → Bk) (w : World) (h : Rb w S g c n f) (hmb : a + 1 < b) (hbn : b ≤ n) (hn : n ≤ 2305843009213693952) (h2 : Srt kb f (a + 1) b) :
    Calls Try.prog 125 #[.slice (some ⟨g, 0, none⟩) n c, .int .i64 (a : Int), .int .i64 ((a + 1 : Nat) : Int), .int .i64 (b : Int), cvB] w (MgB S g c n a b f w) := by
  have hsf := @run_store_float Try.prog
  have H0 : Hid (Rb w S g c n f) := h
  have H2 : Hid (Srt kb f (a + 1) b) := h2
  have hone : (((a + 1 : Nat) : Int) - (a : Int) == 1) = true := by simp; omega
  obtain ⟨m, hm⟩ : ∃ m, a + 1 = m := ⟨_, rfl⟩
  rw [hm] at hone ⊢
  rw [hm] at H2
  have HM : Hid (a + 1 = m) := hm
  have ham : a < m ∧ m < b := by omega
  obtain ⟨ham, hmb'⟩ := ham
  have HU : Hid (∀ e, a < e → up (up (rot f a (a + 1) e) (e - 1) (rot f a (a + 1) e e)) e (rot f a (a + 1) e (e - 1)) = rot f a (a + 1) (e + 1)) := fun e he => rot_up f a e he
  clear h h2 hm hmb
  go_enter Try.func125, Try.ntmps125
  go_wp2
  go_loopw [10, 11] (fun iv jv w' => ∃ (i j : Nat), iv = .int .i64 (i : Int) ∧ jv = .int .i64 (j : Int) ∧ m ≤ i ∧ i ≤ j ∧ j ≤ b ∧ Hid ((i = m ∨ kb (f (i - 1)) < kb (f a)) ∧ (j = b ∨ kb (f a) ≤ kb (f j))) ∧ Hid (Rb w' S g c n f) ∧ Below S w w') (fun iv jv _ => (RowKit.intOf jv).toNat - (RowKit.intOf iv).toNat)
  case atStart => exact ⟨m, b, rfl, rfl, by omega, by omega, by omega, ⟨.inl rfl, .inl rfl⟩, H0, Below.refl _ _⟩
  case round =>
    obtain ⟨i, j, rfl, rfl, hi1, hij, hjb, hk, o, hbel⟩ := hrel
    by_cases hlt : i < j
    · have hii : (i : Int) < j := by omega
      obtain ⟨hh, hhe⟩ : ∃ hh : Nat, hh = (i + j) / 2 := ⟨_, rfl⟩
      have hh1 : i ≤ hh ∧ hh < j := by omega
      have hhi : ((i : Int) + (j : Int)) / 2 = (hh : Int) := by omega
      obtain ⟨hh1, hh2⟩ := hh1
      clear hhe
      have c1 := o.out.cellU hh (by omega)
      have c2 := o.out.cellC hh (by omega)
      have c3 := o.out.cellU a (by omega)
      have c4 := o.out.cellC a (by omega)
      have kO := orderB_any (f hh) (f a)
      have hhn : hh < n ∧ a < n := by omega
      obtain ⟨hhn, han⟩ := hhn
      by_cases hcm : kb (f hh) < kb (f a)
      · rw [cmS_negB _ _ hcm] at kO
        have K2 : Hid ((hh + 1 = m ∨ kb (f (hh + 1 - 1)) < kb (f a)) ∧ (j = b ∨ kb (f a) ≤ kb (f j))) := ⟨.inr hcm, hk.out.2⟩
        clear hcm
        obtain ⟨⟨xu, xc⟩, hx⟩ : ∃ x, f hh = x := ⟨_, rfl⟩
        obtain ⟨⟨yu, yc⟩, hy⟩ : ∃ y, f a = y := ⟨_, rfl⟩
        rw [hx] at c1 c2 kO
        rw [hy] at c3 c4 kO
        clear hx hy
        dsimp only at c1 c2 c3 c4
        have cO := fun d os => Calls.regrown_of (kO (Go.Sort.grow (redrawn wr d) os))
        have e1 := fun d os => cell_regrown c1 d os
        have e2 := fun d os => cell_regrown c2 d os
        have e3 := fun d os => cell_regrown c3 d os
        have e4 := fun d os => cell_regrown c4 d os
        go_wp2_with fail
        refine wp_region_quiet_below (by kernel_rfl) (by kernel_rfl) ?_
        repeat (first | quiet_step (fail) | quiet_step (exact cO _ _))
        refine wpQuiet_nil ?_
        intro _ hw'
        obtain ⟨⟨dq, osq⟩, hw''⟩ := hw'
        subst hw''
        have O2 : Hid (Rb (Go.Sort.grow (redrawn wr dq) osq) S g c n f) := o.out.below (below_regrown wr dq osq)
        have B2 := hbel.trans ((below_regrown wr dq osq).mono (Nat.le_of_lt (Nat.lt_of_le_of_lt o.out.ge o.out.lt)))
        clear o hbel c1 c2 c3 c4 e1 e2 e3 e4 cO kO
        generalize Go.Sort.grow (redrawn wr dq) osq = W2 at *
        go_wp2
        exact ⟨⟨hh + 1, j, by go_num, rfl, by omega, by omega, by omega, K2, O2, B2⟩, by simp [RowKit.intOf]; omega⟩
      · obtain ⟨cc, hcc, hc0⟩ := cmS_posB _ _ hcm
        rw [hcc] at kO
        have hnl : decide (cc < 0) = false := decide_eq_false (by omega)
        have K2 : Hid ((i = m ∨ kb (f (i - 1)) < kb (f a)) ∧ (hh = b ∨ kb (f a) ≤ kb (f hh))) := ⟨hk.out.1, .inr (by omega)⟩
        clear hcm hcc
        obtain ⟨⟨xu, xc⟩, hx⟩ : ∃ x, f hh = x := ⟨_, rfl⟩
        obtain ⟨⟨yu, yc⟩, hy⟩ : ∃ y, f a = y := ⟨_, rfl⟩
        rw [hx] at c1 c2 kO
        rw [hy] at c3 c4 kO
        clear hx hy
        dsimp only at c1 c2 c3 c4
        have cO := fun d os => Calls.regrown_of (kO (Go.Sort.grow (redrawn wr d) os))
        have e1 := fun d os => cell_regrown c1 d os
        have e2 := fun d os => cell_regrown c2 d os
        have e3 := fun d os => cell_regrown c3 d os
        have e4 := fun d os => cell_regrown c4 d os
        go_wp2_with fail
        refine wp_region_quiet_below (by kernel_rfl) (by kernel_rfl) ?_
        repeat (first | quiet_step (fail) | quiet_step (exact cO _ _))
        refine wpQuiet_nil ?_
        intro _ hw'
        obtain ⟨⟨dq, osq⟩, hw''⟩ := hw'
        subst hw''
        have O2 : Hid (Rb (Go.Sort.grow (redrawn wr dq) osq) S g c n f) := o.out.below (below_regrown wr dq osq)
        have B2 := hbel.trans ((below_regrown wr dq osq).mono (Nat.le_of_lt (Nat.lt_of_le_of_lt o.out.ge o.out.lt)))
        clear o hbel c1 c2 c3 c4 e1 e2 e3 e4 cO kO
        generalize Go.Sort.grow (redrawn wr dq) osq = W2 at *
        go_wp2
        exact ⟨⟨i, hh, rfl, rfl, by omega, by omega, by omega, K2, O2, B2⟩, by simp [RowKit.intOf]; omega⟩
    · have hii : ¬ (i : Int) < j := by omega
      obtain rfl : i = j := by omega
      have HS : Hid (Stb kb f (rot f a (a + 1) i) a b ∧ Srt kb (rot f a (a + 1) i) a b) := by
        have hm := HM.out
        have hall : ∀ x, a + 1 ≤ x → x < i → kb (f x) < kb (f a) := fun x h1 h2 => by
          rcases hk.out.1 with h | h
          · omega
          · have := H2.out.le x (i - 1) (by omega) (by omega) (by omega)
            omega
        refine ⟨(rot_stb f a (a + 1) i (by omega) (by omega) fun x y hx1 hx2 hy1 hy2 => ?_).wide (Nat.le_refl _) (by omega) hjb, ins_srt1 f a b i (by rw [hm]; exact H2.out) (by omega) hjb hall hk.out.2⟩
        obtain rfl : x = a := by omega
        have := hall y hy1 hy2
        omega
      clear hk
      go_wp2
      go_loopw [13] (fun kv w' => ∃ (k : Nat), kv = .int .i64 (k : Int) ∧ a ≤ k ∧ k + 1 ≤ i ∧ Hid (Rb w' S g c n (rot f a (a + 1) (k + 1))) ∧ Below S w w') (fun kv _ => i - (RowKit.intOf kv).toNat)
      case atStart => exact ⟨a, rfl, by omega, by omega, by show Rb _ _ _ _ _ _; rw [rot_empty f a (a + 1) (a + 1) (.inr rfl) (by omega) (by omega)]; exact o, hbel⟩
      case round =>
        obtain ⟨k, rfl, hk1, hk2, o2, hbel2⟩ := hrel
        by_cases hke : k + 1 < i
        · have hki : (k : Int) < (i : Int) - 1 := by omega
          obtain ⟨q, hq⟩ : ∃ q : Nat, q = k + 1 := ⟨_, rfl⟩
          have hqi : (k : Int) + 1 = (q : Int) := by omega
          have e3 := HU.out q (by omega)
          rw [show q - 1 = k by omega] at e3
          have o3 := o2.out
          rw [← hq] at o3
          have hqn : k < q ∧ q < n := by omega
          have HQ : Hid (q = k + 1) := hq
          have HI : Hid (q + 1 ≤ i) := by show _ ≤ _; omega
          have HA : Hid (a ≤ q) := by show _ ≤ _; omega
          have HD : Hid (i - q < i - k) := by show _ < _; omega
          obtain ⟨hkq, hqn⟩ := hqn
          clear hq
          have c1 := o3.cellU k (by omega)
          have c2 := o3.cellC k (by omega)
          have c3 := o3.cellU q hqn
          have c4 := o3.cellC q hqn
          have f1 := o3.froz (k * 2)
          have f2 := o3.froz (k * 2 + 1)
          have f3 := o3.froz (q * 2)
          have f4 := o3.froz (q * 2 + 1)
          have o4 := o3.swap k q (by omega) (by omega)
          have b4 := hbel2.trans (o3.swap_below k q (rot f a (a + 1) q k) (rot f a (a + 1) q q))
          rw [e3] at o4
          unfold swW at o4 b4
          have O4 : Hid _ := o4
          clear o3 o4 e3 o2 hbel2
          generalize (rot f a (a + 1) q k).1 = xu at *
          generalize (rot f a (a + 1) q k).2 = xc at *
          generalize (rot f a (a + 1) q q).1 = yu at *
          generalize (rot f a (a + 1) q q).2 = yc at *
          go_wp2_with fail
          go_region
          go_wp2
          exact ⟨⟨q, by go_num, HA.out, HI.out, O4, b4⟩, by simp [RowKit.intOf]; exact HD.out⟩
        · have hki : ¬ (k : Int) < (i : Int) - 1 := by omega
          have O2 : Hid (Rb wr S g c n (rot f a (a + 1) i)) := by
            show Rb _ _ _ _ _ _
            have e : i = k + 1 := by omega
            rw [e]; exact o2
          go_wp2
          go_end0
          exact ⟨rfl, ⟨_, O2.out, HS.out.1, HS.out.2⟩, hbel2⟩
end Go.Proofs.Ytfjfpplemgjcmab
