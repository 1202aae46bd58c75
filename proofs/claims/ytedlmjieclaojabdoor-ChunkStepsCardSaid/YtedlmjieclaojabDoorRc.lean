/- The reference: time. -/
import Derived.Test.YtedlmjieclaojabDoorRb
namespace Go.Proofs.YtedlmjieclaojabDoor
open Go.RowKit

theorem chg0 : chg 0 = nb 0 1 := by decide +kernel
theorem chg1 (e : Int) (h : wayOf e = 1) : chg e = nb 2 2 ++ nb (w64 (e + 63)) 7 := by
  unfold chg abv
  rw [h, show wy 1 4 = nb 2 2 by decide +kernel]
  simp only [scL, scW, Int.sub_neg]
theorem chg2 (e : Int) (h : wayOf e = 2) : chg e = nb 6 3 ++ nb (w64 (e + 255)) 9 := by
  unfold chg abv
  rw [h, show wy 2 4 = nb 6 3 by decide +kernel]
  simp only [scL, scW, Int.sub_neg]
theorem chg3 (e : Int) (h : wayOf e = 3) : chg e = nb 14 4 ++ nb (w64 (e + 2047)) 12 := by
  unfold chg abv
  rw [h, show wy 3 4 = nb 14 4 by decide +kernel]
  simp only [scL, scW, Int.sub_neg]
theorem chg4 (e : Int) (h : wayOf e = 4) : chg e = nb 15 4 ++ nb (w64 e) 64 := by
  unfold chg abv
  rw [h, show wy 4 4 = nb 15 4 by decide +kernel]
  simp only [scL, scW, Int.sub_zero]
set_option maxHeartbeats 2000000 in
set_option maxRecDepth 100000 in
theorem time_any (S : Nat) (v : Value) (L : List Int) (e : Int) (w : World) (h : Rw S w v L) (h1 : -9223372036854775808 ≤ e) (h2 : e ≤ 9223372036854775807) (hL : L.length + 300 ≤ 140737488355328) :
    Calls Tryd.prog 40 #[v, .int .i64 e] w (Nq S v L (chg e) w) := by
  have hw := way0 e h1 h2
  have K2 : Hid (∀ (V n : Nat), V < 18446744073709551616 → n ≤ 64 → ∀ (X : List Int) (v1 : Value) (w1 : World), X.length ≤ 100 → Rw S w1 v1 (L ++ X) → Calls Tryd.prog 39 #[v1, .int .u64 (V : Nat), .int .i64 (n : Nat)] w1 (Nq S v1 (L ++ X) (nb V n) w1)) := fun V n hV hn X v1 w1 hX h => number_any S v1 (L ++ X) V n w1 h hV hn (by rw [List.length_append]; omega)
  have K1 : Hid (∀ (V n : Nat), V < 18446744073709551616 → n ≤ 64 → Calls Tryd.prog 39 #[v, .int .u64 (V : Nat), .int .i64 (n : Nat)] w (Nq S v L (nb V n) w)) := fun V n hV hn => number_any S v L V n w h hV hn (by omega)
  obtain ⟨a, c, hv⟩ := h.form
  have HV : Hid (v = .slice a L.length c) := hv
  clear hv h
  by_cases c0 : e = 0
  · subst c0
    rw [chg0]
    have k := K1.out 0 1 (by decide) (by decide)
    clear hw K1 K2
    go_enter Tryd.func40, Tryd.ntmps40
    go_wp2_with fail
    go_fit k
    rintro z w1 hq
    obtain ⟨v1, rfl, hq1⟩ := hq
    have HQ : Hid _ := hq1
    clear hq1 k
    go_wp2
    go_ret
    exact ⟨v1, rfl, HQ.out⟩
  · rw [if_neg c0] at hw
    have c0' : (e == 0) = false := by simpa using c0
    by_cases c1 : -63 ≤ e ∧ e ≤ 64
    · rw [if_pos c1] at hw
      obtain ⟨d1, d2⟩ := c1
      rw [chg1 e hw]
      obtain ⟨A, hA⟩ : ∃ A, A = w64 (e + 63) := ⟨_, rfl⟩
      have hAi : ((A : Nat) : Int) = e + 63 := by rw [hA]; exact w64_small _ (by omega) (by omega)
      rw [← hA]
      have hA2 : A < 18446744073709551616 := by omega
      have k := K1.out 2 2 (by decide) (by decide)
      have e1 : IntKind.i64.wrap (e + 63) = e + 63 := by rw [IntKind.wrap_i64]; omega
      have e2 : IntKind.u64.wrap (e + 63) = e + 63 := by rw [IntKind.wrap_u64]; omega
      clear hw K1 hA
      go_enter Tryd.func40, Tryd.ntmps40
      go_wp2_with fail
      go_fit k
      rintro z w1 ⟨v1, rfl, r1, s1, q1⟩
      have k2 := K2.out A 7 hA2 (by decide) _ v1 w1 (by rw [nb_len]; decide) r1
      rw [hAi] at k2
      have HS : Hid _ := s1
      have HK : Hid _ := q1
      clear k r1 s1 q1 hAi K2
      go_wp2_with fail
      go_fit k2
      rintro z w2 hq
      have hq2 := Nq.next HS.out HK.out hq
      obtain ⟨v2, rfl, hq3⟩ := hq2
      have HQ : Hid _ := hq3
      clear hq hq3 k2 HS HK
      go_wp2
      go_ret
      exact ⟨v2, rfl, HQ.out⟩
    · rw [if_neg c1] at hw
      have c1' : ¬ -63 ≤ e ∨ (-63 ≤ e ∧ ¬ e ≤ 64) := by omega
      by_cases c2 : -255 ≤ e ∧ e ≤ 256
      · rw [if_pos c2] at hw
        obtain ⟨d1, d2⟩ := c2
        rw [chg2 e hw]
        obtain ⟨A, hA⟩ : ∃ A, A = w64 (e + 255) := ⟨_, rfl⟩
        have hAi : ((A : Nat) : Int) = e + 255 := by rw [hA]; exact w64_small _ (by omega) (by omega)
        rw [← hA]
        have hA2 : A < 18446744073709551616 := by omega
        have k := K1.out 6 3 (by decide) (by decide)
        have e1 : IntKind.i64.wrap (e + 255) = e + 255 := by rw [IntKind.wrap_i64]; omega
        have e2 : IntKind.u64.wrap (e + 255) = e + 255 := by rw [IntKind.wrap_u64]; omega
        clear hw K1 hA c1
        rcases c1' with c1 | ⟨c1, c1'⟩
        all_goals
          go_enter Tryd.func40, Tryd.ntmps40
          go_wp2_with fail
          go_fit k
          rintro z w1 ⟨v1, rfl, r1, s1, q1⟩
          have k2 := K2.out A 9 hA2 (by decide) _ v1 w1 (by rw [nb_len]; decide) r1
          rw [hAi] at k2
          have HS : Hid _ := s1
          have HK : Hid _ := q1
          clear k r1 s1 q1 hAi K2
          go_wp2_with fail
          go_fit k2
          rintro z w2 hq
          have hq2 := Nq.next HS.out HK.out hq
          obtain ⟨v2, rfl, hq3⟩ := hq2
          have HQ : Hid _ := hq3
          clear hq hq3 k2 HS HK
          go_wp2
          go_ret
          exact ⟨v2, rfl, HQ.out⟩
      · rw [if_neg c2] at hw
        have c2' : ¬ -255 ≤ e ∨ (-255 ≤ e ∧ ¬ e ≤ 256) := by omega
        by_cases c3 : -2047 ≤ e ∧ e ≤ 2048
        · rw [if_pos c3] at hw
          obtain ⟨d1, d2⟩ := c3
          rw [chg3 e hw]
          obtain ⟨A, hA⟩ : ∃ A, A = w64 (e + 2047) := ⟨_, rfl⟩
          have hAi : ((A : Nat) : Int) = e + 2047 := by rw [hA]; exact w64_small _ (by omega) (by omega)
          rw [← hA]
          have hA2 : A < 18446744073709551616 := by omega
          have k := K1.out 14 4 (by decide) (by decide)
          have e1 : IntKind.i64.wrap (e + 2047) = e + 2047 := by rw [IntKind.wrap_i64]; omega
          have e2 : IntKind.u64.wrap (e + 2047) = e + 2047 := by rw [IntKind.wrap_u64]; omega
          clear hw K1 hA c1 c2 c1'
          have c12 : (¬ -63 ≤ e ∧ ¬ -255 ≤ e) ∨ (-63 ≤ e ∧ ¬ e ≤ 64 ∧ -255 ≤ e ∧ ¬ e ≤ 256) := by omega
          rcases c12 with ⟨x1, x2⟩ | ⟨x1, x2, x3, x4⟩
          all_goals
            clear c2'
            go_enter Tryd.func40, Tryd.ntmps40
            go_wp2_with fail
            go_fit k
            rintro z w1 ⟨v1, rfl, r1, s1, q1⟩
            have k2 := K2.out A 12 hA2 (by decide) _ v1 w1 (by rw [nb_len]; decide) r1
            rw [hAi] at k2
            have HS : Hid _ := s1
            have HK : Hid _ := q1
            clear k r1 s1 q1 hAi K2
            go_wp2_with fail
            go_fit k2
            rintro z w2 hq
            have hq2 := Nq.next HS.out HK.out hq
            obtain ⟨v2, rfl, hq3⟩ := hq2
            have HQ : Hid _ := hq3
            clear hq hq3 k2 HS HK
            go_wp2
            go_ret
            exact ⟨v2, rfl, HQ.out⟩
        · rw [if_neg c3] at hw
          rw [chg4 e hw]
          obtain ⟨A, hA⟩ : ∃ A, A = w64 e := ⟨_, rfl⟩
          have hA2 : A < 18446744073709551616 := by rw [hA]; exact w64_lt e
          have e2 : IntKind.u64.wrap e = ((A : Nat) : Int) := by rw [IntKind.wrap_u64, hA, w64_cast]
          have HK2 : Hid (∀ (X : List Int) (v1 : Value) (w1 : World), X.length ≤ 100 → Rw S w1 v1 (L ++ X) → Calls Tryd.prog 39 #[v1, .int .u64 (A : Nat), .int .i64 64] w1 (Nq S v1 (L ++ X) (nb A 64) w1)) := fun X v1 w1 hX h => K2.out A 64 hA2 (by decide) X v1 w1 hX h
          rw [← hA]
          have k := K1.out 15 4 (by decide) (by decide)
          obtain ⟨AI, hAI⟩ : ∃ AI : Int, AI = (A : Nat) := ⟨_, rfl⟩
          have a0 : 0 ≤ AI := by omega
          have a1 : AI ≤ 18446744073709551615 := by omega
          rw [← hAI] at HK2 e2
          clear hw K1 hA c1 c2 c1' c2' K2 hAI hA2
          have c12 : (¬ -63 ≤ e ∧ ¬ -255 ≤ e ∧ ¬ -2047 ≤ e) ∨ (-63 ≤ e ∧ ¬ e ≤ 64 ∧ -255 ≤ e ∧ ¬ e ≤ 256 ∧ -2047 ≤ e ∧ ¬ e ≤ 2048) := by omega
          clear c3
          rcases c12 with ⟨x1, x2, x3⟩ | ⟨x1, x2, x3, x4, x5, x6⟩
          all_goals
            go_enter Tryd.func40, Tryd.ntmps40
            go_wp2_with fail
            go_fit k
            rintro z w1 ⟨v1, rfl, r1, s1, q1⟩
            have k2 := HK2.out _ v1 w1 (by rw [nb_len]; decide) r1
            have HS : Hid _ := s1
            have HK : Hid _ := q1
            clear k r1 s1 q1 HK2
            go_wp2_with fail
            go_fit k2
            rintro z w2 hq
            have hq2 := Nq.next HS.out HK.out hq
            obtain ⟨v2, rfl, hq3⟩ := hq2
            have HQ : Hid _ := hq3
            clear hq hq3 k2 HS HK
            go_wp2
            go_ret
            exact ⟨v2, rfl, HQ.out⟩
end Go.Proofs.YtedlmjieclaojabDoor
