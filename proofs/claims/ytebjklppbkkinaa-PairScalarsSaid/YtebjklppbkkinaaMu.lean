/- Pow on both sides; the law's walk. -/
import Derived.Test.YtebjklppbkkinaaMt
namespace Go.Proofs.Ytebjklppbkkinaa
open Go.RowKit Ieee

/-- Both sides answer alike, of two floats. -/
def Both2 (f g : FuncId) (x y : Nat) : Prop := ∃ c, (∀ w, Calls Try.prog f #[.float .f64 x, .float .f64 y] w (RF w c)) ∧ (∀ w, Calls Try.prog g #[.float .f64 x, .float .f64 y] w (RF w c))
set_option maxHeartbeats 400000 in
theorem Edge.both {x y : Nat} {c : Option Nat} (h : Edge x y c) : Both2 21 19 x y := by
  refine ⟨c, h.1, fun w => ?_⟩
  have k := h.2
  go_enter Try.func19, Try.ntmps19
  go_wp2_with fail
  go_fit (k _)
  rintro r w2 ⟨z, rfl, rfl, hzl, hzc⟩
  have HZ : Hid (cl z = c) := hzc
  clear hzc
  go_wp2
  go_ret
  exact ⟨_, 0, rfl, rfl, hzl, HZ.out⟩
theorem ord0_lt (y : Nat) (hy : y < 18446744073709551616) (hn : nanB y = false) (h0 : y % 9223372036854775808 ≠ 0) : FloatKind.f64.format.order y 0 = some .lt ∨ FloatKind.f64.format.order y 0 = some .gt := by
  rw [ord0 y hy hn, if_neg h0]
  split
  · right; rfl
  · left; rfl
theorem pow_both (x y : Nat) (hx : x < 18446744073709551616) (hy : y < 18446744073709551616) : Both2 21 19 x y := by
  by_cases hy0 : y % 9223372036854775808 = 0
  · have hn : nanB y = false := by
      rw [nanB_eq]; exact decide_eq_false (by omega)
    exact (edge1 x y (by rw [ord0 y hy hn, if_pos hy0])).both
  have ey := eq0_not y hy hy0
  by_cases hx1 : x = 4607182418800017408
  · subst hx1
    exact (edge2 y ey).both
  have ex := one_no x hx hx1
  by_cases hxn : nanB x = true
  · exact (edge3 x y ey ex (.inl hxn)).both
  by_cases hyn : nanB y = true
  · exact (edge3 x y ey ex (.inr hyn)).both
  have hxn : nanB x = false := by cases h : nanB x <;> simp_all
  have hyn : nanB y = false := by cases h : nanB y <;> simp_all
  rcases kinds y hy hyn with hyf | hyi
  · have hY : Fi y := ⟨hy, hyn, hyf⟩
    rcases kinds x hx hxn with hxf | hxi
    · by_cases hx0 : x % 9223372036854775808 = 0
      · rcases ord0_lt y hy hyn hy0 with hs | hs <;> cases ho : odB y
        · exact (edge6ne x y hx hx0 hY hs ho).both
        · exact (edge6no x y hx hx0 hY hs ho).both
        · exact (edge6pe x y hx hx0 hY hs ho).both
        · exact (edge6po x y hx hx0 hY hs ho).both
      · have hX : Fi x := ⟨hx, hxn, hxf⟩
        have hP : Pf x y := ⟨hX, hY, hx0, hy0, hx1⟩
        have hlx : x % 9223372036854775808 < 18446744073709551616 := by omega
        obtain ⟨c, hl1, hl2⟩ := ln_both (x % 9223372036854775808) hlx
        cases hw : whB y
        · rcases ord0_lt x hx hxn hx0 with hs | hs
          · exact ⟨_, pow_nan x y hP hw hs, rpow_nan x y hP hw hs⟩
          · exact ⟨_, pow_logw x y c hP hw hs hl1, rpow_logw x y c hP hw hs hl2⟩
        · by_cases hle : y % 9223372036854775808 ≤ 4652218415073722368
          · obtain ⟨K, hK, hK2⟩ := abs_int _ hle
            rcases le_1024 y hle with ho | ho
            · exact ⟨_, pow_whole_lt x y K hP hw ho hK hK2, rpow_whole_lt x y K hP hw ho hK hK2⟩
            · exact ⟨_, pow_whole_eq x y K hP hw ho hK hK2, rpow_whole_eq x y K hP hw ho hK hK2⟩
          · have hgt : FloatKind.f64.format.order (y % 9223372036854775808) 4652218415073722368 = some .gt := by
              rw [pos_order _ _ hyf (by decide), Nat.compare_eq_gt.2 (by omega)]
            rcases ord0_lt x hx hxn hx0 with hs | hs
            · cases ho : odB y
              · exact ⟨_, pow_loge x y c hP hw hgt hs ho hl1, rpow_loge x y c hP hw hgt hs ho hl2⟩
              · exact ⟨_, pow_logo x y c hP hw hgt hs ho hl1, rpow_logo x y c hP hw hgt hs ho hl2⟩
            · exact ⟨_, pow_logp x y c hP hw hgt hs hl1, rpow_logp x y c hP hw hgt hs hl2⟩
    · have : x = 9218868437227405312 ∨ x = 18442240474082181120 := by omega
      rcases this with rfl | rfl <;> rcases ord0_lt y hy hyn hy0 with hs | hs <;> cases ho : odB y
      · exact (edge7pne y hY hs ho).both
      · exact (edge7pno y hY hs ho).both
      · exact (edge7ppe y hY hs ho).both
      · exact (edge7ppo y hY hs ho).both
      · exact (edge7mne y hY hs ho).both
      · exact (edge7mno y hY hs ho).both
      · exact (edge7mpe y hY hs ho).both
      · exact (edge7mpo y hY hs ho).both
  · have hyy : y = 9218868437227405312 ∨ y = 18442240474082181120 := by omega
    by_cases hxm : x = 13830554455654793216
    · subst hxm
      rcases hyy with rfl | rfl
      · exact edge4p.both
      · exact edge4m.both
    · have hc : 4607182418800017408 < x % 9223372036854775808 ∨ x % 9223372036854775808 < 4607182418800017408 := by omega
      rcases hyy with rfl | rfl <;> rcases hc with hc | hc
      · exact (edge5pg x hx hxn hx1 hxm hc).both
      · exact (edge5pl x hx hxn hx1 hxm hc).both
      · exact (edge5mg x hx hxn hx1 hxm hc).both
      · exact (edge5ml x hx hxn hx1 hxm hc).both
theorem md53 : mdC 13840687554816376832 4613937818241073152 = some 13835058055282163712 := by decide +kernel
theorem rd75 : rdC (cl 4619567317775286272) (cl 4617315517961601024) = some 4617315517961601024 := by decide +kernel
theorem pw10 : pwR 4621819117588971520 (pwC 10 10 (cl 4611686018427387904) (some 4607182418800017408)) = some 4652218415073722368 := by decide +kernel
theorem pow_2_10 (w : World) : Calls Try.prog 21 #[.float .f64 4611686018427387904, .float .f64 4621819117588971520] w (RF w (some 4652218415073722368)) := by
  have h := pow_whole_lt 4611686018427387904 4621819117588971520 10 ⟨⟨by decide, by decide, by decide⟩, ⟨by decide, by decide, by decide⟩, by decide, by decide, by decide⟩ (by decide +kernel) (by decide +kernel) (by decide +kernel) (by decide) w
  rw [pw10] at h
  exact h
end Go.Proofs.Ytebjklppbkkinaa
