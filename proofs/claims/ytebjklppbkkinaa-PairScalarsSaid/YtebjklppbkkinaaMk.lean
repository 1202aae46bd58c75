/- Powers by squaring, on both sides. -/
import Derived.Test.YtebjklppbkkinaaMj
import Derived.Test.YtebjklppbkkinaaPy
namespace Go.Proofs.Ytebjklppbkkinaa
open Go.RowKit Ieee

/-- By squaring, from the lowest bit on. -/
def pwC : Nat → Nat → Option Nat → Option Nat → Option Nat
  | 0, _, _, r => r
  | f + 1, n, a, r => if n = 0 then r else pwC f (n / 2) (if n / 2 = 0 then a else fb .mul a a) (if n % 2 = 1 then fb .mul r a else r)
theorem pwC_end (f : Nat) (a r : Option Nat) : pwC f 0 a r = r := by
  cases f
  · rfl
  · unfold pwC; rw [if_pos rfl]
/-- What is still to be done. -/
def Pw (n : Nat) (a r C : Option Nat) : Prop := ∃ f, n ≤ f ∧ pwC f n a r = C
theorem Pw.end {a r C : Option Nat} (h : Pw 0 a r C) : r = C := by
  obtain ⟨f, -, h⟩ := h
  rw [pwC_end] at h
  exact h
theorem Pw.step {n : Nat} {a r C : Option Nat} (h : Pw n a r C) (hn : n ≠ 0) : Pw (n / 2) (if n / 2 = 0 then a else fb .mul a a) (if n % 2 = 1 then fb .mul r a else r) C := by
  obtain ⟨f, hf, h⟩ := h
  cases f with
  | zero => exact absurd (by omega) hn
  | succ f =>
    unfold pwC at h
    rw [if_neg hn] at h
    exact ⟨f, by omega, h⟩
theorem abs_int (y : Nat) (hl : y ≤ 4652218415073722368) : ∃ K : Nat, floatToIntVal .f64 y .i64 = some (K : Int) ∧ K ≤ 9007199254740992 := by
  have hu := uv_mono y 4845873199050653696 (by omega)
  rw [uv_53] at hu
  have e : y % 2 ^ 63 = y := Nat.mod_eq_of_lt (by omega)
  obtain ⟨K, h1, h2, h3, h4⟩ := toInt_bd y 9007199254740992 (by rw [e]; omega) (by rw [e]; exact hu) (by decide)
  obtain ⟨k, rfl⟩ : ∃ k : Nat, K = k := ⟨K.toNat, by have := h4 (by omega); omega⟩
  exact ⟨k, h1, by omega⟩
/-- The answer, of the power by squaring. -/
def pwR (y : Nat) (C : Option Nat) : Option Nat := if FloatKind.f64.format.order y 0 = some .lt then fb .quo (some 4607182418800017408) C else C
set_option maxRecDepth 100000 in
set_option maxHeartbeats 2000000 in
theorem powWhole_any (x y K : Nat) (hy : y < 18446744073709551616) (hK : floatToIntVal .f64 (y % 9223372036854775808) .i64 = some (K : Int)) (hK2 : K ≤ 9007199254740992) (w : World) :
    Calls Try.prog 41 #[.float .f64 x, .float .f64 y] w (RF w (pwR y (pwC K K (cl x) (some 4607182418800017408)))) := by
  have kA := abs_any y hy
  have hcv : ∀ w, (convert 22 3 (.float .f64 (y % 9223372036854775808))).run Try.prog w = .ok (.int .i64 (K : Int)) w := fun w => run_convert_float_int w 22 3 .f64 .i64 _ K (by rw [Try.underlying22]; rfl) (by rw [Try.underlying3]) hK
  have hm := @run_fmul Try.prog
  have hq := @run_fquo Try.prog
  have HC : Hid (Pw K (cl x) (cl 4607182418800017408) (pwC K K (cl x) (some 4607182418800017408))) := ⟨K, by omega, by rw [cl_lit 4607182418800017408 (by decide)]⟩
  generalize hC : pwC K K (cl x) (some 4607182418800017408) = C at *
  generalize y % 9223372036854775808 = y' at *
  clear hK hC
  generalize hR : pwR y C = R
  have HR : Hid (pwR y C = R) := hR
  clear hR
  go_enter Try.func41, Try.ntmps41
  go_wp2_with fail
  go_fit (kA _)
  rintro r w ⟨rfl, rfl⟩
  go_wp2
  go_loopw [5, 6, 7] (fun av rv nv w' => ∃ (a r n k : Nat), av = .float .f64 a ∧ rv = .float .f64 r ∧ nv = .int .i64 (n : Int) ∧ w' = w.drewN k ∧ n ≤ 9007199254740992 ∧ r < 18446744073709551616 ∧ Hid (Pw n (cl a) (cl r) C)) (fun _ _ nv _ => (RowKit.intOf nv).toNat)
  case atStart => exact ⟨x, _, K, 0, rfl, rfl, rfl, rfl, hK2, by decide, HC⟩
  case round =>
    obtain ⟨a, r, n, k, rfl, rfl, rfl, rfl, hn, hrl, HP⟩ := hrel
    by_cases hn0 : n = 0
    · subst hn0
      have hrC := HP.out.end
      have hz : ¬ (0 : Int) < ((0 : Nat) : Int) := by decide
      by_cases hs : FloatKind.f64.format.order y 0 = some .lt
      · have HR2 : Hid (fb .quo (some 4607182418800017408) C = R) := by
          have := HR.out
          unfold pwR at this
          rw [if_pos hs] at this
          exact this
        have HrC : Hid (cl r = C) := hrC
        clear hrC
        go_wp2
        go_ret
        refine ⟨_, _, rfl, rfl, fz_lt _ _ _ _, ?_⟩
        rw [cl_fz, cl_lit 4607182418800017408 (by decide), HrC.out]
        exact HR2.out
      · have hs' : (FloatKind.f64.format.order y 0 == some .lt) = false := beq_eq_false_iff_ne.2 hs
        have HR2 : Hid (C = R) := by
          have := HR.out
          unfold pwR at this
          rw [if_neg hs] at this
          exact this
        have HrC : Hid (cl r = C) := hrC
        clear hrC hs
        go_wp2
        go_ret
        exact ⟨_, _, rfl, rfl, hrl, HrC.out.trans HR2.out⟩
    · have hgt : (0 : Int) < (n : Int) := by omega
      obtain ⟨q, hq⟩ : ∃ q, n / 2 = q := ⟨_, rfl⟩
      have hst := HP.out.step hn0
      rw [hq] at hst
      have hd1 : (n : Int).tdiv 2 = (q : Int) := by rw [Int.tdiv_eq_ediv_of_nonneg (by omega)]; omega
      have hd2 : (n : Int) / 2 = (q : Int) := by omega
      have hqn : q < n := by omega
      clear hq
      by_cases ho : n % 2 = 1
      · rw [if_pos ho] at hst
        have hr1 : (n : Int).tmod 2 = 1 := by rw [Int.tmod_eq_emod_of_nonneg (by omega)]; omega
        have hr2 : (n : Int) % 2 = 1 := by omega
        by_cases hq0 : q = 0
        · rw [if_pos hq0] at hst
          subst hq0
          have hz : ¬ (0 : Int) < ((0 : Nat) : Int) := by decide
          have HS : Hid _ := hst
          clear hst ho
          go_wp2
          refine ⟨⟨a, _, 0, _, rfl, rfl, rfl, rfl, by omega, fz_lt _ _ _ _, ?_⟩, by simp only [RowKit.intOf]; omega⟩
          show Pw _ _ _ _
          rw [cl_fz]
          exact HS.out
        · rw [if_neg hq0] at hst
          have hz : (0 : Int) < (q : Int) := by omega
          have HS : Hid _ := hst
          clear hst ho
          go_wp2
          refine ⟨⟨_, _, q, _, rfl, rfl, rfl, rfl, by omega, fz_lt _ _ _ _, ?_⟩, by simp only [RowKit.intOf]; omega⟩
          show Pw _ _ _ _
          rw [cl_fz, cl_fz]
          exact HS.out
      · rw [if_neg ho] at hst
        have hr1 : (n : Int).tmod 2 = 0 := by rw [Int.tmod_eq_emod_of_nonneg (by omega)]; omega
        have hr2 : (n : Int) % 2 = 0 := by omega
        by_cases hq0 : q = 0
        · exfalso; omega
        · rw [if_neg hq0] at hst
          have hz : (0 : Int) < (q : Int) := by omega
          have HS : Hid _ := hst
          clear hst ho
          go_wp2
          refine ⟨⟨_, r, q, _, rfl, rfl, rfl, rfl, by omega, hrl, ?_⟩, by simp only [RowKit.intOf]; omega⟩
          show Pw _ _ _ _
          rw [cl_fz]
          exact HS.out
end Go.Proofs.Ytebjklppbkkinaa
