/- The reference's remainder. -/
import Derived.Test.YtebjklppbkkinaaMf
namespace Go.Proofs.Ytebjklppbkkinaa
open Go.RowKit Ieee

set_option maxRecDepth 100000 in
set_option maxHeartbeats 2000000 in
theorem exact_any (n : Nat) (e : Int) (hn : n < 2 ^ 53) (he : -1074 ≤ e) (he2 : e ≤ 971) (w : World) : Calls Try.prog 27 #[.int .u64 (n : Int), .int .i64 e] w fun r w' => r = .returned (.float .f64 (vw (n * 2 ^ (e + 1074).toNat))) ∧ w' = w := by
  by_cases h0 : n = 0
  · subst h0
    have e1 : vw (0 * 2 ^ (e + 1074).toNat) = 0 := by rw [Nat.zero_mul]; unfold vw; rw [nearest_zero, word_pos]
    rw [e1, show ((0 : Nat) : Int) = 0 from rfl]
    go_enter Try.func27, Try.ntmps27
    go_wp2
    go_ret
    exact ⟨rfl, rfl⟩
  · generalize hV : n * 2 ^ (e + 1074).toNat = V
    have HV : Hid (n * 2 ^ (e + 1074).toNat = V) := hV
    clear hV
    generalize hVV : vw V = VV
    have HVV : Hid (vw V = VV) := hVV
    clear hVV
    have h0' : ¬ (n : Int) = 0 := by omega
    go_enter Try.func27, Try.ntmps27
    go_wp2
    go_loopw [0, 1] (fun nv ev w' => ∃ (n : Nat) (e : Int), nv = .int .u64 (n : Int) ∧ ev = .int .i64 e ∧ w' = w ∧ n ≠ 0 ∧ n < 2 ^ 53 ∧ -1074 ≤ e ∧ e ≤ 971 ∧ Hid (n * 2 ^ (e + 1074).toNat = V)) (fun nv _ _ => (RowKit.intOf nv).toNat)
    case atStart => exact ⟨n, e, rfl, rfl, rfl, h0, hn, he, he2, HV⟩
    case round =>
      obtain ⟨n, e, rfl, rfl, rfl, h0, hn, he, he2, HV⟩ := hrel
      by_cases hc : n % 2 = 0 ∧ e < 900
      · obtain ⟨q, hq⟩ : ∃ q, n = q * 2 := ⟨n / 2, by omega⟩
        have HQ : Hid (q * 2 ^ (e + 1 + 1074).toNat = V) := by
          have := HV.out
          rw [hq] at this
          show _ = _
          rw [← this, Nat.mul_assoc, show (e + 1 + 1074).toNat = (e + 1074).toNat + 1 by omega, Nat.pow_succ]
          congr 1
          exact Nat.mul_comm _ _
        have h1 : (n : Int) % 2 = 0 := by omega
        have h2 : (n : Int) / 2 = (q : Int) := by omega
        have h3 := hc.2
        go_wp2
        exact ⟨⟨q, e + 1, rfl, rfl, trivial, by omega, by omega, by omega, by omega, HQ⟩, by simp only [RowKit.intOf]; omega⟩
      · have hup : Hid (∀ p : Int, -1074 ≤ p → floatBits .mul .f64 (Ieee.double.nearest false n p) 4611686018427387904 = some (Ieee.double.nearest false n (p + 1))) := fun p hp => near_double n p hn hp
        have hdn : Hid (∀ p : Int, -1074 ≤ p → p ≤ 971 → floatBits .quo .f64 (Ieee.double.nearest false n p) 4611686018427387904 = some (Ieee.double.nearest false n (p - 1))) := fun p hp hp2 => near_half n p h0 hn hp hp2
        have HE : Hid (Ieee.double.nearest false n e = VV) := by
          show _ = _
          rw [← HVV.out, ← HV.out, vw_shift]
          congr 1
          omega
        have hcv := cvU n
        generalize Ieee.double.nearest false n = N at *
        by_cases hc1 : n % 2 = 0
        · have h3 : ¬ e < 900 := fun h => hc ⟨hc1, h⟩
          have h1 : (n : Int) % 2 = 0 := by omega
          go_wp2
          go_loopw [1, 5] (fun ev vv w' => ∃ (e' : Int), ev = .int .i64 e' ∧ vv = .float .f64 (N (e - e')) ∧ w' = wr ∧ e' ≤ e ∧ (0 ≤ e' ∨ e' = e)) (fun ev _ _ => (RowKit.intOf ev).toNat)
          case atStart => exact ⟨e, rfl, by rw [Int.sub_self], rfl, by omega, .inr rfl⟩
          case round =>
            obtain ⟨e', rfl, rfl, rfl, hb1, hb2⟩ := hrel
            by_cases hg : 0 < e'
            · have hm : ∀ t w, (binOp .mul t (.float .f64 (N (e - e'))) (.float .f64 4611686018427387904)).run Try.prog w = .ok (.float .f64 (N (e - e' + 1))) w := fun t w => run_float_arith w .mul t .f64 _ _ _ (hup.out _ (by omega))
              go_wp2
              refine ⟨⟨e' - 1, rfl, ?_, trivial, by omega, by omega⟩, by simp [RowKit.intOf]; omega⟩
              refine congrArg (fun z => Value.float .f64 (N z)) ?_
              omega
            · go_wp2
              go_loopw [1, 5] (fun ev vv w' => ∃ (e2 : Int), ev = .int .i64 e2 ∧ vv = .float .f64 (N (e - e2)) ∧ w' = wr ∧ e2 ≤ 0 ∧ e' ≤ e2 ∧ (e' ≠ e → e2 = 0)) (fun ev _ _ => (-(RowKit.intOf ev)).toNat)
              case atStart => exact ⟨e', rfl, rfl, rfl, by omega, by omega, by omega⟩
              case round =>
                obtain ⟨e2, rfl, rfl, rfl, hb3, hb4, hb5⟩ := hrel
                by_cases hz : e2 = 0
                · subst hz
                  rw [Int.sub_zero, HE.out]
                  go_wp2
                  go_ret
                  exact ⟨rfl, rfl⟩
                · have hm : ∀ t w, (binOp .quo t (.float .f64 (N (e - e2))) (.float .f64 4611686018427387904)).run Try.prog w = .ok (.float .f64 (N (e - e2 - 1))) w := fun t w => run_float_arith w .quo t .f64 _ _ _ (hdn.out _ (by omega) (by omega))
                  have hl : e2 < 0 := by omega
                  have hl2 : -2000 < e2 := by omega
                  go_wp2
                  refine ⟨⟨e2 + 1, rfl, ?_, trivial, by omega, by omega, by omega⟩, by simp [RowKit.intOf]; omega⟩
                  refine congrArg (fun z => Value.float .f64 (N z)) ?_
                  omega
        · have h1 : (n : Int) % 2 = 1 := by omega
          go_wp2
          go_loopw [1, 5] (fun ev vv w' => ∃ (e' : Int), ev = .int .i64 e' ∧ vv = .float .f64 (N (e - e')) ∧ w' = wr ∧ e' ≤ e ∧ (0 ≤ e' ∨ e' = e)) (fun ev _ _ => (RowKit.intOf ev).toNat)
          case atStart => exact ⟨e, rfl, by rw [Int.sub_self], rfl, by omega, .inr rfl⟩
          case round =>
            obtain ⟨e', rfl, rfl, rfl, hb1, hb2⟩ := hrel
            by_cases hg : 0 < e'
            · have hm : ∀ t w, (binOp .mul t (.float .f64 (N (e - e'))) (.float .f64 4611686018427387904)).run Try.prog w = .ok (.float .f64 (N (e - e' + 1))) w := fun t w => run_float_arith w .mul t .f64 _ _ _ (hup.out _ (by omega))
              go_wp2
              refine ⟨⟨e' - 1, rfl, ?_, trivial, by omega, by omega⟩, by simp [RowKit.intOf]; omega⟩
              refine congrArg (fun z => Value.float .f64 (N z)) ?_
              omega
            · go_wp2
              go_loopw [1, 5] (fun ev vv w' => ∃ (e2 : Int), ev = .int .i64 e2 ∧ vv = .float .f64 (N (e - e2)) ∧ w' = wr ∧ e2 ≤ 0 ∧ e' ≤ e2 ∧ (e' ≠ e → e2 = 0)) (fun ev _ _ => (-(RowKit.intOf ev)).toNat)
              case atStart => exact ⟨e', rfl, rfl, rfl, by omega, by omega, by omega⟩
              case round =>
                obtain ⟨e2, rfl, rfl, rfl, hb3, hb4, hb5⟩ := hrel
                by_cases hz : e2 = 0
                · subst hz
                  rw [Int.sub_zero, HE.out]
                  go_wp2
                  go_ret
                  exact ⟨rfl, rfl⟩
                · have hm : ∀ t w, (binOp .quo t (.float .f64 (N (e - e2))) (.float .f64 4611686018427387904)).run Try.prog w = .ok (.float .f64 (N (e - e2 - 1))) w := fun t w => run_float_arith w .quo t .f64 _ _ _ (hdn.out _ (by omega) (by omega))
                  have hl : e2 < 0 := by omega
                  have hl2 : -2000 < e2 := by omega
                  go_wp2
                  refine ⟨⟨e2 + 1, rfl, ?_, trivial, by omega, by omega, by omega⟩, by simp [RowKit.intOf]; omega⟩
                  refine congrArg (fun z => Value.float .f64 (N z)) ?_
                  omega
end Go.Proofs.Ytebjklppbkkinaa
