/- The reference: zeros, Bits, time. -/
import Derived.Test.YtedlmjieclaojabDoorRa
namespace Go.Proofs.YtedlmjieclaojabDoor
open Go.RowKit

theorem lz_bit (x l : Nat) (h0 : 0 < x) (h1 : x < 18446744073709551616) (hl : l ≤ lz x) : x / 2 ^ (63 - l) % 2 = if l < lz x then 0 else 1 := by
  obtain ⟨b1, b2, b3⟩ := lz_spec x h0 h1
  by_cases h : l < lz x
  · rw [if_pos h, Nat.div_eq_of_lt (Nat.lt_of_lt_of_le b3 (Nat.pow_le_pow_right (by decide) (by omega)))]
  · rw [if_neg h]
    obtain rfl : l = lz x := by omega
    have e : 64 - lz x = (63 - lz x) + 1 := by omega
    rw [e, Nat.pow_succ] at b3
    have c1 : x / 2 ^ (63 - lz x) < 2 := by rw [Nat.div_lt_iff_lt_mul (Nat.pow_pos (by decide))]; omega
    have c2 : 1 ≤ x / 2 ^ (63 - lz x) := (Nat.le_div_iff_mul_le (Nat.pow_pos (by decide))).2 (by omega)
    omega
theorem tz_bit (x r : Nat) (h0 : 0 < x) (h1 : x < 18446744073709551616) (hr : r ≤ tz x) : x / 2 ^ r % 2 = if r < tz x then 0 else 1 := by
  obtain ⟨a1, a2, a3⟩ := tz_spec x h0 h1
  by_cases h : r < tz x
  · rw [if_pos h]
    obtain ⟨k, hk⟩ : ∃ k, tz x = r + (k + 1) := ⟨tz x - r - 1, by omega⟩
    generalize x / 2 ^ tz x = q at *
    rw [a2, hk, Nat.pow_add, Nat.mul_comm (2 ^ r), ← Nat.mul_assoc, Nat.mul_div_cancel _ (Nat.pow_pos (by decide)), Nat.pow_succ, ← Nat.mul_assoc]
    omega
  · rw [if_neg h]
    obtain rfl : r = tz x := by omega
    exact a3
set_option maxHeartbeats 2000000 in
set_option maxRecDepth 100000 in
theorem zeros_any (x : Nat) (w : World) (h0 : 0 < x) (h1 : x < 18446744073709551616) :
    Calls Tryd.prog 51 #[.int .u64 (x : Nat)] w fun e w' => e = .returned (.tuple #[.int .i64 (lz x : Nat), .int .i64 (tz x : Nat)]) ∧ w' = w := by
  have HL : Hid (∀ l, l ≤ lz x → x / 2 ^ (63 - l) % 2 = if l < lz x then 0 else 1) := fun l hl => lz_bit x l h0 h1 hl
  have HR : Hid (∀ r, r ≤ tz x → x / 2 ^ r % 2 = if r < tz x then 0 else 1) := fun r hr => tz_bit x r h0 h1 hr
  have hl := (lz_spec x h0 h1).1
  have ht := (tz_spec x h0 h1).1
  have HA : Hid (∀ d, bits BinOp.and IntKind.u64 ((x : Int) / 2 ^ d) 1 = ((x / 2 ^ d % 2 : Nat) : Int)) := fun d => and_one x d h1
  obtain ⟨X, hX⟩ : ∃ X : Int, X = (x : Nat) := ⟨_, rfl⟩
  have hX0 : 0 ≤ X := by omega
  have hX1 : X ≤ 18446744073709551615 := by omega
  rw [← hX] at HA ⊢
  generalize lz x = lx at *
  generalize tz x = tx at *
  clear hX h0 h1
  go_enter Tryd.func51, Tryd.ntmps51
  go_wp2_with fail
  go_loopw [4] (fun lv w' => ∃ l : Nat, lv = .int .i64 (l : Nat) ∧ l ≤ lx ∧ w' = w) (fun lv _ => lx - (RowKit.intOf lv).toNat)
  case atStart => exact ⟨0, rfl, Nat.zero_le _, rfl⟩
  case round =>
    obtain ⟨l, rfl, hll, rfl⟩ := hrel
    have hb := HA.out (63 - l)
    rw [HL.out l hll] at hb
    have hm : (63 : Int) - (l : Int) = ((63 - l : Nat) : Int) := by omega
    have hm2 : ((63 - l : Nat) : Int) < 64 := by omega
    have hm3 : IntKind.i64.wrap ((63 : Int) - (l : Int)) = ((63 - l : Nat) : Int) := by rw [IntKind.wrap_i64]; omega
    by_cases hlt : l < lx
    · rw [if_pos hlt] at hb
      go_wp2
      exact ⟨⟨l + 1, by go_num, by omega, trivial⟩, by simp [RowKit.intOf]; omega⟩
    · rw [if_neg hlt] at hb
      obtain rfl : l = lx := by omega
      clear HL
      go_wp2_with fail
      go_loopw [5] (fun rv w' => ∃ r : Nat, rv = .int .i64 (r : Nat) ∧ r ≤ tx ∧ w' = wr) (fun rv _ => tx - (RowKit.intOf rv).toNat)
      case atStart => exact ⟨0, rfl, Nat.zero_le _, rfl⟩
      case round =>
        obtain ⟨r, rfl, hrr, rfl⟩ := hrel
        have hb := HA.out r
        rw [HR.out r hrr] at hb
        have hm2 : (r : Int) < 64 := by omega
        by_cases hlt : r < tx
        · rw [if_pos hlt] at hb
          go_wp2
          exact ⟨⟨r + 1, by go_num, by omega, trivial⟩, by simp [RowKit.intOf]; omega⟩
        · rw [if_neg hlt] at hb
          obtain rfl : r = tx := by omega
          go_wp2
          go_ret2
          exact ⟨rfl, rfl⟩
theorem cb_shl (v : Nat) : cb v = if 18437736874454810624 < v * 2 % 18446744073709551616 then 9221120237041090561 else v := by
  unfold cb
  by_cases hh : 9218868437227405312 < v % 9223372036854775808
  · rw [if_pos hh, if_pos (by omega)]
  · rw [if_neg hh, if_neg (by omega)]
set_option maxHeartbeats 1000000 in
theorem rbits_any (x : Nat) (hx : x < 18446744073709551616) (w : World) : Calls Tryd.prog 41 #[.float .f64 x] w fun r w' => r = .returned (.int .u64 (cb x : Nat)) ∧ w' = w := by
  have h1 := callBits x
  rw [cb_shl x]
  obtain ⟨X, hX⟩ : ∃ X : Int, X = (x : Nat) := ⟨_, rfl⟩
  have hX0 : 0 ≤ X := by omega
  have hX1 : X ≤ 18446744073709551615 := by omega
  have HX : Hid (X = (x : Nat)) := hX
  rw [← hX] at h1
  by_cases hh : 18437736874454810624 < x * 2 % 18446744073709551616
  · rw [if_pos hh]
    have e' : (18437736874454810624 : Int) < IntKind.u64.wrap (X * 2) := by rw [IntKind.wrap_u64]; omega
    clear hh hX hx
    go_enter Tryd.func41, Tryd.ntmps41
    go_wp2
    go_ret
    exact ⟨rfl, rfl⟩
  · rw [if_neg hh]
    have e' : ¬ (18437736874454810624 : Int) < IntKind.u64.wrap (X * 2) := by rw [IntKind.wrap_u64]; omega
    rw [← HX.out]
    clear hh hX hx
    go_enter Tryd.func41, Tryd.ntmps41
    go_wp2
    go_ret
    exact ⟨rfl, rfl⟩

/-- The reference's ways of a step's change. -/
theorem w64_small (y : Int) (h : 0 ≤ y) (h' : y < 18446744073709551616) : (w64 y : Int) = y := by rw [w64_cast]; omega
theorem rch_iff (k : Nat) (e : Int) (h1 : -9223372036854775808 ≤ e) (h2 : e ≤ 9223372036854775807) (hk : k < 4) : rch k e = true ↔ 0 ≤ e - scL k ∧ e - scL k < 2 ^ scW k := by
  have hc := w64_cast (e - scL k)
  unfold rch abv
  rw [decide_eq_true_iff]
  have : k = 0 ∨ k = 1 ∨ k = 2 ∨ k = 3 := by omega
  rcases this with rfl | rfl | rfl | rfl <;> simp [scL, scW] at hc ⊢ <;> omega
theorem way0 (e : Int) (h1 : -9223372036854775808 ≤ e) (h2 : e ≤ 9223372036854775807) : wayOf e = if e = 0 then 0 else if -63 ≤ e ∧ e ≤ 64 then 1 else if -255 ≤ e ∧ e ≤ 256 then 2 else if -2047 ≤ e ∧ e ≤ 2048 then 3 else 4 := by
  have r0 := rch_iff 0 e h1 h2 (by decide)
  have r1 := rch_iff 1 e h1 h2 (by decide)
  have r2 := rch_iff 2 e h1 h2 (by decide)
  have r3 := rch_iff 3 e h1 h2 (by decide)
  simp [scL, scW] at r0 r1 r2 r3
  unfold wayOf
  by_cases c0 : e = 0
  · rw [if_pos c0, if_pos (r0.2 (by omega))]
  · rw [if_neg c0, if_neg (fun h => c0 (by have := r0.1 h; omega))]
    by_cases c1 : -63 ≤ e ∧ e ≤ 64
    · rw [if_pos c1, if_pos (r1.2 (by omega))]
    · rw [if_neg c1, if_neg (fun h => c1 (by have := r1.1 h; omega))]
      by_cases c2 : -255 ≤ e ∧ e ≤ 256
      · rw [if_pos c2, if_pos (r2.2 (by omega))]
      · rw [if_neg c2, if_neg (fun h => c2 (by have := r2.1 h; omega))]
        by_cases c3 : -2047 ≤ e ∧ e ≤ 2048
        · rw [if_pos c3, if_pos (r3.2 (by omega))]
        · rw [if_neg c3, if_neg (fun h => c3 (by have := r3.1 h; omega))]
theorem Nq.next {S : Nat} {v v1 : Value} {L X Y : List Int} {w w1 w2 : World} {e : Ending} (s1 : Sub w v v1) (k1 : Kp (fun k => v.ownBlock = some k) w w1) (h : Nq S v1 (L ++ X) Y w1 e w2) : Nq S v L (X ++ Y) w e w2 := by
  obtain ⟨v', rfl, h2, s2, k2⟩ := h
  exact ⟨v', rfl, by rw [← List.append_assoc]; exact h2, s1.trans s2 k1.size, kp_own k1 s1 k2⟩
theorem Rw.form {S : Nat} {w : World} {v : Value} {L : List Int} (h : Rw S w v L) : ∃ a c, v = .slice a L.length c := by
  rcases h.row.2 with ⟨e, e2⟩ | ⟨g, c, cur, e, _, hg, _⟩
  · exact ⟨none, 0, by rw [e, e2]⟩
  · exact ⟨_, c, e⟩
end Go.Proofs.YtedlmjieclaojabDoor
