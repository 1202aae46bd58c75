/- A bundle of texts. -/
import Derived.Test.YtmjenemjbpimcaaBe23
import Derived.Test.YtmjenemjbpimcaaBe04
import Derived.Test.YtmjenemjbpimcaaBe06
import Derived.Test.YtmjenemjbpimcaaBe15
import Derived.Test.YtmjenemjbpimcaaBe19
/- OverWiden: sums, quotients and products that don't fall. -/
namespace Go.Proofs.Ytmjenemjbpimcaa
open Go.RowKit Ieee

theorem uv_inj (a b : Nat) (h : uv a = uv b) : a = b := by
  rcases Nat.lt_trichotomy a b with h1 | h1 | h1
  · have := uv_strict a b h1; omega
  · exact h1
  · have := uv_strict b a h1; omega
/-- A float is its own rounding. -/
theorem R_uv (x : Nat) (h : x % 2 ^ 63 < 0x7ff0000000000000) : R (-1074) (uv (x % 2 ^ 63)) = x % 2 ^ 63 := by
  by_cases h0 : x % 2 ^ 63 = 0
  · rw [h0]; rfl
  obtain ⟨s, m, i, hr, hi⟩ := read_top x h
  have hu := read_uv x s m i hr
  obtain ⟨hp1, hp2⟩ := read_place x s m i hr
  have hm : m ≠ 0 := fun hm => by
    rw [hm, Nat.zero_mul] at hu
    exact h0 (uv_inj _ 0 (by rw [← hu]; rfl))
  have hlog : m.log2 ≤ 52 := log2_le52' m hp2
  obtain ⟨k, hk, hr2, hf⟩ := read_near false m i hm hp2 hp1 (by omega)
  have hu2 := read_uv _ _ _ _ hr2
  have e1 : (m <<< k) * 2 ^ (i - (k : Int) + 1074).toNat = m * 2 ^ (i + 1074).toNat := by
    rw [Nat.shiftLeft_eq, Nat.mul_assoc, ← Nat.pow_add]
    congr 2
    omega
  rw [e1, hu] at hu2
  have e2 := uv_inj _ _ hu2
  have hr63 : rung m i < 2 ^ 63 := by
    have : rung m i ≤ 0x7ff0000000000000 := by rw [rung_eq]; exact Nat.min_le_right _ _
    omega
  rw [nearest_rung _ _ _ hm, word_pos, Nat.mod_eq_of_lt hr63] at e2
  have e3 : uv (x % 2 ^ 63) = m <<< (i + 1074).toNat := by rw [Nat.shiftLeft_eq, hu]
  have e4 : uv (x % 2 ^ 63) ≠ 0 := fun h => h0 (uv_inj _ 0 (by rw [h]; rfl))
  unfold R
  rw [if_neg e4, e3, rung_shift _ _ _ hm, e2]
  congr 1
  omega
theorem vx_abs (x : Nat) : (vx x).natAbs = uv (x % 2 ^ 63) := by
  unfold vx sv
  split <;> omega
/-- Writing what was read. -/
theorem ky_wr_vx (x : Nat) (s : Bool) (h : x % 2 ^ 63 < 0x7ff0000000000000) : ky (wr (vx x) s) = ky x := by
  rw [ky_wr, vx_abs, R_uv x h, (ky_fin x h).2]
  have hv : vx x = sv (sgn x) (uv (x % 2 ^ 63)) := rfl
  rw [hv]
  cases sgn x
  · show (if ((uv (x % 2 ^ 63) : Nat) : Int) < 0 then _ else _) = ((x % 2 ^ 63 : Nat) : Int)
    rw [if_neg (by omega)]
  · show (if -((uv (x % 2 ^ 63) : Nat) : Int) < 0 then _ else _) = -((x % 2 ^ 63 : Nat) : Int)
    by_cases h0 : uv (x % 2 ^ 63) = 0
    · have : x % 2 ^ 63 = 0 := uv_inj _ 0 (by rw [h0]; rfl)
      rw [this]
      rfl
    · rw [if_pos (by omega)]
/-- Adding what isn't below 0. -/
theorem add_up (s a : Nat) (hs : s % 2 ^ 63 < 0x7ff0000000000000) (ha : a % 2 ^ 63 < 0x7ff0000000000000) (h0 : 0 ≤ ky a) : ∃ z, floatBits .add .f64 s a = some z ∧ ky s ≤ ky z := by
  obtain ⟨t, m, i, hr, hu, _⟩ := read_vx s hs
  have r0 : Ieee.double.read 0 = .number false 0 (-1074) := by decide +kernel
  obtain ⟨z0, z, e0, e1, h1⟩ := add_mono s 0 a hs (by decide) ha (by rw [show ky 0 = 0 by decide]; exact h0)
  refine ⟨z, e1, ?_⟩
  rw [add_fin s 0 _ _ _ _ _ _ hr r0] at e0
  have hz : un false 0 (-1074) = 0 := by
    unfold un
    rw [signed_eq, Nat.zero_mul]
    rfl
  have := Option.some.inj e0
  rw [hz, Int.add_zero, hu] at this
  rw [← this, ky_wr_vx s _ hs] at h1
  exact h1
/-- Times what isn't below 1. -/
theorem mul_up (g t : Nat) (hg : g % 2 ^ 63 < 0x7ff0000000000000) (hg0 : 0 ≤ ky g) (ht : t % 2 ^ 63 < 0x7ff0000000000000) (h1 : 4607182418800017408 ≤ ky t) : ∃ z, floatBits .mul .f64 g t = some z ∧ ky g ≤ ky z := by
  obtain ⟨z, z', e1, _, _, e4, h, _⟩ := mul_mono 4607182418800017408 t g (by decide) ht (by decide) (by rw [ky_one]; exact h1) hg hg0
  obtain ⟨y, f1, f2, f3⟩ := mul_ky g 4607182418800017408 hg hg0 false _ _ rdOne (fun _ => rfl)
  rw [f2] at e1
  obtain rfl := Option.some.inj e1
  refine ⟨z', e4, Int.le_trans (Int.le_of_eq ?_) h⟩
  obtain ⟨_, _, _, _, _, _, _, _, ek⟩ := pos_read g hg hg0
  rw [f3, ek]
  have : R (-52 - 1074) (uv (g % 2 ^ 63) * 2 ^ 52) = R (-1074) (uv (g % 2 ^ 63)) := by
    unfold R
    by_cases h0 : uv (g % 2 ^ 63) = 0
    · rw [h0]; rfl
    · rw [if_neg h0, if_neg (by omega), ← Nat.shiftLeft_eq, rung_shift _ _ _ h0]
      rfl
  rw [this, R_uv g hg]
/-- By what isn't greater. -/
theorem quo_up (s t : Nat) (hs : s % 2 ^ 63 < 0x7ff0000000000000) (ht : t % 2 ^ 63 < 0x7ff0000000000000) (h0 : 0 < ky s) (h : ky s ≤ ky t) : ∃ z, floatBits .quo .f64 t s = some z ∧ 4607182418800017408 ≤ ky z := by
  obtain ⟨sg, m, i, hr, hu, _, _, hsm, ek⟩ := pos_read s hs (by omega)
  have hm : m ≠ 0 := fun hm => by
    rw [hm, Nat.zero_mul] at hu
    have := uv_inj _ 0 (by rw [← hu]; rfl)
    omega
  obtain rfl := hsm hm
  obtain ⟨z, z', e1, e2, h1, _⟩ := quo_mono s t s hs ht (by omega) h m i hr hm
  rw [quo_self s _ _ _ hr hm] at e1
  obtain rfl := Option.some.inj e1
  rw [ky_one] at h1
  exact ⟨z', e2, h1⟩
end Go.Proofs.Ytmjenemjbpimcaa
/- OverWiden: seconds. -/
namespace Go.Proofs.Ytmjenemjbpimcaa
open Go.RowKit Ieee

theorem iw_R (d : Nat) : ky (iw (d : Int)) = (R 0 d : Int) := by
  rw [iw_eq, show decide ((d : Int) < 0) = false from decide_eq_false (by omega), Int.natAbs_natCast, ky_near]
  rfl
theorem R01 : R 0 1 = 4607182418800017408 := by decide +kernel
theorem R054 : R 0 18014398509481984 = 4850376798678024192 := by decide +kernel
theorem iw_top (d : Nat) (h : d ≤ 18014398509481984) : 0 ≤ ky (iw (d : Int)) ∧ ky (iw (d : Int)) ≤ 4850376798678024192 ∧ (0 < d → 4607182418800017408 ≤ ky (iw (d : Int))) ∧ iw (d : Int) % 2 ^ 63 < 0x7ff0000000000000 := by
  have h1 := iw_R d
  have h2 := R_mono 0 d _ h
  rw [R054] at h2
  refine ⟨by omega, by omega, fun h0 => ?_, fin_of _ (by omega) (by omega)⟩
  have h3 := R_mono 0 1 d h0
  rw [R01] at h3
  omega
theorem rd1000 : Ieee.double.read 4652007308841189376 = .number false 8796093022208000 (-43) := by decide +kernel
theorem q1c : floatBits .quo .f64 4607182418800017408 4652007308841189376 = some 4562254508917369340 := by decide +kernel
theorem q54c : floatBits .quo .f64 4850376798678024192 4652007308841189376 = some 4805448888795376124 := by decide +kernel
/-- So many seconds, of milliseconds that aren't below 0. -/
theorem sec_nn (d : Nat) (h : d ≤ 18014398509481984) : ∃ z, secF (d : Int) = some z ∧ z % 2 ^ 63 < 0x7ff0000000000000 ∧ 0 ≤ ky z ∧ ky z ≤ 4805448888795376124 ∧ (0 < d → 4562254508917369340 ≤ ky z) := by
  obtain ⟨a1, a2, a3, a4⟩ := iw_top d h
  obtain ⟨z, z', e, e', h1, h0⟩ := quo_mono (iw (d : Int)) 4850376798678024192 4652007308841189376 a4 (by decide) a1 (by rw [show ky 4850376798678024192 = 4850376798678024192 by decide]; exact a2) _ _ rd1000 (by decide)
  rw [q54c] at e'
  obtain rfl := Option.some.inj e'
  rw [show ky 4805448888795376124 = 4805448888795376124 by decide] at h1
  refine ⟨z, e, fin_of _ (by omega) (by omega), h0, h1, fun hd => ?_⟩
  obtain ⟨y, y', f, f', g1, _⟩ := quo_mono 4607182418800017408 (iw (d : Int)) 4652007308841189376 (by decide) a4 (by decide) (by rw [ky_one]; exact a3 hd) _ _ rd1000 (by decide)
  rw [q1c] at f
  rw [e] at f'
  obtain rfl := Option.some.inj f
  obtain rfl := Option.some.inj f'
  exact g1
end Go.Proofs.Ytmjenemjbpimcaa
/- OverWiden: how far growing goes on. -/
namespace Go.Proofs.Ytmjenemjbpimcaa
open Go.RowKit Ieee

theorem geB_key (a t : Nat) (ha : nanB a = false) (ht : nanB t = false) : geB (some a) (some t) = decide (ky t ≤ ky a) := by
  have h : fo (some a) (some t) = some (compare (ky a) (ky t)) := key_order a t ha ht
  unfold geB
  rw [h]
  rcases Int.lt_trichotomy (ky a) (ky t) with h3 | h3 | h3
  · have : ¬ ky t ≤ ky a := by omega
    simp [compare, compareOfLessAndEq, h3, this]
  · simp [compare, compareOfLessAndEq, h3]
  · have h4 : ¬ ky a < ky t := by omega
    have h5 : ¬ ky a = ky t := by omega
    have h6 : ky t ≤ ky a := by omega
    simp [compare, compareOfLessAndEq, h4, h5, h6]
theorem rd2 : Ieee.double.read 4611686018427387904 = .number false (2 ^ 52) (-51) := by decide +kernel
theorem qh2 : floatBits .quo .f64 4805448888795376124 4611686018427387904 = some 4800945289168005628 := by decide +kernel
theorem mul_inf11 : floatBits .mul .f64 9218868437227405312 4607632778762754458 = some 9218868437227405312 := by decide +kernel
theorem rch_nn (a m : Nat) (ha : a % 2 ^ 63 < 0x7ff0000000000000) (ha0 : 0 ≤ ky a) (hC : ky a ≤ 4805448888795376124) (hm : m < 18446744073709551616) (hnm : nanB m = false) (hm0 : 0 ≤ ky m) :
    ∃ z, rchF (some a) (some m) = some z ∧ z % 2 ^ 63 < 0x7ff0000000000000 ∧ 0 ≤ ky z ∧ ky z ≤ 4805448888795376124 := by
  have na := (ky_fin a ha).1
  have k11 : ky 4607632778762754458 = 4607632778762754458 := by decide
  by_cases hf : m % 2 ^ 63 < 0x7ff0000000000000
  · obtain ⟨t, e, h1⟩ := mul_up m 4607632778762754458 hf hm0 (by decide) (by rw [k11]; decide)
    have nt : nanB t = false := fb_num e
    have hg : geB (some a) (fb .mul (some m) (some 4607632778762754458)) = decide (ky t ≤ ky a) := by
      rw [show fb .mul (some m) (some 4607632778762754458) = some t from e]
      exact geB_key a t na nt
    unfold rchF
    rw [hg]
    by_cases hle : ky t ≤ ky a
    · rw [if_pos (decide_eq_true hle)]
      obtain ⟨z, z', f, f', g1, g0⟩ := quo_mono m 4805448888795376124 4611686018427387904 hf (by decide) hm0 (by rw [show ky 4805448888795376124 = 4805448888795376124 by decide]; omega) _ _ rd2 (by decide)
      rw [qh2] at f'
      obtain rfl := Option.some.inj f'
      rw [show ky 4800945289168005628 = 4800945289168005628 by decide] at g1
      exact ⟨z, f, fin_of _ (by omega) (by omega), g0, by omega⟩
    · rw [if_neg (by rw [decide_eq_false hle]; decide)]
      exact ⟨a, rfl, ha, ha0, hC⟩
  · have hk : ky m = sv (sgn m) (m % 2 ^ 63) := if_neg (by rw [hnm]; decide)
    have hs : sgn m = false := by
      cases h : sgn m
      · rfl
      · rw [hk, h] at hm0
        have : sv true (m % 2 ^ 63) = -((m % 2 ^ 63 : Nat) : Int) := rfl
        omega
    have hinf : m = 9218868437227405312 := by
      have h1 : m % 2 ^ 63 ≤ 0x7ff0000000000000 := by
        have h9 := hnm
        rw [nanB_eq] at h9
        exact Nat.le_of_not_lt (of_decide_eq_false h9)
      have h2 : m < 2 ^ 63 := by
        unfold sgn at hs
        simp at hs
        omega
      omega
    subst hinf
    unfold rchF
    rw [show fb .mul (some 9218868437227405312) (some 4607632778762754458) = some 9218868437227405312 from mul_inf11, geB_key _ _ na hnm, if_neg]
    · exact ⟨a, rfl, ha, ha0, hC⟩
    · rw [decide_eq_false]
      · decide
      · have : ky 9218868437227405312 = 9218868437227405312 := by decide
        omega
end Go.Proofs.Ytmjenemjbpimcaa
/- OverWiden: a quotient that stays finite. -/
namespace Go.Proofs.Ytmjenemjbpimcaa
open Go.RowKit Ieee

theorem rung_52 (Q : Int) (h1 : -1074 ≤ Q) (h2 : Q ≤ 971) : rung (2 ^ 52) Q < 0x7ff0000000000000 := by
  have h := near_norm (2 ^ 52) Q (Nat.le_refl _) (by decide) h1 h2
  rw [nearest_rung _ _ _ (by decide), word_pos] at h
  rw [h]
  omega
theorem uv_m10 (b : Nat) (hb : b = 1064) : uv 4562146422526312448 = 2 ^ b := by
  have h := uv_is 4562146422526312448 1012 0 b 1 (2 ^ b) (by decide) (by decide) (by decide) (by rw [hb]) (by decide) rfl
  rw [h, Nat.one_mul]
theorem pw_a (e : Nat) : 2 ^ (e + 119) = 2 * (2 * (2 ^ (63 + e) * 2 ^ 54)) := by
  rw [← Nat.pow_add, ← Nat.pow_succ', ← Nat.pow_succ']
  exact congrArg (2 ^ ·) (by omega)
theorem pw_b (e : Nat) : 2 ^ (e + 119) = (2 ^ 52) <<< (e + 67) := by
  rw [Nat.shiftLeft_eq, ← Nat.pow_add]
  exact congrArg (2 ^ ·) (by omega)
theorem quo_fin (s t z : Nat) (hs : s % 2 ^ 63 < 0x7ff0000000000000) (ht : t % 2 ^ 63 < 0x7ff0000000000000) (ht0 : 0 ≤ ky t) (h1 : 4562146422526312448 ≤ ky s) (h2 : ky t ≤ 4890909195324358656) (hz : floatBits .quo .f64 t s = some z) : ky z < 0x7ff0000000000000 := by
  obtain ⟨sg, n, j, hr, hu, hj, hn53, hsn, ek⟩ := pos_read s hs (by omega)
  have hn : n ≠ 0 := fun hm => by
    rw [hm, Nat.zero_mul] at hu
    have := uv_inj _ 0 (by rw [← hu]; rfl)
    omega
  obtain rfl := hsn hn
  obtain ⟨_, _, _, hr', hj'⟩ := read_top s hs
  rw [hr] at hr'
  injection hr' with _ _ e3
  subst e3
  obtain ⟨z', e, hk⟩ := quo_ky t s ht ht0 n j hr hn
  rw [hz] at e
  obtain rfl := Option.some.inj e
  obtain ⟨_, _, _, _, _, _, _, _, ekt⟩ := pos_read t ht ht0
  have hl := log2_le52' n hn53
  have hlo : 2 ^ n.log2 ≤ n := Nat.log2_self_le hn
  have hhi : n < 2 ^ (n.log2 + 1) := Nat.lt_log2_self
  obtain ⟨b, hb⟩ : ∃ b : Nat, b = 1064 := ⟨_, rfl⟩
  have hjl : -11 ≤ j + (n.log2 : Int) := by
    have h3 : uv 4562146422526312448 ≤ uv (s % 2 ^ 63) := uv_mono _ _ (by omega)
    rw [uv_m10 b hb, ← hu] at h3
    have h4 : n * 2 ^ (j + 1074).toNat < 2 ^ (n.log2 + 1) * 2 ^ (j + 1074).toNat := Nat.mul_lt_mul_of_pos_right hhi (Nat.two_pow_pos _)
    rw [← Nat.pow_add] at h4
    have h5 := (Nat.pow_lt_pow_iff_right (by decide : 1 < 2)).1 (Nat.lt_of_le_of_lt h3 h4)
    omega
  obtain ⟨e, he⟩ : ∃ e : Nat, e = 1074 := ⟨_, rfl⟩
  have hU : U = 2 ^ e := by rw [he]; exact U_eq
  have huv : uv (t % 2 ^ 63) ≤ 2 ^ (63 + e) := by
    have h3 := uv_mono (t % 2 ^ 63) 4890909195324358656 (by omega)
    rw [uv_hi, hU, show 9223372036854775808 = 2 ^ 63 by decide, ← Nat.pow_add] at h3
    exact h3
  have hV : St n (uv (t % 2 ^ 63) * 2 ^ (54 + n.log2)) ≤ 2 ^ (e + 119) := by
    have h3 : uv (t % 2 ^ 63) * 2 ^ (54 + n.log2) / n ≤ 2 ^ (63 + e) * 2 ^ 54 := by
      refine Nat.div_le_of_le_mul ?_
      rw [Nat.pow_add, ← Nat.mul_assoc, Nat.mul_comm n]
      exact Nat.mul_le_mul (Nat.mul_le_mul_right _ huv) hlo
    have h4 : St n (uv (t % 2 ^ 63) * 2 ^ (54 + n.log2)) ≤ 2 * (2 ^ (63 + e) * 2 ^ 54) + 1 := by
      unfold St
      split <;> omega
    have h5 := pw_a e
    have h6 : 0 < 2 ^ (63 + e) * 2 ^ 54 := Nat.mul_pos (Nat.two_pow_pos _) (Nat.two_pow_pos _)
    omega
  have hR := R_mono (-j - 1075 - ((54 + n.log2 : Nat) : Int)) _ _ hV
  have h7 : R (-j - 1075 - ((54 + n.log2 : Nat) : Int)) (2 ^ (e + 119)) < 0x7ff0000000000000 := by
    unfold R
    rw [if_neg (Nat.ne_of_gt (Nat.two_pow_pos _))]
    have h8 := pw_b e
    rw [h8, rung_shift _ _ _ (by decide)]
    exact rung_52 _ (by omega) (by omega)
  omega
end Go.Proofs.Ytmjenemjbpimcaa
/- OverWiden: by how much it is reckoned on. -/
namespace Go.Proofs.Ytmjenemjbpimcaa
open Go.RowKit Ieee

theorem add_le (x y X Y : Nat) (hx : x % 2 ^ 63 < 0x7ff0000000000000) (hy : y % 2 ^ 63 < 0x7ff0000000000000) (hX : X % 2 ^ 63 < 0x7ff0000000000000) (hY : Y % 2 ^ 63 < 0x7ff0000000000000) (h1 : ky x ≤ ky X) (h2 : ky y ≤ ky Y) :
    ∃ z Z, floatBits .add .f64 x y = some z ∧ floatBits .add .f64 X Y = some Z ∧ ky z ≤ ky Z := by
  obtain ⟨s, m, i, hr, hu, _⟩ := read_vx x hx
  obtain ⟨s', m', i', hr', hu', _⟩ := read_vx y hy
  obtain ⟨t, n, j, hr2, hu2, _⟩ := read_vx X hX
  obtain ⟨t', n', j', hr2', hu2', _⟩ := read_vx Y hY
  refine ⟨_, _, add_fin x y _ _ _ _ _ _ hr hr', add_fin X Y _ _ _ _ _ _ hr2 hr2', wr_mono _ _ _ _ ?_⟩
  have a1 := (vx_le x X hx hX).1 h1
  have a2 := (vx_le y Y hy hY).1 h2
  rw [hu, hu', hu2, hu2']
  omega
theorem cc2 : floatBits .add .f64 4805448888795376124 4805448888795376124 = some 4809952488422746620 := by decide +kernel
theorem cc3 : floatBits .add .f64 4809952488422746620 4805448888795376124 = some 4812258331431960314 := by decide +kernel
/-- The factor: finite and no less than 1. -/
theorem tm_ok (s a b : Nat) (hs : s % 2 ^ 63 < 0x7ff0000000000000) (ha : a % 2 ^ 63 < 0x7ff0000000000000) (hb : b % 2 ^ 63 < 0x7ff0000000000000) (s1 : 4562254508917369340 ≤ ky s) (s2 : ky s ≤ 4805448888795376124) (a1 : 0 ≤ ky a) (a2 : ky a ≤ 4805448888795376124) (b1 : 0 ≤ ky b) (b2 : ky b ≤ 4805448888795376124) :
    ∃ t, tmF (some s) (some a) (some b) = some t ∧ t % 2 ^ 63 < 0x7ff0000000000000 ∧ 4607182418800017408 ≤ ky t := by
  have kC : ky 4805448888795376124 = 4805448888795376124 := by decide
  have k2 : ky 4809952488422746620 = 4809952488422746620 := by decide
  have k3 : ky 4812258331431960314 = 4812258331431960314 := by decide
  obtain ⟨x, e1, g1⟩ := add_up s a hs ha a1
  obtain ⟨x', X, e1', E1, l1⟩ := add_le s a 4805448888795376124 4805448888795376124 hs ha (by decide) (by decide) (by omega) (by omega)
  rw [e1] at e1'
  rw [cc2] at E1
  obtain rfl := Option.some.inj e1'
  obtain rfl := Option.some.inj E1
  have hx : x % 2 ^ 63 < 0x7ff0000000000000 := fin_of _ (by omega) (by omega)
  obtain ⟨y, e2, g2⟩ := add_up x b hx hb b1
  obtain ⟨y', Y, e2', E2, l2⟩ := add_le x b 4809952488422746620 4805448888795376124 hx hb (by decide) (by decide) (by omega) (by omega)
  rw [e2] at e2'
  rw [cc3] at E2
  obtain rfl := Option.some.inj e2'
  obtain rfl := Option.some.inj E2
  have hy : y % 2 ^ 63 < 0x7ff0000000000000 := fin_of _ (by omega) (by omega)
  obtain ⟨t, e3, g3⟩ := quo_up s y hs hy (by omega) (by omega)
  have h3 := quo_fin s y t hs hy (by omega) (by omega) (by omega) e3
  refine ⟨t, ?_, fin_of _ (by omega) h3, g3⟩
  unfold tmF
  rw [show fb .add (some s) (some a) = some x from e1, show fb .add (some x) (some b) = some y from e2]
  exact e3
end Go.Proofs.Ytmjenemjbpimcaa
/- OverWiden: the way that is cut; growth below 0. -/
namespace Go.Proofs.Ytmjenemjbpimcaa
open Go.RowKit Ieee

theorem sv_neg (r : Nat) : sv true r = -(r : Int) := rfl
/-- Below 0, times what isn't below 1. -/
theorem mul_dn (g t : Nat) (hg : g % 2 ^ 63 < 0x7ff0000000000000) (hg0 : ky g < 0) (ht : t % 2 ^ 63 < 0x7ff0000000000000) (h1 : 4607182418800017408 ≤ ky t) : ∃ z, floatBits .mul .f64 g t = some z ∧ ky z ≤ ky g := by
  obtain ⟨s, m, i, hr, hu, hs⟩ := read_vx g hg
  obtain ⟨sc, n, j, hr2, hu2, hj, hn53, hsc, ekt⟩ := pos_read t ht (by omega)
  have hkg := (ky_fin g hg).2
  have hst : s = true := by
    rw [hs]
    cases h : sgn g
    · rw [h] at hkg
      have : sv false (g % 2 ^ 63) = ((g % 2 ^ 63 : Nat) : Int) := rfl
      omega
    · rfl
  rw [← hs, hst, sv_neg] at hkg
  subst hst
  have hn : n ≠ 0 := fun hm => by
    rw [hm, Nat.zero_mul] at hu2
    have := uv_inj _ 0 (by rw [← hu2]; rfl)
    omega
  obtain rfl := hsc hn
  have hgu := read_uv g _ _ _ hr
  have hgi := (read_place g _ _ _ hr).1
  have hm : m ≠ 0 := fun hm => by
    rw [hm, Nat.zero_mul] at hgu
    have := uv_inj _ 0 (by rw [← hgu]; rfl)
    omega
  refine ⟨Ieee.double.nearest (true ^^ false) (m * n) (i + j), ?_, ?_⟩
  · show ((Ieee.double.read g).product (Ieee.double.read t)).map Ieee.double.write = _
    rw [hr, hr2]; rfl
  · rw [Bool.xor_false, ky_near, sv_neg, hkg]
    have hV : uv 4607182418800017408 ≤ uv (t % 2 ^ 63) := uv_mono _ _ (by omega)
    have e : R (i + j) (m * n) = R (-1074 + -1074) (uv (g % 2 ^ 63) * uv (t % 2 ^ 63)) := by
      have hmn : m * n ≠ 0 := Nat.mul_ne_zero hm hn
      have h3 : uv (g % 2 ^ 63) * uv (t % 2 ^ 63) = (m * n) <<< ((i + 1074).toNat + (j + 1074).toNat) := by
        rw [Nat.shiftLeft_eq, Nat.pow_add, ← hgu, ← hu2, Nat.mul_mul_mul_comm]
      have h4 : (m * n) <<< ((i + 1074).toNat + (j + 1074).toNat) ≠ 0 := by
        rw [Nat.shiftLeft_eq]
        exact Nat.mul_ne_zero hmn (Nat.ne_of_gt (Nat.two_pow_pos _))
      unfold R
      rw [h3, if_neg h4, if_neg hmn, rung_shift _ _ _ hmn]
      congr 1
      omega
    have e2 : R (-1074 + -1074) (uv (g % 2 ^ 63) * uv 4607182418800017408) = g % 2 ^ 63 := by
      rw [← R_uv g hg]
      obtain ⟨b, hb⟩ : ∃ b : Nat, b = 1074 := ⟨_, rfl⟩
      have hU : U = 2 ^ b := by rw [hb]; exact U_eq
      have h0 : uv (g % 2 ^ 63) ≠ 0 := fun h => by
        have := uv_inj _ 0 (by rw [h]; rfl)
        omega
      have h5 : uv (g % 2 ^ 63) * uv 4607182418800017408 = uv (g % 2 ^ 63) <<< b := by rw [uv_one, hU, Nat.shiftLeft_eq]
      have h6 : uv (g % 2 ^ 63) <<< b ≠ 0 := by
        rw [Nat.shiftLeft_eq]
        exact Nat.mul_ne_zero h0 (Nat.ne_of_gt (Nat.two_pow_pos _))
      rw [R_uv g hg, h5]
      unfold R
      rw [if_neg h6, rung_shift _ _ _ h0]
      have h7 := R_uv g hg
      unfold R at h7
      rw [if_neg h0] at h7
      rw [show (-1074 + -1074 + (b : Int)) = -1074 by omega]
      exact h7
    have h8 := R_mono (-1074 + -1074) _ _ (Nat.mul_le_mul_left (uv (g % 2 ^ 63)) hV)
    rw [e2, ← e] at h8
    omega
/-- 0 times what is finite. -/
theorem mul_nil (g t : Nat) (hg : g % 2 ^ 63 < 0x7ff0000000000000) (hg0 : ky g = 0) (ht : t % 2 ^ 63 < 0x7ff0000000000000) (h1 : 4607182418800017408 ≤ ky t) : ∃ z, floatBits .mul .f64 g t = some z ∧ ky z = 0 := by
  obtain ⟨sc, n, j, hr, _, _, _, hs, _⟩ := pos_read t ht (by omega)
  obtain ⟨z, e, _, hk⟩ := mul_ky g t hg (by omega) sc n j hr hs
  obtain ⟨_, _, _, _, _, _, _, _, ek⟩ := pos_read g hg (by omega)
  refine ⟨z, e, ?_⟩
  rw [show g % 2 ^ 63 = 0 by omega] at hk
  rw [hk, show uv 0 = 0 from rfl, Nat.zero_mul]
  rfl
theorem inf_of (m : Nat) (hm : m < 18446744073709551616) (hnm : nanB m = false) (hm0 : 0 ≤ ky m) (hf : ¬ m % 2 ^ 63 < 0x7ff0000000000000) : m = 9218868437227405312 := by
  have hk : ky m = sv (sgn m) (m % 2 ^ 63) := if_neg (by rw [hnm]; decide)
  have hs : sgn m = false := by
    cases h : sgn m
    · rfl
    · rw [hk, h] at hm0
      have : sv true (m % 2 ^ 63) = -((m % 2 ^ 63 : Nat) : Int) := rfl
      omega
  have h1 : m % 2 ^ 63 ≤ 0x7ff0000000000000 := by
    have h9 := hnm
    rw [nanB_eq] at h9
    exact Nat.le_of_not_lt (of_decide_eq_false h9)
  have h2 : m < 2 ^ 63 := by
    unfold sgn at hs
    simp at hs
    omega
  omega
theorem ltB_key (a t : Nat) (ha : nanB a = false) (ht : nanB t = false) : ltB (some a) (some t) = decide (ky a < ky t) := by
  have h : fo (some a) (some t) = some (compare (ky a) (ky t)) := key_order a t ha ht
  unfold ltB
  rw [h]
  by_cases h3 : ky a < ky t
  · simp [compare, compareOfLessAndEq, h3]
  · by_cases h4 : ky a = ky t
    · simp [compare, compareOfLessAndEq, h4]
    · simp [compare, compareOfLessAndEq, h3, h4]
theorem rdInf : Ieee.double.read 9218868437227405312 = .infinity false := by decide +kernel
/-- The way that is cut. -/
theorem cut_nn (s a v g : Nat) (hs : s % 2 ^ 63 < 0x7ff0000000000000) (hs0 : 0 < ky s) (ha : a % 2 ^ 63 < 0x7ff0000000000000) (ha0 : 0 ≤ ky a) (hv : v < 18446744073709551616) (hg : g % 2 ^ 63 < 0x7ff0000000000000) (hg0 : 0 < ky g) :
    ∃ x, cutF (some s) (cl v) (some g) (some a) = some x ∧ x % 2 ^ 63 < 0x7ff0000000000000 ∧ 0 ≤ ky x ∧ ky x ≤ ky a := by
  unfold cutF
  split
  case isFalse => exact ⟨a, rfl, ha, ha0, Int.le_refl _⟩
  case isTrue h =>
    obtain ⟨_, h2, h3⟩ := h
    have na := (ky_fin a ha).1
    have nv : nanB v = false := by
      cases hn : nanB v
      · rfl
      · rw [show cl v = none by unfold cl; rw [hn]; rfl] at h2
        cases h2
    have ev : cl v = some v := by unfold cl; rw [nv]; rfl
    rw [ev] at h2 h3 ⊢
    rw [geB_key v 0 nv (by decide)] at h2
    have v0 : 0 ≤ ky v := by
      have := of_decide_eq_true h2
      rwa [show ky 0 = 0 by decide] at this
    obtain ⟨sg, n, j, hr, hu, _, _, hsn, _⟩ := pos_read g hg (by omega)
    have hn : n ≠ 0 := fun hm => by
      rw [hm, Nat.zero_mul] at hu
      have := uv_inj _ 0 (by rw [← hu]; rfl)
      obtain ⟨_, _, _, _, _, _, _, _, ek⟩ := pos_read g hg (by omega)
      omega
    obtain rfl := hsn hn
    obtain ⟨ss, m, i, hr2, hu2, _, _, hsm, _⟩ := pos_read s hs (by omega)
    have hm : m ≠ 0 := fun hm => by
      rw [hm, Nat.zero_mul] at hu2
      have := uv_inj _ 0 (by rw [← hu2]; rfl)
      obtain ⟨_, _, _, _, _, _, _, _, ek⟩ := pos_read s hs (by omega)
      omega
    obtain rfl := hsm hm
    have q : ∃ q, fb .quo (some v) (some g) = some q ∧ 0 ≤ ky q ∧ q < 18446744073709551616 ∧ nanB q = false := by
      by_cases hf : v % 2 ^ 63 < 0x7ff0000000000000
      · obtain ⟨z, e, hk⟩ := quo_ky v g hf v0 n j hr hn
        exact ⟨z, e, by omega, fb_lt e, fb_num e⟩
      · obtain rfl := inf_of v hv nv v0 hf
        refine ⟨9218868437227405312, ?_, by decide, by decide, by decide⟩
        show ((Ieee.double.read 9218868437227405312).quotient 54 (Ieee.double.read g)).map Ieee.double.write = _
        rw [rdInf, hr]
        rfl
    obtain ⟨q, eq, q0, ql, qn⟩ := q
    rw [eq] at h3 ⊢
    by_cases hf : q % 2 ^ 63 < 0x7ff0000000000000
    · obtain ⟨z, _, e, hk⟩ := mul_ky q s hf q0 false m i hr2 (fun _ => rfl)
      have ez : fb .mul (some s) (some q) = some z := e
      rw [ez] at h3 ⊢
      rw [ltB_key z a (fb_num e) na] at h3
      have h4 := of_decide_eq_true h3
      have h5 := (ky_fin a ha).2
      have h6 : ky a < 0x7ff0000000000000 := by
        obtain ⟨_, _, _, _, _, _, _, _, ek⟩ := pos_read a ha ha0
        omega
      exact ⟨z, rfl, fin_of _ (by omega) (by omega), by omega, by omega⟩
    · exfalso
      obtain rfl := inf_of q ql qn q0 hf
      have ez : fb .mul (some s) (some 9218868437227405312) = some 9218868437227405312 := by
        show ((Ieee.double.read s).product (Ieee.double.read 9218868437227405312)).map Ieee.double.write = _
        rw [rdInf, hr2]
        cases m with
        | zero => exact absurd rfl hm
        | succ m => rfl
      rw [ez, ltB_key _ a (by decide) na] at h3
      have h4 := of_decide_eq_true h3
      obtain ⟨_, _, _, _, _, _, _, _, ek⟩ := pos_read a ha ha0
      rw [show ky 9218868437227405312 = 9218868437227405312 by decide] at h4
      omega
end Go.Proofs.Ytmjenemjbpimcaa
