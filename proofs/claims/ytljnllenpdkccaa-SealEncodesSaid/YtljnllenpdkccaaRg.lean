/- Bits regrouped: the program's regrouped, from 8 to 6 bits and from 6 to 8. -/
import Derived.Test.YtljnllenpdkccaaMm
namespace Go.Proofs.Ytljnllenpdkccaa
open Go.RowKit

theorem wraps_u64s (n : Int) (h₀ : 0 ≤ n) (h₁ : n < 2 ^ 32) : IntKind.u64.wrap n = n := by rw [IntKind.wrap_u64]; omega
theorem bv_below (b : Nat → Nat) (hb : ∀ i, b i < 2) (a k m : Nat) (h : k ≤ m) : bv b a k < 2 ^ m :=
  Nat.lt_of_lt_of_le (bv_lt b hb a k) (Nat.pow_le_pow_right (by decide) h)
theorem hold_or (H x f : Nat) (hf : f ≤ 8) (hH : H < 256) (hx : x < 2 ^ f) : bits BinOp.or IntKind.u64 ((H : Int) * ((2 ^ f : Nat) : Int)) (x : Int) = ((H * 2 ^ f + x : Nat) : Int) := by
  have hp : 2 ^ f ≤ 256 := (Nat.pow_le_pow_right (by decide) hf : 2 ^ f ≤ 2 ^ 8)
  have h1 : H * 2 ^ f < 65536 := by
    have : H * 2 ^ f ≤ 255 * 256 := Nat.mul_le_mul (by omega) hp
    omega
  rw [← Int.natCast_mul, (bits_nat .u64 32 (by decide) wraps_u64s (H * 2 ^ f) x (by omega) (by omega)).2, Nat.mul_comm H, Nat.two_pow_add_eq_or_of_lt hx]
theorem hold_out (b : Nat → Nat) (hb : ∀ i, b i < 2) (t q d H : Nat) (ht : t ≤ 8) (hd : d ≤ 8) (h : H = bv b (t * q) (t + d)) :
    (H : Int) / 2 ^ d % 256 = ((bv b (t * q) t : Nat) : Int) ∧ bits BinOp.and IntKind.u64 (H : Int) (IntKind.u64.wrap (IntKind.u64.wrap (2 ^ d) - 1)) = ((bv b (t * (q + 1)) d : Nat) : Int) := by
  have h1 := bv_add b (t * q) t d
  rw [← h, ← Nat.mul_succ] at h1
  have h2 := bv_lt b hb (t * (q + 1)) d
  have h3 := bv_below b hb (t * q) t 8 ht
  have h4 := bv_below b hb (t * q) (t + d) 16 (by omega)
  rw [← h] at h4
  have hp0 : 0 < 2 ^ d := Nat.pow_pos (by decide)
  have hp : 2 ^ d ≤ 256 := (Nat.pow_le_pow_right (by decide) hd : 2 ^ d ≤ 2 ^ 8)
  have hpi : ((2 : Int) ^ d) = ((2 ^ d : Nat) : Int) := by simp
  have h5 : H / 2 ^ d = bv b (t * q) t := by
    rw [h1, Nat.mul_comm, Nat.mul_add_div hp0, Nat.div_eq_of_lt h2, Nat.add_zero]
  have h6 : H % 2 ^ d = bv b (t * (q + 1)) d := by
    rw [h1, Nat.mul_comm, Nat.mul_add_mod, Nat.mod_eq_of_lt h2]
  constructor
  · rw [hpi, ← Int.natCast_ediv, h5]
    omega
  · have e1 : IntKind.u64.wrap (2 ^ d) = 2 ^ d := wraps_u64s _ (by rw [hpi]; omega) (by rw [hpi]; omega)
    have e2 : IntKind.u64.wrap (2 ^ d - 1) = 2 ^ d - 1 := wraps_u64s _ (by rw [hpi]; omega) (by rw [hpi]; omega)
    rw [e1, e2, bits_mask .u64 32 (by decide) wraps_u64s d (by omega) (H : Int) (by omega) (by omega), hpi, ← Int.natCast_emod, h6]

set_option maxHeartbeats 1000000 in
set_option maxRecDepth 100000 in
theorem reg86 (a : Option Addr) (c : Nat) (xs : List Int) (w : World) (hI : Im w a xs) (hs : Small 8 xs) (hn : xs.length ≤ 140737488355328) :
    Calls Try.prog 20 #[.slice a xs.length c, .int .u64 8, .int .u64 6] w fun r w' => ∃ G C, r = .returned (.tuple #[.slice (some ⟨G, 0, none⟩) (8 * xs.length / 6) C, .int .u8 (bv (bt 8 xs) (6 * (8 * xs.length / 6)) (8 * xs.length % 6) : Nat), .int .u64 (8 * xs.length % 6 : Nat)]) ∧
      8 * xs.length / 6 + 1 ≤ C ∧ w.heap.size ≤ G ∧ w'.ownsRow w.heap.size 5 1 (.slice (some ⟨G, 0, none⟩) (8 * xs.length / 6) C) (8 * xs.length / 6) (bc (gr (bt 8 xs) 6 (8 * xs.length / 6))) ∧ Below w.heap.size w w' := by
  generalize hb : bt 8 xs = b at *
  generalize hnn : xs.length = n at *
  have hni : (n : Int) ≤ 140737488355328 := by omega
  obtain ⟨i0, hi, hz0, hz1, hz2⟩ := info_parts info5
  obtain ⟨w2, r2, o2, g2⟩ := run_make_own (P := Try.prog) w w.heap.size 24 5 i0 _ 1 Try.underlying24 hi hz0 hz1 .i64 .u64 (8 * n / 6 + 1) (by rw [hz2]; omega) (by unfold maxLen; omega) (Nat.le_refl _)
  have r2' : (Instr.makeSlice 24 (.int .i64 0) (.int .u64 ((n : Int) * 8 / 6 + 1))).run Try.prog w = .ok (.slice (some ⟨w.heap.size, 0, none⟩) 0 (8 * n / 6 + 1)) w2 := by
    rw [show (n : Int) * 8 / 6 + 1 = ((8 * n / 6 + 1 : Nat) : Int) by omega]
    exact r2
  have hb2 : Below w.heap.size w w2 := (Below.refl _ _).grown g2 (Nat.le_refl _) (fun k hk => by cases hk)
  have HX : Hid (∀ j, j < n → ∃ g o, a = some ⟨g, o, none⟩ ∧ g < w.heap.size ∧ w.cell? ⟨g, o + j, none⟩ = some (.int .u8 (xs.getD j 0)) ∧ 0 ≤ xs.getD j 0 ∧ xs.getD j 0 < 256) := fun j hj => by
    have h3 := hs j (by omega)
    rcases hI with h1 | ⟨g, o, h1, hg, h2⟩
    · rw [h1] at hnn
      simp at hnn
      omega
    · exact ⟨g, o, h1, hg, h2 j (by omega), h3.1, by simpa using h3.2⟩
  have HB : Hid (∀ i, b i < 2) := by rw [← hb]; exact bt_lt 8 xs
  have HS : Hid (∀ j, j < n → ((bv b (8 * j) 8 : Nat) : Int) = xs.getD j 0) := fun j hj => by
    rw [← hb, bv_self 8 (by decide) xs j (hs.nat j), Int.toNat_of_nonneg (hs j (by omega)).1]
  have HO : Hid (w2.ownsRow w.heap.size 5 1 (.slice (some ⟨w.heap.size, 0, none⟩) 0 (8 * n / 6 + 1)) 0 []) := o2
  generalize hC : 8 * n / 6 + 1 = C at *
  have HC : Hid (8 * n / 6 + 1 = C) := hC
  have HQ : Hid (8 * n / 6 = C - 1) := (by omega : _ = _)
  clear hC r2 o2 g2 hi hz0 hz1 hz2 hI hs hb hnn
  go_enter Try.func20, Try.ntmps20
  go_wp2
  clear r2'
  go_loopw [6, 8, 9, 23] (fun gv lv hv iv w' => ∃ k q l H : Nat, iv = .int .i64 (k : Int) ∧ k ≤ n ∧ Hid (6 * q + l = 8 * k) ∧ l < 6 ∧ gv = .slice (some ⟨w.heap.size, 0, none⟩) q C ∧ lv = .int .u64 (l : Int) ∧ hv = .int .u64 (H : Int) ∧ Hid (H = bv b (6 * q) l) ∧
    Hid (w'.ownsRow w.heap.size 5 1 (.slice (some ⟨w.heap.size, 0, none⟩) q C) q (bc (gr b 6 q))) ∧ Below w.heap.size w w') (fun _ _ _ iv _ => n - (RowKit.intOf iv).toNat)
  case atStart => exact ⟨0, 0, 0, 0, rfl, by omega, rfl, by omega, rfl, rfl, rfl, rfl, HO, hb2⟩
  case round =>
    obtain ⟨k, q, l, H, rfl, hk, hql, hl, rfl, rfl, rfl, hH, ho, hbw⟩ := hrel
    by_cases hlt : k < n
    · obtain ⟨g, o, rfl, hg1, c1', x0, x1⟩ := HX.out k hlt
      have c1 := (hbw.cell (p := ⟨g, o + k, none⟩) hg1).trans c1'
      clear c1'
      have hki : (k : Int) < n := by omega
      have hHl : (H : Int) < 128 := by
        have h1 := bv_below b HB.out (6 * q) l 7 (by omega)
        have h2 := hH.out
        omega
      have HE : Hid (bits BinOp.or IntKind.u64 ((H : Int) * 256) (xs.getD k 0) = ((bv b (6 * q) (l + 8) : Nat) : Int)) := by
        have h1 := HS.out k hlt
        have h2 := hold_or H (bv b (8 * k) 8) 8 (by decide) (by have := hHl; omega) (bv_lt b HB.out _ _)
        have h3 := bv_add b (6 * q) l 8
        rw [hql.out, ← hH.out] at h3
        show _ = _
        rw [h3, ← h1]
        exact h2
      generalize xs.getD k 0 = x at *
      go_wp2
      go_loopw [6, 8, 9] (fun gv lv hv w' => ∃ q l H : Nat, Hid (6 * q + l = 8 * (k + 1)) ∧ l ≤ 13 ∧ gv = .slice (some ⟨w.heap.size, 0, none⟩) q C ∧ lv = .int .u64 (l : Int) ∧ hv = .int .u64 (H : Int) ∧ Hid (H = bv b (6 * q) l) ∧
        Hid (w'.ownsRow w.heap.size 5 1 (.slice (some ⟨w.heap.size, 0, none⟩) q C) q (bc (gr b 6 q))) ∧ Below w.heap.size w w') (fun _ lv _ _ => (RowKit.intOf lv).toNat)
      case atStart => exact ⟨q, l + 8, _, (by have := hql.out; omega : _ = _), by omega, rfl, by go_num, by rw [HE.out], rfl, ho, hbw⟩
      case round =>
        clear hH ho hbw hql hl HE hHl x1 x0 c1
        obtain ⟨q1, l1, H1, hql, hl1, rfl, rfl, rfl, hH, ho, hbw⟩ := hrel
        by_cases hl6 : 6 ≤ l1
        · obtain ⟨d, rfl⟩ : ∃ d, l1 = d + 6 := ⟨l1 - 6, by omega⟩
          have hHb : (H1 : Int) < 8192 := by
            have h1 := bv_below b HB.out (6 * q1) (d + 6) 13 (by omega)
            have h2 := hH.out
            omega
          have hq1 : q1 + 1 ≤ C := by
            have h1 := hql.out
            have h2 := HC.out
            omega
          obtain ⟨E1, E2⟩ := hold_out b HB.out 6 q1 d H1 (by decide) (by omega) (by have := hH.out; rwa [Nat.add_comm d 6] at this)
          have HE1 : Hid (_ = _) := E1
          have HE2 : Hid (_ = _) := E2
          clear E1 E2
          obtain ⟨w5, r5, o5, b5⟩ := append_room wr w.heap.size w.heap.size q1 C (gr b 6 q1) ((H1 : Int) / 2 ^ d % 256) hbw.size hq1 ho.out
          have HO5 : Hid (w5.ownsRow w.heap.size 5 1 (.slice (some ⟨w.heap.size, 0, none⟩) (q1 + 1) C) (q1 + 1) (bc (gr b 6 (q1 + 1)))) := by
            rw [HE1.out, ← gr_succ] at o5
            exact o5
          have hb5 := hbw.trans b5
          clear o5 b5 hq1
          go_wp2_with (at_builtin; refine wpList_append_run rfl (.tmp 42) (.tmp 47) 24 24 rfl _ _ rfl rfl r5 ?_)
          refine ⟨⟨q1 + 1, d, bv b (6 * (q1 + 1)) d, (by have := hql.out; omega : _ = _), by omega, rfl, rfl, by rw [HE2.out], rfl, HO5, hb5⟩, by simp [RowKit.intOf]; omega⟩
        · have hl6' : ¬ (6 : Int) ≤ (l1 : Int) := by omega
          go_wp2
          exact ⟨⟨k + 1, q1, l1, H1, by go_num, by omega, hql, by omega, rfl, rfl, rfl, hH, ho, hbw⟩, by simp [RowKit.intOf]; omega⟩
    · have hki : ¬ (k : Int) < n := by omega
      obtain rfl : k = n := by omega
      have e1 : q = 8 * k / 6 := by have := hql.out; omega
      have e2 : l = 8 * k % 6 := by have := hql.out; omega
      have hHl : (H : Int) < 256 := by
        have h1 := bv_below b HB.out (6 * q) l 7 (by omega)
        have h2 := hH.out
        omega
      have HE1 : Hid (_ = _) := e1
      have HE2 : Hid (_ = _) := e2
      clear e1 e2
      go_wp2
      refine bodyPost_ret (v := .tuple #[.slice (some ⟨w.heap.size, 0, none⟩) q C, .int .u8 (H : Int), .int .u64 (l : Int)]) (by simp [results, Try.results20, go_sem]) rfl ⟨w.heap.size, C, ?_, ?_, Nat.le_refl _, ?_, hbw⟩
      · have e3 : 8 * (k : Int) % 6 = (l : Int) := by have := HE2.out; omega
        rw [e3, ← HE1.out, ← HE2.out, hH.out]
      · have := HC.out; omega
      · rw [← HE1.out]
        exact ho.out

set_option maxHeartbeats 1000000 in
set_option maxRecDepth 100000 in
theorem reg68 (a : Option Addr) (c : Nat) (xs : List Int) (w : World) (hI : Im w a xs) (hs : Small 6 xs) (hn : xs.length ≤ 211106232532992) :
    Calls Try.prog 20 #[.slice a xs.length c, .int .u64 6, .int .u64 8] w fun r w' => ∃ G C, r = .returned (.tuple #[.slice (some ⟨G, 0, none⟩) (6 * xs.length / 8) C, .int .u8 (bv (bt 6 xs) (8 * (6 * xs.length / 8)) (6 * xs.length % 8) : Nat), .int .u64 (6 * xs.length % 8 : Nat)]) ∧
      6 * xs.length / 8 + 1 ≤ C ∧ w.heap.size ≤ G ∧ w'.ownsRow w.heap.size 5 1 (.slice (some ⟨G, 0, none⟩) (6 * xs.length / 8) C) (6 * xs.length / 8) (bc (gr (bt 6 xs) 8 (6 * xs.length / 8))) ∧ Below w.heap.size w w' := by
  generalize hb : bt 6 xs = b at *
  generalize hnn : xs.length = n at *
  have hni : (n : Int) ≤ 211106232532992 := by omega
  obtain ⟨i0, hi, hz0, hz1, hz2⟩ := info_parts info5
  obtain ⟨w2, r2, o2, g2⟩ := run_make_own (P := Try.prog) w w.heap.size 24 5 i0 _ 1 Try.underlying24 hi hz0 hz1 .i64 .u64 (6 * n / 8 + 1) (by rw [hz2]; omega) (by unfold maxLen; omega) (Nat.le_refl _)
  have r2' : (Instr.makeSlice 24 (.int .i64 0) (.int .u64 ((n : Int) * 6 / 8 + 1))).run Try.prog w = .ok (.slice (some ⟨w.heap.size, 0, none⟩) 0 (6 * n / 8 + 1)) w2 := by
    rw [show (n : Int) * 6 / 8 + 1 = ((6 * n / 8 + 1 : Nat) : Int) by omega]
    exact r2
  have hb2 : Below w.heap.size w w2 := (Below.refl _ _).grown g2 (Nat.le_refl _) (fun k hk => by cases hk)
  have HX : Hid (∀ j, j < n → ∃ g o, a = some ⟨g, o, none⟩ ∧ g < w.heap.size ∧ w.cell? ⟨g, o + j, none⟩ = some (.int .u8 (xs.getD j 0)) ∧ 0 ≤ xs.getD j 0 ∧ xs.getD j 0 < 64) := fun j hj => by
    have h3 := hs j (by omega)
    rcases hI with h1 | ⟨g, o, h1, hg, h2⟩
    · rw [h1] at hnn
      simp at hnn
      omega
    · exact ⟨g, o, h1, hg, h2 j (by omega), h3.1, by simpa using h3.2⟩
  have HB : Hid (∀ i, b i < 2) := by rw [← hb]; exact bt_lt 6 xs
  have HS : Hid (∀ j, j < n → ((bv b (6 * j) 6 : Nat) : Int) = xs.getD j 0) := fun j hj => by
    rw [← hb, bv_self 6 (by decide) xs j (hs.nat j), Int.toNat_of_nonneg (hs j (by omega)).1]
  have HO : Hid (w2.ownsRow w.heap.size 5 1 (.slice (some ⟨w.heap.size, 0, none⟩) 0 (6 * n / 8 + 1)) 0 []) := o2
  generalize hC : 6 * n / 8 + 1 = C at *
  have HC : Hid (6 * n / 8 + 1 = C) := hC
  have HQ : Hid (6 * n / 8 = C - 1) := (by omega : _ = _)
  clear hC r2 o2 g2 hi hz0 hz1 hz2 hI hs hb hnn
  go_enter Try.func20, Try.ntmps20
  go_wp2
  clear r2'
  go_loopw [6, 8, 9, 23] (fun gv lv hv iv w' => ∃ k q l H : Nat, iv = .int .i64 (k : Int) ∧ k ≤ n ∧ Hid (8 * q + l = 6 * k) ∧ l < 8 ∧ gv = .slice (some ⟨w.heap.size, 0, none⟩) q C ∧ lv = .int .u64 (l : Int) ∧ hv = .int .u64 (H : Int) ∧ Hid (H = bv b (8 * q) l) ∧
    Hid (w'.ownsRow w.heap.size 5 1 (.slice (some ⟨w.heap.size, 0, none⟩) q C) q (bc (gr b 8 q))) ∧ Below w.heap.size w w') (fun _ _ _ iv _ => n - (RowKit.intOf iv).toNat)
  case atStart => exact ⟨0, 0, 0, 0, rfl, by omega, rfl, by omega, rfl, rfl, rfl, rfl, HO, hb2⟩
  case round =>
    obtain ⟨k, q, l, H, rfl, hk, hql, hl, rfl, rfl, rfl, hH, ho, hbw⟩ := hrel
    by_cases hlt : k < n
    · obtain ⟨g, o, rfl, hg1, c1', x0, x1⟩ := HX.out k hlt
      have c1 := (hbw.cell (p := ⟨g, o + k, none⟩) hg1).trans c1'
      clear c1'
      have hki : (k : Int) < n := by omega
      have hHl : (H : Int) < 128 := by
        have h1 := bv_below b HB.out (8 * q) l 7 (by omega)
        have h2 := hH.out
        omega
      have HE : Hid (bits BinOp.or IntKind.u64 ((H : Int) * 64) (xs.getD k 0) = ((bv b (8 * q) (l + 6) : Nat) : Int)) := by
        have h1 := HS.out k hlt
        have h2 := hold_or H (bv b (6 * k) 6) 6 (by decide) (by have := hHl; omega) (bv_lt b HB.out _ _)
        have h3 := bv_add b (8 * q) l 6
        rw [hql.out, ← hH.out] at h3
        show _ = _
        rw [h3, ← h1]
        exact h2
      generalize xs.getD k 0 = x at *
      go_wp2
      go_loopw [6, 8, 9] (fun gv lv hv w' => ∃ q l H : Nat, Hid (8 * q + l = 6 * (k + 1)) ∧ l ≤ 13 ∧ gv = .slice (some ⟨w.heap.size, 0, none⟩) q C ∧ lv = .int .u64 (l : Int) ∧ hv = .int .u64 (H : Int) ∧ Hid (H = bv b (8 * q) l) ∧
        Hid (w'.ownsRow w.heap.size 5 1 (.slice (some ⟨w.heap.size, 0, none⟩) q C) q (bc (gr b 8 q))) ∧ Below w.heap.size w w') (fun _ lv _ _ => (RowKit.intOf lv).toNat)
      case atStart => exact ⟨q, l + 6, _, (by have := hql.out; omega : _ = _), by omega, rfl, by go_num, by rw [HE.out], rfl, ho, hbw⟩
      case round =>
        clear hH ho hbw hql hl HE hHl x1 x0 c1
        obtain ⟨q1, l1, H1, hql, hl1, rfl, rfl, rfl, hH, ho, hbw⟩ := hrel
        by_cases hl6 : 8 ≤ l1
        · obtain ⟨d, rfl⟩ : ∃ d, l1 = d + 8 := ⟨l1 - 8, by omega⟩
          have hHb : (H1 : Int) < 8192 := by
            have h1 := bv_below b HB.out (8 * q1) (d + 8) 13 (by omega)
            have h2 := hH.out
            omega
          have hq1 : q1 + 1 ≤ C := by
            have h1 := hql.out
            have h2 := HC.out
            omega
          obtain ⟨E1, E2⟩ := hold_out b HB.out 8 q1 d H1 (by decide) (by omega) (by have := hH.out; rwa [Nat.add_comm d 8] at this)
          have HE1 : Hid (_ = _) := E1
          have HE2 : Hid (_ = _) := E2
          clear E1 E2
          obtain ⟨w5, r5, o5, b5⟩ := append_room wr w.heap.size w.heap.size q1 C (gr b 8 q1) ((H1 : Int) / 2 ^ d % 256) hbw.size hq1 ho.out
          have HO5 : Hid (w5.ownsRow w.heap.size 5 1 (.slice (some ⟨w.heap.size, 0, none⟩) (q1 + 1) C) (q1 + 1) (bc (gr b 8 (q1 + 1)))) := by
            rw [HE1.out, ← gr_succ] at o5
            exact o5
          have hb5 := hbw.trans b5
          clear o5 b5 hq1
          go_wp2_with (at_builtin; refine wpList_append_run rfl (.tmp 42) (.tmp 47) 24 24 rfl _ _ rfl rfl r5 ?_)
          refine ⟨⟨q1 + 1, d, bv b (8 * (q1 + 1)) d, (by have := hql.out; omega : _ = _), by omega, rfl, rfl, by rw [HE2.out], rfl, HO5, hb5⟩, by simp [RowKit.intOf]; omega⟩
        · have hl6' : ¬ (8 : Int) ≤ (l1 : Int) := by omega
          go_wp2
          exact ⟨⟨k + 1, q1, l1, H1, by go_num, by omega, hql, by omega, rfl, rfl, rfl, hH, ho, hbw⟩, by simp [RowKit.intOf]; omega⟩
    · have hki : ¬ (k : Int) < n := by omega
      obtain rfl : k = n := by omega
      have e1 : q = 6 * k / 8 := by have := hql.out; omega
      have e2 : l = 6 * k % 8 := by have := hql.out; omega
      have hHl : (H : Int) < 256 := by
        have h1 := bv_below b HB.out (8 * q) l 7 (by omega)
        have h2 := hH.out
        omega
      have HE1 : Hid (_ = _) := e1
      have HE2 : Hid (_ = _) := e2
      clear e1 e2
      go_wp2
      refine bodyPost_ret (v := .tuple #[.slice (some ⟨w.heap.size, 0, none⟩) q C, .int .u8 (H : Int), .int .u64 (l : Int)]) (by simp [results, Try.results20, go_sem]) rfl ⟨w.heap.size, C, ?_, ?_, Nat.le_refl _, ?_, hbw⟩
      · have e3 : 6 * (k : Int) % 8 = (l : Int) := by have := HE2.out; omega
        rw [e3, ← HE1.out, ← HE2.out, hH.out]
      · have := HC.out; omega
      · rw [← HE1.out]
        exact ho.out
end Go.Proofs.Ytljnllenpdkccaa
