/- The reference's letter, bit, value, Encode. -/
import Derived.Test.YtljnllenpdkccaaEn
namespace Go.Proofs.Ytljnllenpdkccaa
open Go.RowKit

set_option maxHeartbeats 1000000 in
theorem rletter_any (v : Int) (w : World) (h0 : 0 ≤ v) (h1 : v < 64) :
    Calls Try.prog 19 #[.int .i64 v] w fun r w' => r = .returned (.int .u8 (lt v)) ∧ w' = w := by
  have hL : Hid (lt v = if v < 26 then 65 + v else if v < 52 then 71 + v else if v < 62 then v - 4 else if v = 62 then 45 else 95) := rfl
  generalize lt v = L at *
  by_cases a1 : v < 26
  · have hL' : L = 65 + v := by rw [hL.out, if_pos a1]
    subst hL'
    go_enter Try.func19, Try.ntmps19
    go_wp2
    go_ret
    exact ⟨rfl, rfl⟩
  · by_cases a2 : v < 52
    · have hL' : L = 97 + v - 26 := by rw [hL.out, if_neg a1, if_pos a2]; omega
      subst hL'
      go_enter Try.func19, Try.ntmps19
      go_wp2
      go_ret
      exact ⟨rfl, rfl⟩
    · by_cases a3 : v < 62
      · have hL' : L = 48 + v - 52 := by rw [hL.out, if_neg a1, if_neg a2, if_pos a3]; omega
        subst hL'
        go_enter Try.func19, Try.ntmps19
        go_wp2
        go_ret
        exact ⟨rfl, rfl⟩
      · by_cases a4 : v = 62
        · have hL' : L = 45 := by rw [hL.out, if_neg a1, if_neg a2, if_neg a3, if_pos a4]
          subst hL'
          subst a4
          go_enter Try.func19, Try.ntmps19
          go_wp2
          go_ret
          exact ⟨rfl, rfl⟩
        · have hL' : L = 95 := by rw [hL.out, if_neg a1, if_neg a2, if_neg a3, if_neg a4]
          subst hL'
          go_enter Try.func19, Try.ntmps19
          go_wp2
          go_ret
          exact ⟨rfl, rfl⟩

theorem ret_int {k : IntKind} {a b : Int} (h : a = b) : Ending.returned (.int k a) = .returned (.int k b) := by rw [h]
theorem wraps_i64s (n : Int) (h₀ : 0 ≤ n) (h₁ : n < 2 ^ 32) : IntKind.i64.wrap n = n := by rw [IntKind.wrap_i64]; omega
theorem bit_val (x : Int) (r : Nat) (h0 : 0 ≤ x) (h1 : x < 256) : bits BinOp.and IntKind.i64 (wrap64 (x / 2 ^ (7 - r))) 1 = ((x.toNat / 2 ^ (7 - r) % 2 : Nat) : Int) := by
  obtain ⟨m, rfl⟩ := Int.eq_ofNat_of_zero_le h0
  have hpi : ((2 : Int) ^ (7 - r)) = ((2 ^ (7 - r) : Nat) : Int) := by simp
  have h2 : m / 2 ^ (7 - r) ≤ m := Nat.div_le_self _ _
  rw [Int.toNat_natCast, hpi, ← Int.natCast_ediv]
  generalize m / 2 ^ (7 - r) = d at *
  have e : wrap64 (d : Int) = (d : Int) := by unfold wrap64; omega
  rw [e]
  have := bits_mask .i64 32 (by decide) wraps_i64s 1 (by decide) (d : Int) (by omega) (by omega)
  rw [show ((2 : Int) ^ 1 - 1) = 1 by decide, show ((2 : Int) ^ 1) = 2 by decide] at this
  rw [this]
  omega

set_option maxHeartbeats 1000000 in
theorem rbit_any (a : Option Addr) (c : Nat) (xs : List Int) (i : Nat) (w : World) (hI : Im w a xs) (hs : Small 8 xs) (hn : xs.length ≤ 281474976710656) (hi : i ≤ 2251799813685254) :
    Calls Try.prog 18 #[.slice a xs.length c, .int .i64 (i : Int)] w fun r w' => r = .returned (.int .i64 (bt 8 xs i : Nat)) ∧ w' = w := by
  have hii : (i : Int) ≤ 2251799813685254 := by omega
  by_cases hlt : i / 8 < xs.length
  · obtain ⟨g, o, rfl, hg, hc0⟩ : ∃ g o, a = some ⟨g, o, none⟩ ∧ g < w.heap.size ∧ At w g o xs := by
      rcases hI with h1 | h1
      · rw [h1] at hlt; simp at hlt
      · exact h1
    have hc := hc0 (i / 8) hlt
    obtain ⟨x0, x1⟩ := hs (i / 8) hlt
    have hB : Hid (bt 8 xs i = (xs.getD (i / 8) 0).toNat / 2 ^ (7 - i % 8) % 2) := rfl
    generalize bt 8 xs i = B at *
    generalize xs.getD (i / 8) 0 = x at *
    have x2 : x < 256 := by simpa using x1
    clear x1 hs hI hc0
    generalize xs.length = n at *
    generalize hq : i / 8 = q at *
    generalize hr : i % 8 = r at *
    have e1 : (i : Int) / 8 = (q : Int) := by omega
    have e2 : (i : Int) % 8 = (r : Int) := by omega
    have r0 : r < 8 := by omega
    have hqn : (q : Int) < n := by omega
    clear hq hr
    have HV : Hid (_ = _) := bit_val x r x0 x2
    go_enter Try.func18, Try.ntmps18
    go_wp2
    go_ret
    exact ⟨ret_int (by rw [hB.out]; exact HV.out), rfl⟩
  · rw [bt_out 8 (by decide) xs i (by omega)]
    clear hs hI
    generalize xs.length = n at *
    have hlt' : ¬ ((i : Int) / 8 < n) := by omega
    go_enter Try.func18, Try.ntmps18
    go_wp2
    go_ret
    exact ⟨rfl, rfl⟩

set_option maxHeartbeats 2000000 in
set_option maxRecDepth 100000 in
theorem rencode_any (a : Option Addr) (c : Nat) (xs : List Int) (w : World) (hI : Im w a xs) (hs : Small 8 xs) (hn : xs.length ≤ 140737488355328) :
    Calls Try.prog 11 #[.slice a xs.length c] w fun r w' => r = .returned (.string (strOfNums (enc xs))) ∧ Below w.heap.size w w' := by
  have HB : Hid (∀ i, bt 8 xs i < 2) := bt_lt 8 xs
  have HT : Hid (strOfNums (enc xs) = strOfNums ((gr (bt 8 xs) 6 (ln xs.length)).map lt)) := rfl
  have kb : Hid (∀ (i : Nat) (w' : World), i ≤ 2251799813685254 → Below w.heap.size w w' → Calls Try.prog 18 #[.slice a xs.length c, .int .i64 (i : Int)] w' fun r w'' => r = .returned (.int .i64 (bt 8 xs i : Nat)) ∧ w'' = w') :=
    fun i w' hi hb => rbit_any a c xs i w' (hI.below hb) hs (by omega) hi
  generalize strOfNums (enc xs) = T at *
  generalize bt 8 xs = b at *
  generalize hnn : xs.length = n at *
  clear hnn hI hs
  have hni : (n : Int) ≤ 140737488355328 := by omega
  obtain ⟨i0, hi, hz0, hz1, hz2⟩ := info_parts info5
  obtain ⟨w2, r2, o2, g2⟩ := run_make_own (P := Try.prog) w w.heap.size 24 5 i0 _ 1 Try.underlying24 hi hz0 hz1 .i64 .i64 (n / 3 * 4 + 4) (by rw [hz2]; omega) (by unfold maxLen; omega) (Nat.le_refl _)
  have r2' : (Instr.makeSlice 24 (.int .i64 0) (.int .i64 ((n : Int) / 3 * 4 + 4))).run Try.prog w = .ok (.slice (some ⟨w.heap.size, 0, none⟩) 0 (n / 3 * 4 + 4)) w2 := by
    rw [show (n : Int) / 3 * 4 + 4 = ((n / 3 * 4 + 4 : Nat) : Int) by omega]
    exact r2
  have hb2 : Below w.heap.size w w2 := (Below.refl _ _).grown g2 (Nat.le_refl _) (fun k hk => by cases hk)
  have HO : Hid (w2.ownsRow w.heap.size 5 1 (.slice (some ⟨w.heap.size, 0, none⟩) 0 (n / 3 * 4 + 4)) 0 []) := o2
  have HC : Hid (ln n ≤ n / 3 * 4 + 4) := by
    show _ ≤ _
    unfold ln; omega
  generalize n / 3 * 4 + 4 = C at *
  clear r2 o2 g2 hi hz0 hz1 hz2
  go_enter Try.func11, Try.ntmps11
  go_wp2
  clear r2'
  go_loopw [3, 4] (fun gv iv w' => ∃ k I : Nat, iv = .int .i64 (I : Int) ∧ Hid (I = 6 * k) ∧ k ≤ ln n ∧ gv = .slice (some ⟨w.heap.size, 0, none⟩) k C ∧
    Hid (w'.ownsRow w.heap.size 5 1 (.slice (some ⟨w.heap.size, 0, none⟩) k C) k (bc ((gr b 6 k).map lt))) ∧ Below w.heap.size w w') (fun _ iv _ => 8 * n + 8 - (RowKit.intOf iv).toNat)
  case atStart => exact ⟨0, 0, rfl, rfl, Nat.zero_le _, rfl, HO, hb2⟩
  case round =>
    obtain ⟨k, I, rfl, hI6, hk, rfl, ho, hbw⟩ := hrel
    by_cases hlt : k < ln n
    · have hIn : I < 8 * n := by have := hI6.out; unfold ln at hlt; omega
      have hIi : (I : Int) < 8 * (n : Int) := by omega
      go_wp2
      go_loop [5, 6] (fun vv jv => ∃ m V J : Nat, jv = .int .i64 (J : Int) ∧ Hid (J = I + m) ∧ m ≤ 6 ∧ vv = .int .i64 (V : Int) ∧ Hid (V = bv b (6 * k) m)) (fun _ jv => I + 6 - (RowKit.intOf jv).toNat)
      case atStart => exact ⟨0, 0, I, rfl, rfl, by omega, rfl, rfl⟩
      case round =>
        obtain ⟨m, V, J, rfl, hJ, hm, rfl, hV⟩ := hrel
        have hV6 : V < 64 := by
          have h1 := bv_below b HB.out (6 * k) m 6 hm
          have h2 := hV.out
          omega
        by_cases hm6 : m < 6
        · have hJl : (J : Int) < (I : Int) + 6 := by have := hJ.out; omega
          have kb1 := kb.out J wr (by have := hJ.out; omega) hbw
          have HE : Hid (bv b (6 * k) (m + 1) = 2 * V + b J) := by
            have h1 := hJ.out
            have h2 := hI6.out
            have h3 := hV.out
            show _ = _
            rw [bv, ← h3, show 6 * k + m = J by omega]
          have hbJ : b J < 2 := HB.out J
          generalize b J = B at *
          go_wp2_with (go_at_call 18; go_fit kb1; rintro x w1 ⟨rfl, rfl⟩)
          exact ⟨⟨m + 1, 2 * V + B, J + 1, by go_num, (by have := hJ.out; omega : _ = _), by omega, by go_num, (by rw [HE.out] : _ = _)⟩, by simp [RowKit.intOf]; have := hJ.out; omega⟩
        · have hJl : ¬ (J : Int) < (I : Int) + 6 := by have := hJ.out; omega
          obtain rfl : m = 6 := by omega
          have kl := rletter_any (V : Int) wr (by omega) (by omega)
          obtain ⟨w5, r5, o5, b5⟩ := append_room wr w.heap.size w.heap.size k C ((gr b 6 k).map lt) (lt (V : Int)) hbw.size (by have := HC.out; omega) ho.out
          have HO5 : Hid (w5.ownsRow w.heap.size 5 1 (.slice (some ⟨w.heap.size, 0, none⟩) (k + 1) C) (k + 1) (bc ((gr b 6 (k + 1)).map lt))) := by
            have h1 := hV.out
            have h2 : (gr b 6 (k + 1)).map lt = (gr b 6 k).map lt ++ [lt (V : Int)] := by
              rw [gr_succ, List.map_append, h1]
              rfl
            rw [← h2] at o5
            exact o5
          have hb5 := hbw.trans b5
          clear o5 b5
          go_wp2_with (first | (go_at_call 19; go_fit kl; rintro x w1 ⟨rfl, rfl⟩) | (at_builtin; refine wpList_append_run rfl (.tmp 33) (.tmp 36) 24 24 rfl _ _ rfl rfl r5 ?_))
          exact ⟨⟨k + 1, I + 6, by go_num, (by have := hI6.out; omega : _ = _), by omega, rfl, HO5, hb5⟩, by simp [RowKit.intOf]; omega⟩
    · have hIn : ¬ I < 8 * n := by have := hI6.out; unfold ln at hlt; omega
      have hIi : ¬ (I : Int) < 8 * (n : Int) := by omega
      have hkn : k = ln n := by omega
      have hcv := conv_owned wr w.heap.size (.slice (some ⟨w.heap.size, 0, none⟩) k C) ((gr b 6 k).map lt) (by rw [List.length_map, gr_len]; exact ho.out)
      have HT' : Hid (T = strOfNums ((gr b 6 k).map lt)) := by rw [hkn]; exact HT
      clear HT hkn
      go_wp2
      go_ret
      exact ⟨by rw [HT'.out]; rfl, hbw⟩
end Go.Proofs.Ytljnllenpdkccaa
