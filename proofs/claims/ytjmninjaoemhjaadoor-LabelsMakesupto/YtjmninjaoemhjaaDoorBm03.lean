/- A bundle of texts. -/
import Derived.Test.YtjmninjaoemhjaaDoorBm02
import Derived.Test.YtjmninjaoemhjaaDoorBm01
/- The reference's Next, by widths, is the decoder's. -/
namespace Go.Proofs.YtjmninjaoemhjaaDoor.R
open Go.RowKit Go.Lib

theorem gs1 (s : ByteArray) (i : Nat) : gs s i 1 = bt s i := rfl
theorem gs2 (s : ByteArray) (i : Nat) : gs s i 2 = (bt s i - 192) * 64 + bt s (i + 1) - 128 := rfl
theorem gs3 (s : ByteArray) (i : Nat) : gs s i 3 = ((bt s i - 224) * 64 + bt s (i + 1) - 128) * 64 + bt s (i + 2) - 128 := rfl
theorem gs4 (s : ByteArray) (i : Nat) : gs s i 4 = (((bt s i - 240) * 64 + bt s (i + 1) - 128) * 64 + bt s (i + 2) - 128) * 64 + bt s (i + 3) - 128 := rfl

theorem formL_bd (n : Int) : ∀ x ∈ formL n, 0 ≤ x ∧ x ≤ 255 := by
  unfold formL
  by_cases hr : isRune n = true
  · have hq := (isRune_iff n).1 hr
    rw [if_pos hr]
    intro x hx
    repeat' split at hx
    all_goals simp only [List.mem_cons, List.mem_nil_iff, or_false] at hx
    all_goals omega
  · rw [if_neg hr]; intro x hx; cases hx

theorem hit_iff (s : ByteArray) (i k : Nat) (h : i + k ≤ s.size) : hit s i k ↔ (formL (gs s i k)).length = k ∧ ∀ j, j < k → bt s (i + j) = (formL (gs s i k)).getD j 0 := by
  unfold hit
  rw [strOfNums_size]
  constructor
  · rintro ⟨h1, h2⟩
    refine ⟨h1, ?_⟩
    have := (extract_nums s i (formL (gs s i k)) (by omega) (formL_bd _)).1
    rw [h1] at this
    exact this h2
  · rintro ⟨h1, h2⟩
    refine ⟨h1, ?_⟩
    have := (extract_nums s i (formL (gs s i k)) (by omega) (formL_bd _)).2
    rw [h1] at this
    exact this h2

theorem len1 (n : Int) : (formL n).length = 1 ↔ 0 ≤ n ∧ n < 128 := by
  unfold formL
  by_cases hr : isRune n = true
  · have hq := (isRune_iff n).1 hr
    rw [if_pos hr]
    repeat' split
    all_goals simp
    all_goals omega
  · rw [if_neg hr]
    have hq := mt (isRune_iff n).2 hr
    simp
    omega
theorem len2 (n : Int) : (formL n).length = 2 ↔ 128 ≤ n ∧ n < 2048 := by
  unfold formL
  by_cases hr : isRune n = true
  · have hq := (isRune_iff n).1 hr
    rw [if_pos hr]
    repeat' split
    all_goals simp
    all_goals omega
  · rw [if_neg hr]
    have hq := mt (isRune_iff n).2 hr
    simp
    omega
theorem len3 (n : Int) : (formL n).length = 3 ↔ 2048 ≤ n ∧ n < 65536 ∧ (n < 55296 ∨ 57343 < n) := by
  unfold formL
  by_cases hr : isRune n = true
  · have hq := (isRune_iff n).1 hr
    rw [if_pos hr]
    repeat' split
    all_goals simp
    all_goals omega
  · rw [if_neg hr]
    have hq := mt (isRune_iff n).2 hr
    simp
    omega
theorem len4 (n : Int) : (formL n).length = 4 ↔ 65536 ≤ n ∧ n ≤ 1114111 := by
  unfold formL
  by_cases hr : isRune n = true
  · have hq := (isRune_iff n).1 hr
    rw [if_pos hr]
    repeat' split
    all_goals simp
    all_goals omega
  · rw [if_neg hr]
    have hq := mt (isRune_iff n).2 hr
    simp
    omega
theorem form1 (n : Int) (h : 0 ≤ n ∧ n < 128) : formL n = [n] := by
  unfold formL; rw [if_pos ((isRune_iff n).2 (by omega)), if_pos h.2]
theorem form2 (n : Int) (h : 128 ≤ n ∧ n < 2048) : formL n = [192 + n / 64, 128 + n % 64] := by
  unfold formL; rw [if_pos ((isRune_iff n).2 (by omega)), if_neg (by omega), if_pos h.2]
theorem form3 (n : Int) (h : 2048 ≤ n ∧ n < 65536 ∧ (n < 55296 ∨ 57343 < n)) : formL n = [224 + n / 4096, 128 + n / 64 % 64, 128 + n % 64] := by
  unfold formL; rw [if_pos ((isRune_iff n).2 (by omega)), if_neg (by omega), if_neg (by omega), if_pos h.2.1]
theorem form4 (n : Int) (h : 65536 ≤ n ∧ n ≤ 1114111) : formL n = [240 + n / 262144, 128 + n / 4096 % 64, 128 + n / 64 % 64, 128 + n % 64] := by
  unfold formL; rw [if_pos ((isRune_iff n).2 (by omega)), if_neg (by omega), if_neg (by omega), if_neg (by omega)]

theorem nb (s : ByteArray) (i : Nat) : bt s i = ((s.get! i).toNat : Int) ∧ (s.get! i).toNat < 256 := ⟨rfl, (s.get! i).toNat_lt⟩

theorem hit1_iff (s : ByteArray) (i : Nat) (h : i + 1 ≤ s.size) : hit s i 1 ↔ bt s i < 128 := by
  have hb := bt_bd s i
  rw [hit_iff s i 1 h, len1, gs1]
  constructor
  · intro q; exact q.1.2
  · intro q
    refine ⟨⟨hb.1, q⟩, fun j hj => ?_⟩
    obtain rfl : j = 0 := by omega
    rw [form1 _ ⟨hb.1, q⟩]
    rfl
theorem hit2_iff (s : ByteArray) (i : Nat) (h : i + 2 ≤ s.size) : hit s i 2 ↔ 128 ≤ gs s i 2 ∧ gs s i 2 < 2048 ∧ bt s i = 192 + gs s i 2 / 64 ∧ bt s (i + 1) = 128 + gs s i 2 % 64 := by
  rw [hit_iff s i 2 h, len2]
  constructor
  · rintro ⟨q, hq⟩
    rw [form2 _ q] at hq
    exact ⟨q.1, q.2, hq 0 (by omega), hq 1 (by omega)⟩
  · rintro ⟨q1, q2, e0, e1⟩
    refine ⟨⟨q1, q2⟩, fun j hj => ?_⟩
    rw [form2 _ ⟨q1, q2⟩]
    match j, hj with
    | 0, _ => exact e0
    | 1, _ => exact e1
theorem hit3_iff (s : ByteArray) (i : Nat) (h : i + 3 ≤ s.size) : hit s i 3 ↔ 2048 ≤ gs s i 3 ∧ gs s i 3 < 65536 ∧ (gs s i 3 < 55296 ∨ 57343 < gs s i 3) ∧ bt s i = 224 + gs s i 3 / 4096 ∧ bt s (i + 1) = 128 + gs s i 3 / 64 % 64 ∧ bt s (i + 2) = 128 + gs s i 3 % 64 := by
  rw [hit_iff s i 3 h, len3]
  constructor
  · rintro ⟨q, hq⟩
    rw [form3 _ q] at hq
    exact ⟨q.1, q.2.1, q.2.2, hq 0 (by omega), hq 1 (by omega), hq 2 (by omega)⟩
  · rintro ⟨q1, q2, q3, e0, e1, e2⟩
    refine ⟨⟨q1, q2, q3⟩, fun j hj => ?_⟩
    rw [form3 _ ⟨q1, q2, q3⟩]
    match j, hj with
    | 0, _ => exact e0
    | 1, _ => exact e1
    | 2, _ => exact e2
theorem hit4_iff (s : ByteArray) (i : Nat) (h : i + 4 ≤ s.size) : hit s i 4 ↔ 65536 ≤ gs s i 4 ∧ gs s i 4 ≤ 1114111 ∧ bt s i = 240 + gs s i 4 / 262144 ∧ bt s (i + 1) = 128 + gs s i 4 / 4096 % 64 ∧ bt s (i + 2) = 128 + gs s i 4 / 64 % 64 ∧ bt s (i + 3) = 128 + gs s i 4 % 64 := by
  rw [hit_iff s i 4 h, len4]
  constructor
  · rintro ⟨q, hq⟩
    rw [form4 _ q] at hq
    exact ⟨q.1, q.2, hq 0 (by omega), hq 1 (by omega), hq 2 (by omega), hq 3 (by omega)⟩
  · rintro ⟨q1, q2, e0, e1, e2, e3⟩
    refine ⟨⟨q1, q2⟩, fun j hj => ?_⟩
    rw [form4 _ ⟨q1, q2⟩]
    match j, hj with
    | 0, _ => exact e0
    | 1, _ => exact e1
    | 2, _ => exact e2
    | 3, _ => exact e3

theorem nxt_of (s : ByteArray) (i : Nat) (h : i < s.size) (g : Int) (k : Nat) (hg : 0 ≤ g) (hd : Utf8.decode s i = (g.toNat, k)) (hne : ¬ (g = 65533 ∧ k = 1)) : nxt s i = (g, (k : Int)) := by
  unfold nxt
  rw [if_pos h, hd, if_neg (by simp only; omega)]
  simp only
  rw [Int.toNat_of_nonneg hg]

theorem ref_hit (s : ByteArray) (i k : Nat) (h1 : 1 ≤ k) (h4 : k ≤ 4) (h : i + k ≤ s.size) (hh : hit s i k) : nxt s i = (gs s i k, (k : Int)) := by
  have b0 := nb s i; have b1 := nb s (i + 1); have b2 := nb s (i + 2); have b3 := nb s (i + 3)
  have hd := decode_at s i
  match k, h1, h4 with
  | 1, _, _ =>
    have q := (hit1_iff s i h).1 hh
    rw [gs1]
    refine nxt_of s i (by omega) _ 1 (by omega) ?_ (by omega)
    rw [hd, dec1 _ _ _ _ _ (by omega), b0.1, Int.toNat_natCast]
  | 2, _, _ =>
    obtain ⟨q1, q2, e0, e1⟩ := (hit2_iff s i h).1 hh
    have hg := gs2 s i
    refine nxt_of s i (by omega) _ 2 (by omega) ?_ (by omega)
    rw [b0.1] at hg e0; rw [b1.1] at hg e1
    rw [hd, dec2 _ _ _ _ _ _ (by omega) b0.2 b1.2 hg q1 q2 e0 e1]
  | 3, _, _ =>
    obtain ⟨q1, q2, q3, e0, e1, e2⟩ := (hit3_iff s i h).1 hh
    have hg := gs3 s i
    refine nxt_of s i (by omega) _ 3 (by omega) ?_ (by omega)
    rw [b0.1] at hg e0; rw [b1.1] at hg e1; rw [b2.1] at hg e2
    rw [hd, dec3 _ _ _ _ _ _ (by omega) b0.2 b1.2 b2.2 hg q1 q2 q3 e0 e1 e2]
  | 4, _, _ =>
    obtain ⟨q1, q2, e0, e1, e2, e3⟩ := (hit4_iff s i h).1 hh
    have hg := gs4 s i
    refine nxt_of s i (by omega) _ 4 (by omega) ?_ (by omega)
    rw [b0.1] at hg e0; rw [b1.1] at hg e1; rw [b2.1] at hg e2; rw [b3.1] at hg e3
    rw [hd, dec4 _ _ _ _ _ _ (by omega) b0.2 b1.2 b2.2 b3.2 hg q1 q2 e0 e1 e2 e3]

theorem ref_none (s : ByteArray) (i : Nat) (h : i < s.size) (hn : ∀ k, 1 ≤ k → k ≤ 4 → i + k ≤ s.size → ¬ hit s i k) : nxt s i = (-1, 0) := by
  have b0 := nb s i; have b1 := nb s (i + 1); have b2 := nb s (i + 2); have b3 := nb s (i + 3)
  have hd := decode_at s i
  have e1 := mt (hit1_iff s i (by omega)).2 (hn 1 (by omega) (by omega) (by omega))
  have g2 := gs2 s i; have g3 := gs3 s i; have g4 := gs4 s i
  have n2 : 1 < s.size - i → ¬ _ := fun hq => mt (hit2_iff s i (by omega)).2 (hn 2 (by omega) (by omega) (by omega))
  have n3 : 2 < s.size - i → ¬ _ := fun hq => mt (hit3_iff s i (by omega)).2 (hn 3 (by omega) (by omega) (by omega))
  have n4 : 3 < s.size - i → ¬ _ := fun hq => mt (hit4_iff s i (by omega)).2 (hn 4 (by omega) (by omega) (by omega))
  rw [b0.1] at e1 n2 n3 n4 g2 g3 g4
  rw [b1.1] at n2 n3 n4 g2 g3 g4
  rw [b2.1] at n3 n4 g3 g4
  rw [b3.1] at n4 g4
  have := decNone (s.size - i) _ _ _ _ _ _ _ b0.2 b1.2 b2.2 b3.2 g2 g3 g4 (by omega) n2 n3 n4
  unfold nxt
  rw [if_pos h, hd, this, if_pos ⟨rfl, rfl⟩]
end Go.Proofs.YtjmninjaoemhjaaDoor.R
/- The walks of the reference's Next and Valid. -/
namespace Go.Proofs.YtjmninjaoemhjaaDoor.R
open Go.RowKit Go.Lib

set_option maxHeartbeats 400000 in
theorem rnext_out (s : ByteArray) (a : Int) (w : World) (hs : s.size ≤ maxLen) (h : a < 0 ∨ (s.size : Int) ≤ a) :
    Calls Tryd.prog 70 #[.string s, .int .i64 a] w fun e w' => e = .returned (.tuple #[.int .i32 (-1), .int .i64 0]) ∧ Below w.heap.size w w' := by
  unfold maxLen at hs
  rcases h with h | h
  · go_enter Tryd.func70, Tryd.ntmps70
    go_wp2
    go_ret2
    exact ⟨rfl, Below.refl _ _⟩
  · have h0 : ¬ a < 0 := by omega
    go_enter Tryd.func70, Tryd.ntmps70
    go_wp2
    go_ret2
    exact ⟨rfl, Below.refl _ _⟩

theorem hit_bd (s : ByteArray) (i k : Nat) (h1 : 1 ≤ k) (h : hit s i k) : 0 ≤ gs s i k ∧ gs s i k ≤ 1114111 := by
  have hl := h.1
  rw [strOfNums_size] at hl
  by_cases hr : isRune (gs s i k) = true
  · have hq := (isRune_iff _).1 hr
    exact ⟨hq.1, hq.2.1⟩
  · unfold formL at hl
    rw [if_neg hr] at hl
    simp at hl
    omega

set_option maxHeartbeats 1000000 in
theorem rnext_in (s : ByteArray) (i : Nat) (w : World) (hs : s.size ≤ maxLen) (h : i < s.size) :
    Calls Tryd.prog 70 #[.string s, .int .i64 i] w fun e w' => e = .returned (.tuple #[.int .i32 (nxt s i).1, .int .i64 (nxt s i).2]) ∧ Below w.heap.size w w' := by
  have HS : Hid (s.size ≤ maxLen) := hs
  unfold maxLen at hs
  have h0 : ¬ (i : Int) < 0 := by omega
  have h1 : ¬ (s.size : Int) ≤ i := by omega
  have hlt : i < s.size := h
  clear h
  go_enter Tryd.func70, Tryd.ntmps70
  go_wp2
  go_loopw [6] (fun t w' => ∃ k : Nat, 1 ≤ k ∧ k ≤ 5 ∧ t = .int .i64 k ∧ Below w.heap.size w w' ∧ ∀ v, 1 ≤ v → v < k → i + v ≤ s.size → ¬ hit s i v) (fun t _ => 5 - (RowKit.intOf t).toNat)
  case atStart => exact ⟨1, by omega, by omega, rfl, Below.refl _ _, fun v a b => by omega⟩
  case round =>
    obtain ⟨k, hk1, hk5, rfl, hbw, hno⟩ := hrel
    have HN : Hid (∀ v, 1 ≤ v → v < k → i + v ≤ s.size → ¬ hit s i v) := hno
    clear hno
    by_cases hin : k ≤ 4 ∧ i + k ≤ s.size
    · obtain ⟨hk4, hik⟩ := hin
      have cG := guess_any s i k wr HS.out hk1 hk4 hik
      have cF := form_any (gs s i k) wr
      have hh : hit s i k ↔ (strOfNums (formL (gs s i k))).size = k ∧ s.extract i (i + k) = strOfNums (formL (gs s i k)) := Iff.rfl
      have hyes := ref_hit s i k hk1 hk4 hik
      have hbd := hit_bd s i k hk1
      generalize strOfNums (formL (gs s i k)) = f at *
      generalize gs s i k = g at *
      have HH : Hid (hit s i k ↔ f.size = k ∧ s.extract i (i + k) = f) := hh
      have HY : Hid (hit s i k → nxt s i = (g, (k : Int))) := hyes
      have HB : Hid (hit s i k → 0 ≤ g ∧ g ≤ 1114111) := hbd
      clear hh hyes hbd
      have t1 : (k : Int) ≤ 4 := by omega
      have t2 : (k : Int) ≤ (s.size : Int) - i := by omega
      by_cases hf : f.size = k
      · by_cases he : s.extract i (i + k) = f
        · have hfb : ((f.size : Int) == (k : Int)) = true := by rw [beq_iff_eq]; omega
          have HX : Hid (nxt s i = (g, (k : Int))) := HY.out (HH.out.2 ⟨hf, he⟩)
          obtain ⟨g0, g1⟩ := HB.out (HH.out.2 ⟨hf, he⟩)
          have heb : ((s.extract i (i + k)).toList == f.toList) = true := by rw [he]; simp
          clear he hf
          go_wp2_with (first | (go_at_call 98; go_fit cG; rintro e w' ⟨rfl, rfl⟩) | (go_at_call 99; go_fit cF; rintro e w' ⟨rfl, hb2⟩))
          go_ret2
          exact ⟨by rw [HX.out]; rfl, hbw.trans (hb2.mono hbw.size)⟩
        · have hfb : ((f.size : Int) == (k : Int)) = true := by rw [beq_iff_eq]; omega
          have HE : Hid (¬ s.extract i (i + k) = f) := he
          have heb : ((s.extract i (i + k)).toList == f.toList) = false := by
            rw [beq_eq_false_iff_ne]
            intro hq
            apply HE.out
            rw [Lib.toList_data, Lib.toList_data] at hq
            exact ByteArray.ext (Array.toList_inj.1 hq)
          clear he hf
          go_wp2_with (first | (go_at_call 98; go_fit cG; rintro e w' ⟨rfl, rfl⟩) | (go_at_call 99; go_fit cF; rintro e w' ⟨rfl, hb2⟩))
          exact ⟨⟨k + 1, by omega, by omega, by go_num, hbw.trans (hb2.mono hbw.size), fun v a b c => by
            by_cases hv : v = k
            · subst hv; intro hq; exact HE.out (HH.out.1 hq).2
            · exact HN.out v a (by omega) c⟩, by simp [RowKit.intOf]; omega⟩
      · have hfb : ((f.size : Int) == (k : Int)) = false := by rw [beq_eq_false_iff_ne]; omega
        have HF : Hid (¬ f.size = k) := hf
        clear hf
        go_wp2_with (first | (go_at_call 98; go_fit cG; rintro e w' ⟨rfl, rfl⟩) | (go_at_call 99; go_fit cF; rintro e w' ⟨rfl, hb2⟩))
        exact ⟨⟨k + 1, by omega, by omega, by go_num, hbw.trans (hb2.mono hbw.size), fun v a b c => by
          by_cases hv : v = k
          · subst hv; intro hq; exact HF.out (HH.out.1 hq).1
          · exact HN.out v a (by omega) c⟩, by simp [RowKit.intOf]; omega⟩
    · have HX : Hid (nxt s i = (-1, 0)) := ref_none s i hlt (fun v a b c => HN.out v a (by omega) c)
      by_cases hk4 : k ≤ 4
      · have t1 : (k : Int) ≤ 4 := by omega
        have t2 : ¬ (k : Int) ≤ (s.size : Int) - i := by omega
        clear hin
        go_wp2
        go_ret2
        exact ⟨by rw [HX.out]; rfl, hbw⟩
      · have t1 : ¬ (k : Int) ≤ 4 := by omega
        clear hin
        go_wp2
        go_ret2
        exact ⟨by rw [HX.out]; rfl, hbw⟩

theorem rnext_any (s : ByteArray) (a : Int) (w : World) (hs : s.size ≤ maxLen) :
    Calls Tryd.prog 70 #[.string s, .int .i64 a] w fun e w' => e = .returned (.tuple #[.int .i32 (nxtZ s a).1, .int .i64 (nxtZ s a).2]) ∧ Below w.heap.size w w' := by
  by_cases h0 : a < 0
  · have e1 : nxtZ s a = (-1, 0) := by unfold nxtZ; rw [if_neg (by omega)]
    rw [e1]
    exact rnext_out s a w hs (Or.inl h0)
  · obtain ⟨i, rfl⟩ := Int.eq_ofNat_of_zero_le (show 0 ≤ a by omega)
    have e1 : nxtZ s (i : Int) = nxt s i := by unfold nxtZ; rw [if_pos (by omega)]; simp
    rw [e1]
    by_cases h1 : i < s.size
    · exact rnext_in s i w hs h1
    · rw [nxt_out s i (by omega)]
      exact rnext_out s i w hs (Or.inr (by omega))

theorem decode_le_size (s : ByteArray) (i : Nat) (h : i < s.size) : i + (Utf8.decode s i).2 ≤ s.size := by
  rw [decode_at]
  unfold decodeN
  repeat' split
  all_goals simp
  all_goals omega

end Go.Proofs.YtjmninjaoemhjaaDoor.R
/- Labels: rows of one's own that are written again. -/
namespace Go.Proofs.YtjmninjaoemhjaaDoor
open Go.RowKit

/-- But for the blocks of M all is as it was. -/
structure Kp (M : Nat → Prop) (w w' : World) : Prop where
  os : w'.os = w.os
  tape : w'.tape = w.tape
  output : w'.output = w.output
  size : w.heap.size ≤ w'.heap.size
  block : ∀ k, k < w.heap.size → ¬ M k → w'.heap[k]? = w.heap[k]?
namespace Kp
variable {M N : Nat → Prop} {a b c w w' : World}
theorem refl (M : Nat → Prop) (w : World) : Kp M w w := ⟨rfl, rfl, rfl, Nat.le_refl _, fun _ _ _ => rfl⟩
theorem trans (h : Kp M a b) (k : Kp M b c) : Kp M a c := ⟨k.os.trans h.os, k.tape.trans h.tape, k.output.trans h.output, Nat.le_trans h.size k.size, fun i hi hm => (k.block i (Nat.lt_of_lt_of_le hi h.size) hm).trans (h.block i hi hm)⟩
theorem of (h : Below w.heap.size w w') : Kp M w w' := ⟨h.os, h.tape, h.output, h.size, fun k hk _ => h.block k hk⟩
theorem below {B : Nat} (h : Kp M w w') (hB : B ≤ w.heap.size) (hm : ∀ k, k < B → ¬ M k) : Below B w w' := ⟨h.os, h.tape, h.output, h.size, fun k hk => h.block k (by omega) (hm k hk)⟩
theorem grown {row : Option Nat} (h : Kp M a w) (hg : w.grownBy w' row) (hr : ∀ k, row = some k → k < w.heap.size → M k) : Kp M a w' :=
  h.trans ⟨hg.os, hg.tape, hg.output, hg.size, fun k hk hm => hg.block k hk (fun e => hm (hr k e.symm hk))⟩
theorem row {S e s n : Nat} {v : Value} {xs : List Value} (h : Kp M w w') (o : w.ownsRow S e s v n xs) (hm : ∀ k, v.ownBlock = some k → ¬ M k) : w'.ownsRow S e s v n xs := by
  refine ⟨o.1, ?_⟩
  rcases o.2 with h0 | ⟨g, cap, cur, hv, hB, hg, r⟩
  · exact .inl h0
  · exact .inr ⟨g, cap, cur, hv, hB, (h.block g (Array.getElem?_eq_some_iff.1 hg).1 (hm g (by rw [hv]; rfl))).trans hg, r⟩
end Kp
theorem step_append_run {P : Program} {ops : Array Oper} {o : Oper} {a : Act} {w w' : World} {v' : Value} {K : Act → World → Prop} {Q : Exit → Act → World → Prop} {E : Prop} (hgd : o.guard = none) (s x : Operand) (t tx : TypeId)
    (ho : o.op = .call { callee := .builtin .append, args := #[s, x], argTypes := #[t, tx] }) (vs vx : Value) (hs : a.eval s = vs) (hx : a.eval x = vx)
    (hr : (Builtin.append_ #[t, tx] o.type #[vs, vx]).run P w = .ok v' w') (h : K (a.put o.dst v') w') : if Region.wanted o (yielded ops a.tmps) = true then Oper.wp P o a w K Q else E := by
  have hw : Region.wanted o (yielded ops a.tmps) = true := by simp [Region.wanted, hgd]
  rw [if_pos hw]
  unfold Oper.wp execOp
  simp only [ho, resolve, invoke, builtin, Sem.run_bind, Sem.run_pure, Result.andThen_ok, List.map_toArray, List.map_cons, List.map_nil, hs, hx, hr]
  exact h
theorem info_parts {P : Program} {e : TypeId} {z : Value} {size bytes : Nat} (h : (P.info? e).map (fun i => (i.zero, i.size, i.bytes)) = some (some z, size, bytes)) : ∃ i, P.info? e = some i ∧ i.zero = some z ∧ i.size = size ∧ i.bytes = bytes := by
  cases hi : P.info? e with
  | none => rw [hi] at h; cases h
  | some i =>
    rw [hi] at h
    simp at h
    exact ⟨i, rfl, h.1, h.2.1, h.2.2⟩
theorem infL : (Tryd.prog.info? 26).map (fun i => (i.zero, i.size, i.bytes)) = some (some (.agg #[.string ⟨#[]⟩, .string ⟨#[]⟩]), 2, 32) := by kernel_rfl
theorem own_bd {S e s n : Nat} {w : World} {v : Value} {xs : List Value} (h : w.ownsRow S e s v n xs) : ∀ G, v.ownBlock = some G → S ≤ G ∧ G < w.heap.size := by
  intro G hG
  rcases h.2 with ⟨rfl, _⟩ | ⟨g, cap, cur, rfl, hg, hh, _⟩
  · cases hG
  · have : g = G := Option.some.inj hG
    subst this
    exact ⟨hg, (Array.getElem?_eq_some_iff.1 hh).1⟩
/-- Cut to nothing. -/
theorem own0 {S n c : Nat} {w : World} {a : Option Addr} {xs : List Value} (h : w.ownsRow S 26 2 (.slice a n c) n xs) : w.ownsRow S 26 2 (.slice a 0 c) 0 [] := by
  rcases h.2 with ⟨e, h0⟩ | ⟨g, cap, cur, e, hg, hh, h1, h2, h3, h4⟩
  · cases e
    exact World.ownsRow_nil _ _ _ _
  · cases e
    exact ⟨rfl, .inr ⟨g, c, cur, rfl, hg, hh, Nat.zero_le _, h2, h3, by simp⟩⟩
/-- Labels written over a row that was cut to nothing. -/
theorem ap_row (w : World) (S : Nat) (ax : Option Addr) (cx : Nat) (hS : S ≤ w.heap.size) (o : w.ownsRow S 26 2 (.slice ax 0 cx) 0 []) (a : Option Addr) (m c : Nat) (f : Nat → Lb) (hz : a = none → m = 0 ∧ c = 0) (ha : Lm w a f m) (hm : m * 32 ≤ 140737488355328) :
    ∃ a' c' w', (Builtin.append_ #[22, 22] 22 #[.slice ax 0 cx, .slice a m c]).run Tryd.prog w = .ok (.slice a' m c') w' ∧ w'.ownsRow S 26 2 (.slice a' m c') m (lc f m) ∧ Kp (fun k => (Value.slice ax 0 cx).ownBlock = some k) w w' ∧ (∀ k, (Value.slice a' m c').ownBlock = some k → (Value.slice ax 0 cx).ownBlock = some k ∨ w.heap.size ≤ k) := by
  obtain ⟨i0, hi, hz0, hz1, hz2⟩ := info_parts infL
  cases a with
  | none =>
    obtain ⟨rfl, rfl⟩ := hz rfl
    exact ⟨ax, cx, w, run_append_owned_none _ S 22 22 26 i0 2 Tryd.underlying22 hi _ 0 [] o, o, Kp.refl _ _, fun k hk => .inl hk⟩
  | some p =>
    obtain ⟨v', w', r, o', g, _, h5⟩ := run_append_own_at (P := Tryd.prog) w S 22 22 26 i0 _ 2 32 Tryd.underlying22 hi hz0 hz1 hz2 rfl (by decide) (.slice ax 0 cx) 0 [] o p m c (lc f m) (lc_len f m) (fun j u hj => ha.cells j u hj) (lc_one f m) (by unfold maxLen; omega) (by rw [Nat.zero_add]; exact hm) hS
    rw [Nat.zero_add, List.nil_append] at o'
    have hk : Kp (fun k => (Value.slice ax 0 cx).ownBlock = some k) w w' := (Kp.refl _ w).grown g (fun k e _ => e)
    have h6 : ∀ k, v'.ownBlock = some k → (Value.slice ax 0 cx).ownBlock = some k ∨ w.heap.size ≤ k := fun k e => by
      rcases h5 with h5 | h5
      · exact .inl (h5.symm.trans e)
      · have : w.heap.size = k := Option.some.inj (h5.symm.trans e)
        exact .inr (by omega)
    rcases o'.2 with ⟨rfl, rfl⟩ | ⟨G, C, cur, rfl, _⟩
    · exact ⟨none, 0, w', r, o', hk, h6⟩
    · exact ⟨some ⟨G, 0, none⟩, C, w', r, o', hk, h6⟩
end Go.Proofs.YtjmninjaoemhjaaDoor
