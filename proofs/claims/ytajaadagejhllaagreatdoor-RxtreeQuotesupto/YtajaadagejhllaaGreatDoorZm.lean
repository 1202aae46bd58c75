import Derived.Test.YtajaadagejhllaaGreatDoorBs35
/- The reference's Next, by widths, is the decoder's. -/
namespace Go.Proofs.YtajaadagejhllaaGreatDoor
open Go.RowKit Go.Lib

theorem gs1 (s : ByteArray) (i : Nat) : gs s i 1 = bt s i := rfl
theorem gs2 (s : ByteArray) (i : Nat) : gs s i 2 = (bt s i - 192) * 64 + bt s (i + 1) - 128 := rfl
theorem gs3 (s : ByteArray) (i : Nat) : gs s i 3 = ((bt s i - 224) * 64 + bt s (i + 1) - 128) * 64 + bt s (i + 2) - 128 := rfl
theorem gs4 (s : ByteArray) (i : Nat) : gs s i 4 = (((bt s i - 240) * 64 + bt s (i + 1) - 128) * 64 + bt s (i + 2) - 128) * 64 + bt s (i + 3) - 128 := rfl

theorem formL_bd (n : Int) : ∀ x ∈ formL n, 0 ≤ x ∧ x ≤ 255 := by
  unfold formL
  by_cases hr : isRune n = true
  · have hq := (isRune_iff n).1 hr
    rw [if_pos hr]
    intro x hx
    repeat' split at hx
    all_goals simp only [List.mem_cons, List.mem_nil_iff, or_false] at hx
    all_goals omega
  · rw [if_neg hr]; intro x hx; cases hx

theorem hit_iff (s : ByteArray) (i k : Nat) (h : i + k ≤ s.size) : hit s i k ↔ (formL (gs s i k)).length = k ∧ ∀ j, j < k → bt s (i + j) = (formL (gs s i k)).getD j 0 := by
  unfold hit
  rw [strOfNums_size]
  constructor
  · rintro ⟨h1, h2⟩
    refine ⟨h1, ?_⟩
    have := (extract_nums s i (formL (gs s i k)) (by omega) (formL_bd _)).1
    rw [h1] at this
    exact this h2
  · rintro ⟨h1, h2⟩
    refine ⟨h1, ?_⟩
    have := (extract_nums s i (formL (gs s i k)) (by omega) (formL_bd _)).2
    rw [h1] at this
    exact this h2

theorem len1 (n : Int) : (formL n).length = 1 ↔ 0 ≤ n ∧ n < 128 := by
  unfold formL
  by_cases hr : isRune n = true
  · have hq := (isRune_iff n).1 hr
    rw [if_pos hr]
    repeat' split
    all_goals simp
    all_goals omega
  · rw [if_neg hr]
    have hq := mt (isRune_iff n).2 hr
    simp
    omega
theorem len2 (n : Int) : (formL n).length = 2 ↔ 128 ≤ n ∧ n < 2048 := by
  unfold formL
  by_cases hr : isRune n = true
  · have hq := (isRune_iff n).1 hr
    rw [if_pos hr]
    repeat' split
    all_goals simp
    all_goals omega
  · rw [if_neg hr]
    have hq := mt (isRune_iff n).2 hr
    simp
    omega
theorem len3 (n : Int) : (formL n).length = 3 ↔ 2048 ≤ n ∧ n < 65536 ∧ (n < 55296 ∨ 57343 < n) := by
  unfold formL
  by_cases hr : isRune n = true
  · have hq := (isRune_iff n).1 hr
    rw [if_pos hr]
    repeat' split
    all_goals simp
    all_goals omega
  · rw [if_neg hr]
    have hq := mt (isRune_iff n).2 hr
    simp
    omega
theorem len4 (n : Int) : (formL n).length = 4 ↔ 65536 ≤ n ∧ n ≤ 1114111 := by
  unfold formL
  by_cases hr : isRune n = true
  · have hq := (isRune_iff n).1 hr
    rw [if_pos hr]
    repeat' split
    all_goals simp
    all_goals omega
  · rw [if_neg hr]
    have hq := mt (isRune_iff n).2 hr
    simp
    omega
theorem form1 (n : Int) (h : 0 ≤ n ∧ n < 128) : formL n = [n] := by
  unfold formL; rw [if_pos ((isRune_iff n).2 (by omega)), if_pos h.2]
theorem form2 (n : Int) (h : 128 ≤ n ∧ n < 2048) : formL n = [192 + n / 64, 128 + n % 64] := by
  unfold formL; rw [if_pos ((isRune_iff n).2 (by omega)), if_neg (by omega), if_pos h.2]
theorem form3 (n : Int) (h : 2048 ≤ n ∧ n < 65536 ∧ (n < 55296 ∨ 57343 < n)) : formL n = [224 + n / 4096, 128 + n / 64 % 64, 128 + n % 64] := by
  unfold formL; rw [if_pos ((isRune_iff n).2 (by omega)), if_neg (by omega), if_neg (by omega), if_pos h.2.1]
theorem form4 (n : Int) (h : 65536 ≤ n ∧ n ≤ 1114111) : formL n = [240 + n / 262144, 128 + n / 4096 % 64, 128 + n / 64 % 64, 128 + n % 64] := by
  unfold formL; rw [if_pos ((isRune_iff n).2 (by omega)), if_neg (by omega), if_neg (by omega), if_neg (by omega)]

theorem nb (s : ByteArray) (i : Nat) : bt s i = ((s.get! i).toNat : Int) ∧ (s.get! i).toNat < 256 := ⟨rfl, (s.get! i).toNat_lt⟩

theorem hit1_iff (s : ByteArray) (i : Nat) (h : i + 1 ≤ s.size) : hit s i 1 ↔ bt s i < 128 := by
  have hb := bt_bd s i
  rw [hit_iff s i 1 h, len1, gs1]
  constructor
  · intro q; exact q.1.2
  · intro q
    refine ⟨⟨hb.1, q⟩, fun j hj => ?_⟩
    obtain rfl : j = 0 := by omega
    rw [form1 _ ⟨hb.1, q⟩]
    rfl
theorem hit2_iff (s : ByteArray) (i : Nat) (h : i + 2 ≤ s.size) : hit s i 2 ↔ 128 ≤ gs s i 2 ∧ gs s i 2 < 2048 ∧ bt s i = 192 + gs s i 2 / 64 ∧ bt s (i + 1) = 128 + gs s i 2 % 64 := by
  rw [hit_iff s i 2 h, len2]
  constructor
  · rintro ⟨q, hq⟩
    rw [form2 _ q] at hq
    exact ⟨q.1, q.2, hq 0 (by omega), hq 1 (by omega)⟩
  · rintro ⟨q1, q2, e0, e1⟩
    refine ⟨⟨q1, q2⟩, fun j hj => ?_⟩
    rw [form2 _ ⟨q1, q2⟩]
    match j, hj with
    | 0, _ => exact e0
    | 1, _ => exact e1
theorem hit3_iff (s : ByteArray) (i : Nat) (h : i + 3 ≤ s.size) : hit s i 3 ↔ 2048 ≤ gs s i 3 ∧ gs s i 3 < 65536 ∧ (gs s i 3 < 55296 ∨ 57343 < gs s i 3) ∧ bt s i = 224 + gs s i 3 / 4096 ∧ bt s (i + 1) = 128 + gs s i 3 / 64 % 64 ∧ bt s (i + 2) = 128 + gs s i 3 % 64 := by
  rw [hit_iff s i 3 h, len3]
  constructor
  · rintro ⟨q, hq⟩
    rw [form3 _ q] at hq
    exact ⟨q.1, q.2.1, q.2.2, hq 0 (by omega), hq 1 (by omega), hq 2 (by omega)⟩
  · rintro ⟨q1, q2, q3, e0, e1, e2⟩
    refine ⟨⟨q1, q2, q3⟩, fun j hj => ?_⟩
    rw [form3 _ ⟨q1, q2, q3⟩]
    match j, hj with
    | 0, _ => exact e0
    | 1, _ => exact e1
    | 2, _ => exact e2
theorem hit4_iff (s : ByteArray) (i : Nat) (h : i + 4 ≤ s.size) : hit s i 4 ↔ 65536 ≤ gs s i 4 ∧ gs s i 4 ≤ 1114111 ∧ bt s i = 240 + gs s i 4 / 262144 ∧ bt s (i + 1) = 128 + gs s i 4 / 4096 % 64 ∧ bt s (i + 2) = 128 + gs s i 4 / 64 % 64 ∧ bt s (i + 3) = 128 + gs s i 4 % 64 := by
  rw [hit_iff s i 4 h, len4]
  constructor
  · rintro ⟨q, hq⟩
    rw [form4 _ q] at hq
    exact ⟨q.1, q.2, hq 0 (by omega), hq 1 (by omega), hq 2 (by omega), hq 3 (by omega)⟩
  · rintro ⟨q1, q2, e0, e1, e2, e3⟩
    refine ⟨⟨q1, q2⟩, fun j hj => ?_⟩
    rw [form4 _ ⟨q1, q2⟩]
    match j, hj with
    | 0, _ => exact e0
    | 1, _ => exact e1
    | 2, _ => exact e2
    | 3, _ => exact e3

theorem nxt_of (s : ByteArray) (i : Nat) (h : i < s.size) (g : Int) (k : Nat) (hg : 0 ≤ g) (hd : Utf8.decode s i = (g.toNat, k)) (hne : ¬ (g = 65533 ∧ k = 1)) : nxt s i = (g, (k : Int)) := by
  unfold nxt
  rw [if_pos h, hd, if_neg (by simp only; omega)]
  simp only
  rw [Int.toNat_of_nonneg hg]

theorem ref_hit (s : ByteArray) (i k : Nat) (h1 : 1 ≤ k) (h4 : k ≤ 4) (h : i + k ≤ s.size) (hh : hit s i k) : nxt s i = (gs s i k, (k : Int)) := by
  have b0 := nb s i; have b1 := nb s (i + 1); have b2 := nb s (i + 2); have b3 := nb s (i + 3)
  have hd := decode_at s i
  match k, h1, h4 with
  | 1, _, _ =>
    have q := (hit1_iff s i h).1 hh
    rw [gs1]
    refine nxt_of s i (by omega) _ 1 (by omega) ?_ (by omega)
    rw [hd, dec1 _ _ _ _ _ (by omega), b0.1, Int.toNat_natCast]
  | 2, _, _ =>
    obtain ⟨q1, q2, e0, e1⟩ := (hit2_iff s i h).1 hh
    have hg := gs2 s i
    refine nxt_of s i (by omega) _ 2 (by omega) ?_ (by omega)
    rw [b0.1] at hg e0; rw [b1.1] at hg e1
    rw [hd, dec2 _ _ _ _ _ _ (by omega) b0.2 b1.2 hg q1 q2 e0 e1]
  | 3, _, _ =>
    obtain ⟨q1, q2, q3, e0, e1, e2⟩ := (hit3_iff s i h).1 hh
    have hg := gs3 s i
    refine nxt_of s i (by omega) _ 3 (by omega) ?_ (by omega)
    rw [b0.1] at hg e0; rw [b1.1] at hg e1; rw [b2.1] at hg e2
    rw [hd, dec3 _ _ _ _ _ _ (by omega) b0.2 b1.2 b2.2 hg q1 q2 q3 e0 e1 e2]
  | 4, _, _ =>
    obtain ⟨q1, q2, e0, e1, e2, e3⟩ := (hit4_iff s i h).1 hh
    have hg := gs4 s i
    refine nxt_of s i (by omega) _ 4 (by omega) ?_ (by omega)
    rw [b0.1] at hg e0; rw [b1.1] at hg e1; rw [b2.1] at hg e2; rw [b3.1] at hg e3
    rw [hd, dec4 _ _ _ _ _ _ (by omega) b0.2 b1.2 b2.2 b3.2 hg q1 q2 e0 e1 e2 e3]

theorem ref_none (s : ByteArray) (i : Nat) (h : i < s.size) (hn : ∀ k, 1 ≤ k → k ≤ 4 → i + k ≤ s.size → ¬ hit s i k) : nxt s i = (-1, 0) := by
  have b0 := nb s i; have b1 := nb s (i + 1); have b2 := nb s (i + 2); have b3 := nb s (i + 3)
  have hd := decode_at s i
  have e1 := mt (hit1_iff s i (by omega)).2 (hn 1 (by omega) (by omega) (by omega))
  have g2 := gs2 s i; have g3 := gs3 s i; have g4 := gs4 s i
  have n2 : 1 < s.size - i → ¬ _ := fun hq => mt (hit2_iff s i (by omega)).2 (hn 2 (by omega) (by omega) (by omega))
  have n3 : 2 < s.size - i → ¬ _ := fun hq => mt (hit3_iff s i (by omega)).2 (hn 3 (by omega) (by omega) (by omega))
  have n4 : 3 < s.size - i → ¬ _ := fun hq => mt (hit4_iff s i (by omega)).2 (hn 4 (by omega) (by omega) (by omega))
  rw [b0.1] at e1 n2 n3 n4 g2 g3 g4
  rw [b1.1] at n2 n3 n4 g2 g3 g4
  rw [b2.1] at n3 n4 g3 g4
  rw [b3.1] at n4 g4
  have := decNone (s.size - i) _ _ _ _ _ _ _ b0.2 b1.2 b2.2 b3.2 g2 g3 g4 (by omega) n2 n3 n4
  unfold nxt
  rw [if_pos h, hd, this, if_pos ⟨rfl, rfl⟩]
end Go.Proofs.YtajaadagejhllaaGreatDoor
