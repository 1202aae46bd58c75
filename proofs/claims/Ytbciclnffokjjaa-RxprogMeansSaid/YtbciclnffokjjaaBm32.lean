/- A bundle of texts. -/
import Derived.Test.YtbciclnffokjjaaBm31
import Derived.Test.YtbciclnffokjjaaBm03
import Derived.Test.YtbciclnffokjjaaBm27
import Derived.Test.YtbciclnffokjjaaBm29
/- The reference's validity: wordRune. -/
namespace Go.Proofs.Ytbciclnffokjjaa
open Go.RowKit

set_option maxHeartbeats 4000000 in
theorem rWord_any (r : Int) (w : World) : Calls Try.prog 73 #[.int .i32 r] w fun e w' => e = .returned (.bool (wdB r)) ∧ w' = w := by
  have HE : Hid (wdB r = decide ((48 ≤ r ∧ r ≤ 57) ∨ (65 ≤ r ∧ r ≤ 90 ∨ 97 ≤ r ∧ r ≤ 122) ∨ r = 95)) := by
    unfold Hid wdB dgB ltB
    rw [Bool.eq_iff_iff]
    simp
    omega
  by_cases h95 : r = 95
  · subst h95
    go_enter Try.func73, Try.ntmps73
    go_wp2
    go_ret
    exact ⟨ret_bool (by rw [HE.out]; decide), rfl⟩
  have t95 : (r == 95) = false := by simpa using h95
  have H95 : Hid (¬ r = 95) := h95
  clear h95
  by_cases c0 : r < 48
  · clear t95
    have t95 : (r == 95) = false := by have := H95.out; simpa using this
    have g0 : ¬ 48 ≤ r := by omega
    have g1 : r ≤ 57 := by omega
    have g2 : ¬ 65 ≤ r := by omega
    have g3 : r ≤ 90 := by omega
    have g4 : ¬ 97 ≤ r := by omega
    have g5 : r ≤ 122 := by omega
    clear c0
    go_enter Try.func73, Try.ntmps73
    go_wp2
    go_ret
    exact ⟨ret_bool (by rw [HE.out]; have := H95.out; simp <;> omega), rfl⟩
  by_cases c1 : r ≤ 57
  · clear t95
    have t95 : (r == 95) = false := by have := H95.out; simpa using this
    have g0 : 48 ≤ r := by omega
    have g1 : r ≤ 57 := by omega
    have g2 : ¬ 65 ≤ r := by omega
    have g3 : r ≤ 90 := by omega
    have g4 : ¬ 97 ≤ r := by omega
    have g5 : r ≤ 122 := by omega
    clear c0 c1
    go_enter Try.func73, Try.ntmps73
    go_wp2
    go_ret
    exact ⟨ret_bool (by rw [HE.out]; have := H95.out; simp <;> omega), rfl⟩
  by_cases c2 : r < 65
  · clear t95
    have t95 : (r == 95) = false := by have := H95.out; simpa using this
    have g0 : 48 ≤ r := by omega
    have g1 : ¬ r ≤ 57 := by omega
    have g2 : ¬ 65 ≤ r := by omega
    have g3 : r ≤ 90 := by omega
    have g4 : ¬ 97 ≤ r := by omega
    have g5 : r ≤ 122 := by omega
    clear c0 c1 c2
    go_enter Try.func73, Try.ntmps73
    go_wp2
    go_ret
    exact ⟨ret_bool (by rw [HE.out]; have := H95.out; simp <;> omega), rfl⟩
  by_cases c3 : r ≤ 90
  · clear t95
    have t95 : (r == 95) = false := by have := H95.out; simpa using this
    have g0 : 48 ≤ r := by omega
    have g1 : ¬ r ≤ 57 := by omega
    have g2 : 65 ≤ r := by omega
    have g3 : r ≤ 90 := by omega
    have g4 : ¬ 97 ≤ r := by omega
    have g5 : r ≤ 122 := by omega
    clear c0 c1 c2 c3
    go_enter Try.func73, Try.ntmps73
    go_wp2
    go_ret
    exact ⟨ret_bool (by rw [HE.out]; have := H95.out; simp <;> omega), rfl⟩
  by_cases c4 : r < 97
  · clear t95
    have t95 : (r == 95) = false := by have := H95.out; simpa using this
    have g0 : 48 ≤ r := by omega
    have g1 : ¬ r ≤ 57 := by omega
    have g2 : 65 ≤ r := by omega
    have g3 : ¬ r ≤ 90 := by omega
    have g4 : ¬ 97 ≤ r := by omega
    have g5 : r ≤ 122 := by omega
    clear c0 c1 c2 c3 c4
    go_enter Try.func73, Try.ntmps73
    go_wp2
    go_ret
    exact ⟨ret_bool (by rw [HE.out]; have := H95.out; simp <;> omega), rfl⟩
  by_cases c5 : r ≤ 122
  · clear t95
    have t95 : (r == 95) = false := by have := H95.out; simpa using this
    have g0 : 48 ≤ r := by omega
    have g1 : ¬ r ≤ 57 := by omega
    have g2 : 65 ≤ r := by omega
    have g3 : ¬ r ≤ 90 := by omega
    have g4 : 97 ≤ r := by omega
    have g5 : r ≤ 122 := by omega
    clear c0 c1 c2 c3 c4 c5
    go_enter Try.func73, Try.ntmps73
    go_wp2
    go_ret
    exact ⟨ret_bool (by rw [HE.out]; have := H95.out; simp <;> omega), rfl⟩
  have g0 : 48 ≤ r := by omega
  have g1 : ¬ r ≤ 57 := by omega
  have g2 : 65 ≤ r := by omega
  have g3 : ¬ r ≤ 90 := by omega
  have g4 : 97 ≤ r := by omega
  have g5 : ¬ r ≤ 122 := by omega
  clear c0 c1 c2 c3 c4 c5
  go_enter Try.func73, Try.ntmps73
  go_wp2
  go_ret
  exact ⟨ret_bool (by rw [HE.out]; have := H95.out; simp <;> omega), rfl⟩
end Go.Proofs.Ytbciclnffokjjaa
/- Names: by runes and by bytes. -/
namespace Go.Proofs.Ytbciclnffokjjaa
open Go.RowKit

theorem dec_low (s : ByteArray) (i : Nat) (h : (s.get! i).toNat < 128) : Utf8.decode s i = ((s.get! i).toNat, 1) := by
  unfold Utf8.decode
  simp only [Nat.add_zero]
  rw [if_pos h]
theorem dec_high (s : ByteArray) (i : Nat) (h : ¬ (s.get! i).toNat < 128) : 128 ≤ (Utf8.decode s i).1 := by
  unfold Utf8.decode
  simp only [Nat.add_zero]
  rw [if_neg h]
  split
  · split
    · rename_i hc; exact hc
    · decide
  · split
    · split
      · rename_i hc
        rw [Bool.and_eq_true] at hc
        have := of_decide_eq_true hc.1
        dsimp only
        omega
      · decide
    · split
      · split
        · rename_i hc
          rw [Bool.and_eq_true] at hc
          have := of_decide_eq_true hc.1
          dsimp only
          omega
        · decide
      · decide
theorem wdB_high {r : Int} (h : 128 ≤ r) : wdB r = false := by
  unfold wdB dgB ltB
  simp
  omega
/-- The bytes from pos on, g of them at most, are letters, digits or '_'. -/
def bwF (s : ByteArray) : Nat → Nat → Bool
  | 0, _ => true
  | g + 1, pos => if pos < s.size then wdB ((s.get! pos).toNat : Int) && bwF s g (pos + 1) else true
theorem nmF_bw (s : ByteArray) : ∀ g pos, nmF s g pos = bwF s g pos
  | 0, _ => rfl
  | g + 1, pos => by
    unfold nmF bwF
    by_cases hp : pos < s.size
    · rw [if_pos hp, if_pos hp]
      by_cases h : (s.get! pos).toNat < 128
      · rw [dec_low s pos h]
        dsimp only
        rw [nmF_bw s g (pos + 1)]
      · have h1 := dec_high s pos h
        rw [wdB_high (by omega), wdB_high (by omega)]
        rfl
    · rw [if_neg hp, if_neg hp]
end Go.Proofs.Ytbciclnffokjjaa
/- Matching as mathematics: the places of the runes; what a tree takes leads from one of them to another. -/
namespace Go.Proofs.Ytbciclnffokjjaa
open Go.RowKit Go.Lib

theorem decM_rune (n b0 b1 b2 b3 : Nat) : isRune ((decodeN n b0 b1 b2 b3).1 : Int) = true := by
  rw [isRune_iff]
  unfold decodeN
  repeat' split
  all_goals (dsimp only; omega)
theorem rnM_rune (s : ByteArray) (i : Nat) : isRune (rnR s i) = true := by
  unfold rnR
  rw [decode_at]
  exact decM_rune _ _ _ _ _
theorem extM_drop (s : ByteArray) (i j : Nat) : (s.extract i j).data.toList = (s.data.toList.drop i).take (j - i) := by
  rw [ByteArray.data_extract, Array.toList_extract, List.extract_eq_take_drop]
theorem baM_ext {a b : ByteArray} (h : a.data.toList = b.data.toList) : a = b := ByteArray.ext (Array.toList_inj.1 h)
theorem appM_list (a b : ByteArray) : (a ++ b).data.toList = a.data.toList ++ b.data.toList := by
  rw [ByteArray.data_append, Array.toList_append]
/-- A rune that is well formed is what the decoder reads. -/
theorem rn_dec {s : ByteArray} {i : Nat} (hi : i < s.size) (hb : rnBad s i = false) : Utf8.decode s i = ((rnR s i).toNat, (Utf8.encode (rnR s i)).size) ∧ good s i := by
  have h := rnM_rune s i
  obtain ⟨q, hq⟩ := rn_bg hi hb
  have hx : s.extract i s.size = Utf8.encode (rnR s i) ++ ⟨q.toArray⟩ := baM_ext (by
    rw [extM_drop, appM_list, ← hq, List.take_of_length_le (by
      have e : (s.data.toList.drop i).length = s.size - i := by rw [List.length_drop, size_len]
      rw [hq, e]; omega)])
  have e1 : Utf8.decode s i = ((rnR s i).toNat, wd (rnR s i)) := by rw [← decode_extract, hx, enc_decode _ h]
  refine ⟨by rw [e1, enc_size _ h], ?_⟩
  have := enc_good _ h ⟨q.toArray⟩
  rw [← hx] at this
  unfold good at this ⊢
  rw [decode_extract] at this
  exact this
/-- The places of the runes of a text. -/
structure Rnp (s : ByteArray) (n : Nat) (P : Nat → Nat) (r : Nat → Int) : Prop where
  z : P 0 = 0
  e : P n = s.size
  at' : ∀ i, i < n → P i < s.size ∧ rnBad s (P i) = false ∧ rnR s (P i) = r i ∧ P (i + 1) = P i + (Utf8.encode (r i)).size ∧ P i < P (i + 1)
theorem rnp_from (s : ByteArray) : ∀ f i, i ≤ s.size → s.size ≤ i + f → gdF s (f + 1) i → vld s f i = true ∧ ∃ P : Nat → Nat, P 0 = i ∧ P (rns s f i).length = s.size ∧ ∀ k, k < (rns s f i).length → P k < s.size ∧ rnBad s (P k) = false ∧ rnR s (P k) = (rns s f i).getD k 0 ∧ P (k + 1) = P k + (Utf8.encode ((rns s f i).getD k 0)).size ∧ P k < P (k + 1)
  | 0, i, h1, h2, _ => ⟨rfl, fun _ => i, rfl, by show i = s.size; omega, fun k hk => by cases hk⟩
  | f + 1, i, h1, h2, hg => by
    by_cases hl : i < s.size
    · obtain ⟨g1, g2⟩ := hg hl
      obtain ⟨d1, d2⟩ := rn_dec hl g1
      have hw := decode_width s i
      have hz := dec_size s i hl
      rw [d1] at hw hz
      dsimp only at hw hz
      generalize hE : (Utf8.encode (rnR s i)).size = E at hw hz g2 d1 ⊢
      obtain ⟨v, P, p0, p1, p2⟩ := rnp_from s f (i + E) hz (by omega) g2
      have e : rns s (f + 1) i = rnR s i :: rns s f (i + E) := by
        have e0 : rns s (f + 1) i = ((Utf8.decode s i).1 : Int) :: rns s f (i + (Utf8.decode s i).2) := by show (if i < s.size then _ else _) = _; rw [if_pos hl]
        have h0 := ((isRune_iff _).1 (rnM_rune s i)).1
        have e1 : (((rnR s i).toNat : Nat) : Int) = rnR s i := Int.toNat_of_nonneg h0
        rw [e0, d1]
        show (((rnR s i).toNat : Nat) : Int) :: rns s f (i + E) = _
        rw [e1]
      refine ⟨(vld_step s f i hl).2 ⟨d2, by rw [d1]; exact v⟩, fun k => if k = 0 then i else P (k - 1), rfl, ?_, ?_⟩
      · rw [e]
        show (if (rns s f (i + E)).length + 1 = 0 then i else P ((rns s f (i + E)).length + 1 - 1)) = _
        rw [if_neg (Nat.succ_ne_zero _)]
        exact p1
      · rw [e]
        intro k hk
        cases k with
        | zero =>
          refine ⟨hl, g1, rfl, ?_, ?_⟩
          · show P 0 = i + (Utf8.encode (rnR s i)).size
            rw [p0, hE]
          · show i < P 0
            rw [p0]
            omega
        | succ k =>
          obtain ⟨q1, q2, q3, q4, q5⟩ := p2 k (by simpa using hk)
          exact ⟨q1, q2, q3, q4, q5⟩
    · have e : rns s (f + 1) i = [] := rns_end s _ _ hl
      exact ⟨vld_end s _ _ hl, fun _ => i, rfl, by rw [e]; show i = s.size; omega, fun k hk => by rw [e] at hk; cases hk⟩
theorem rnp_ex {s : ByteArray} (h : gdF s (s.size + 1) 0) : vld s s.size 0 = true ∧ ∃ P, Rnp s (rns s s.size 0).length P (fun k => (rns s s.size 0).getD k 0) := by
  obtain ⟨v, P, p0, p1, p2⟩ := rnp_from s s.size 0 (Nat.zero_le _) (by omega) h
  exact ⟨v, P, p0, p1, p2⟩
namespace Rnp
variable {s : ByteArray} {n : Nat} {P : Nat → Nat} {r : Nat → Int}
theorem add (h : Rnp s n P r) : ∀ d i, i + d ≤ n → P i + d ≤ P (i + d)
  | 0, i, _ => Nat.le_refl _
  | d + 1, i, hd => by
    have := add h d i (by omega)
    have := (h.at' (i + d) (by omega)).2.2.2.2
    show P i + (d + 1) ≤ P (i + d + 1)
    omega
theorem lt (h : Rnp s n P r) {i j : Nat} (h1 : i < j) (h2 : j ≤ n) : P i < P j := by
  have := h.add (j - i) i (by omega)
  rw [show i + (j - i) = j by omega] at this
  omega
theorem inj (h : Rnp s n P r) {i j : Nat} (h1 : i ≤ n) (h2 : j ≤ n) : P i = P j ↔ j = i := by
  constructor
  · intro e
    by_cases h3 : i < j
    · have := h.lt h3 h2; omega
    · by_cases h4 : j < i
      · have := h.lt h4 h1; omega
      · omega
  · intro e; rw [e]
theorem size (h : Rnp s n P r) : n ≤ s.size := by
  have := h.add n 0 (by omega)
  rw [Nat.zero_add, h.e] at this
  omega
theorem ends (h : Rnp s n P r) {i : Nat} (hi : i ≤ n) : P i < s.size ↔ i < n := by
  constructor
  · intro e
    by_cases h3 : i = n
    · rw [h3, h.e] at e; omega
    · omega
  · intro e; exact (h.at' i e).1
/-- A step over one rune. -/
theorem tk (h : Rnp s n P r) (rs : List Rg) {i b : Nat} (hi : i ≤ n) : TkR s rs (P i) b ↔ i < n ∧ b = P (i + 1) ∧ inR (r i) rs := by
  unfold TkR
  rw [h.ends hi]
  constructor
  · rintro ⟨h1, h2, h3, h4⟩
    obtain ⟨_, _, q3, q4, _⟩ := h.at' i h1
    rw [q3] at h3 h4
    exact ⟨h1, by rw [h4, q4], h3⟩
  · rintro ⟨h1, h2, h3⟩
    obtain ⟨_, q2, q3, q4, _⟩ := h.at' i h1
    exact ⟨h1, q2, by rw [q3]; exact h3, by rw [h2, q3, q4]⟩
theorem catB (h : Rnp s n P r) {M : Nat → Nat → Nat → Prop} {kn : Nat} (hM : ∀ q i b, q < kn → i ≤ n → M q (P i) b → ∃ j, j ≤ n ∧ b = P j) : ∀ q, q ≤ kn → ∀ i b, i ≤ n → catM M q (P i) b → ∃ j, j ≤ n ∧ b = P j
  | 0, _, i, b, hi, e => ⟨i, hi, e.symm⟩
  | q + 1, hq, i, b, hi, ⟨k, h1, h2⟩ => by
    obtain ⟨j, hj, rfl⟩ := catB h hM q (by omega) i k hi h1
    exact hM q j b (by omega) hj h2
theorem itB (h : Rnp s n P r) {K : Nat → Nat → Prop} (hM : ∀ i b, i ≤ n → K (P i) b → ∃ j, j ≤ n ∧ b = P j) : ∀ q i b, i ≤ n → itM K q (P i) b → ∃ j, j ≤ n ∧ b = P j
  | 0, i, b, hi, e => ⟨i, hi, e.symm⟩
  | q + 1, i, b, hi, ⟨k, h1, h2⟩ => by
    obtain ⟨j, hj, rfl⟩ := hM i k hi h1
    exact itB h hM q j b hj h2
/-- What a tree takes from a rune's place leads to a rune's place. -/
theorem mn (h : Rnp s n P r) : ∀ m t i b, WF m t → i ≤ n → Mn s m t (P i) b → ∃ j, j ≤ n ∧ b = P j
  | 0, _, _, _, hw, _, _ => hw.elim
  | m + 1, t, i, b, hw, hi, hm => by
    obtain ⟨⟨hnd, _⟩, _, hk⟩ := hw
    unfold Mn at hm
    by_cases k2 : (t []).kind = 2
    · rw [if_pos k2, h.tk _ hi] at hm
      exact ⟨i + 1, by omega, hm.2.1⟩
    rw [if_neg k2] at hm
    by_cases k3 : (t []).kind = 3
    · rw [if_pos k3, h.tk _ hi] at hm
      exact ⟨i + 1, by omega, hm.2.1⟩
    rw [if_neg k3] at hm
    by_cases k4 : (t []).kind = 4
    · rw [if_pos k4] at hm
      exact h.catB (kn := (t []).kn) (fun q i b hq hi hh => mn h m _ i b (hk q hq) hi hh) _ (Nat.le_refl _) i b hi hm
    rw [if_neg k4] at hm
    by_cases k5 : (t []).kind = 5
    · rw [if_pos k5] at hm
      obtain ⟨q, hq, hh⟩ := hm
      exact mn h m _ i b (hk q hq) hi hh
    rw [if_neg k5] at hm
    by_cases k6 : (t []).kind = 6
    · rw [if_pos k6] at hm
      obtain ⟨q, _, _, hh⟩ := hm
      have h6 := (ndB_rep hnd k6).1
      exact h.itB (fun i b hi hh => mn h m _ i b (hk 0 (by omega)) hi hh) q i b hi hh
    rw [if_neg k6] at hm
    by_cases k7 : (t []).kind = 7
    · rw [if_pos k7] at hm
      have h7 := ndB_grp hnd k7
      exact mn h m _ i b (hk 0 (by omega)) hi hm
    rw [if_neg k7] at hm
    split at hm
    · exact ⟨i, hi, hm.2⟩
    split at hm
    · exact ⟨i, hi, hm.2⟩
    · exact ⟨i, hi, hm.symm⟩
/-- The byte at a rune's place. -/
theorem byAt (h : Rnp s n P r) {i : Nat} (hi : i < n) : (byF s (P i : Int) == 10) = (r i == 10) ∧ wdB (byF s (P i : Int)) = wdB (r i) := by
  obtain ⟨h1, h2, h3, h4, h5⟩ := h.at' i hi
  obtain ⟨d1, d2⟩ := rn_dec h1 h2
  have hr0 := ((isRune_iff _).1 (rnM_rune s (P i))).1
  rw [byF_nat s _ h1, ← get!_lt s _ h1]
  by_cases hl : (s.get! (P i)).toNat < 128
  · rw [dec_low s _ hl] at d1
    have : r i = ((s.get! (P i)).toNat : Int) := by
      have e := congrArg Prod.fst d1
      dsimp only at e
      rw [← h3]
      omega
    rw [this]
    exact ⟨rfl, rfl⟩
  · have hh := dec_high s _ hl
    rw [d1] at hh
    dsimp only at hh
    have hr : 128 ≤ r i := by rw [← h3]; omega
    refine ⟨?_, ?_⟩
    · rw [show (((s.get! (P i)).toNat : Int) == 10) = false by simp; omega, show (r i == 10) = false by simp; omega]
    · rw [wdB_high (by omega), wdB_high hr]
/-- The byte ahead of a rune's place. -/
theorem byAhead (h : Rnp s n P r) {i : Nat} (hi : i < n) : (byF s ((P (i + 1) : Int) - 1) == 10) = (r i == 10) ∧ wdB (byF s ((P (i + 1) : Int) - 1)) = wdB (r i) := by
  obtain ⟨h1, h2, h3, h4, h5⟩ := h.at' i hi
  obtain ⟨d1, d2⟩ := rn_dec h1 h2
  have hr0 := ((isRune_iff _).1 (rnM_rune s (P i))).1
  rw [h3] at d1 hr0
  by_cases hw : (Utf8.encode (r i)).size = 1
  · have e : ((P (i + 1) : Int) - 1) = (P i : Int) := by omega
    rw [e]
    exact h.byAt hi
  · have hw1 := decode_width s (P i)
    rw [d1] at hw1
    dsimp only at hw1
    have hz := dec_size s (P i) h1
    rw [d1] at hz
    dsimp only at hz
    have hq : P (i + 1) - 1 < s.size := by omega
    have e : ((P (i + 1) : Int) - 1) = ((P (i + 1) - 1 : Nat) : Int) := by omega
    have hb := mid_bad s (P i) (P (i + 1) - 1) d2 (by omega) (by rw [d1]; dsimp only; omega)
    have hl : ¬ (s.get! (P (i + 1) - 1)).toNat < 128 := fun hl => hb (by
      unfold good
      rw [dec_low s _ hl]
      dsimp only
      omega)
    have hr : 128 ≤ r i := by
      by_cases hl0 : (s.get! (P i)).toNat < 128
      · rw [dec_low s _ hl0] at d1
        have := congrArg Prod.snd d1
        dsimp only at this
        omega
      · have hh := dec_high s _ hl0
        rw [d1] at hh
        dsimp only at hh
        omega
    rw [e, byF_nat s _ hq, ← get!_lt s _ hq]
    refine ⟨?_, ?_⟩
    · rw [show (((s.get! (P (i + 1) - 1)).toNat : Int) == 10) = false by simp; omega, show (r i == 10) = false by simp; omega]
    · rw [wdB_high (by omega), wdB_high hr]
end Rnp
end Go.Proofs.Ytbciclnffokjjaa
