/- A bundle of texts. -/
import Derived.Test.YtjmninjaoemhjaaDoorBv14
import Derived.Test.YtjmninjaoemhjaaDoorBv03
import Derived.Test.YtjmninjaoemhjaaDoorBv05
import Derived.Test.YtjmninjaoemhjaaDoorBv10
/- The walks of the reference's Next and Valid. -/
namespace Go.Proofs.YtjmninjaoemhjaaDoor.R
open Go.RowKit Go.Lib

set_option maxHeartbeats 400000 in
theorem rnext_out (s : ByteArray) (a : Int) (w : World) (hs : s.size ≤ maxLen) (h : a < 0 ∨ (s.size : Int) ≤ a) :
    Calls Tryd.prog 70 #[.string s, .int .i64 a] w fun e w' => e = .returned (.tuple #[.int .i32 (-1), .int .i64 0]) ∧ Below w.heap.size w w' := by
  unfold maxLen at hs
  rcases h with h | h
  · go_enter Tryd.func70, Tryd.ntmps70
    go_wp2
    go_ret2
    exact ⟨rfl, Below.refl _ _⟩
  · have h0 : ¬ a < 0 := by omega
    go_enter Tryd.func70, Tryd.ntmps70
    go_wp2
    go_ret2
    exact ⟨rfl, Below.refl _ _⟩

theorem hit_bd (s : ByteArray) (i k : Nat) (h1 : 1 ≤ k) (h : hit s i k) : 0 ≤ gs s i k ∧ gs s i k ≤ 1114111 := by
  have hl := h.1
  rw [strOfNums_size] at hl
  by_cases hr : isRune (gs s i k) = true
  · have hq := (isRune_iff _).1 hr
    exact ⟨hq.1, hq.2.1⟩
  · unfold formL at hl
    rw [if_neg hr] at hl
    simp at hl
    omega

set_option maxHeartbeats 1000000 in
theorem rnext_in (s : ByteArray) (i : Nat) (w : World) (hs : s.size ≤ maxLen) (h : i < s.size) :
    Calls Tryd.prog 70 #[.string s, .int .i64 i] w fun e w' => e = .returned (.tuple #[.int .i32 (nxt s i).1, .int .i64 (nxt s i).2]) ∧ Below w.heap.size w w' := by
  have HS : Hid (s.size ≤ maxLen) := hs
  unfold maxLen at hs
  have h0 : ¬ (i : Int) < 0 := by omega
  have h1 : ¬ (s.size : Int) ≤ i := by omega
  have hlt : i < s.size := h
  clear h
  go_enter Tryd.func70, Tryd.ntmps70
  go_wp2
  go_loopw [6] (fun t w' => ∃ k : Nat, 1 ≤ k ∧ k ≤ 5 ∧ t = .int .i64 k ∧ Below w.heap.size w w' ∧ ∀ v, 1 ≤ v → v < k → i + v ≤ s.size → ¬ hit s i v) (fun t _ => 5 - (RowKit.intOf t).toNat)
  case atStart => exact ⟨1, by omega, by omega, rfl, Below.refl _ _, fun v a b => by omega⟩
  case round =>
    obtain ⟨k, hk1, hk5, rfl, hbw, hno⟩ := hrel
    have HN : Hid (∀ v, 1 ≤ v → v < k → i + v ≤ s.size → ¬ hit s i v) := hno
    clear hno
    by_cases hin : k ≤ 4 ∧ i + k ≤ s.size
    · obtain ⟨hk4, hik⟩ := hin
      have cG := guess_any s i k wr HS.out hk1 hk4 hik
      have cF := form_any (gs s i k) wr
      have hh : hit s i k ↔ (strOfNums (formL (gs s i k))).size = k ∧ s.extract i (i + k) = strOfNums (formL (gs s i k)) := Iff.rfl
      have hyes := ref_hit s i k hk1 hk4 hik
      have hbd := hit_bd s i k hk1
      generalize strOfNums (formL (gs s i k)) = f at *
      generalize gs s i k = g at *
      have HH : Hid (hit s i k ↔ f.size = k ∧ s.extract i (i + k) = f) := hh
      have HY : Hid (hit s i k → nxt s i = (g, (k : Int))) := hyes
      have HB : Hid (hit s i k → 0 ≤ g ∧ g ≤ 1114111) := hbd
      clear hh hyes hbd
      have t1 : (k : Int) ≤ 4 := by omega
      have t2 : (k : Int) ≤ (s.size : Int) - i := by omega
      by_cases hf : f.size = k
      · by_cases he : s.extract i (i + k) = f
        · have hfb : ((f.size : Int) == (k : Int)) = true := by rw [beq_iff_eq]; omega
          have HX : Hid (nxt s i = (g, (k : Int))) := HY.out (HH.out.2 ⟨hf, he⟩)
          obtain ⟨g0, g1⟩ := HB.out (HH.out.2 ⟨hf, he⟩)
          have heb : ((s.extract i (i + k)).toList == f.toList) = true := by rw [he]; simp
          clear he hf
          go_wp2_with (first | (go_at_call 98; go_fit cG; rintro e w' ⟨rfl, rfl⟩) | (go_at_call 99; go_fit cF; rintro e w' ⟨rfl, hb2⟩))
          go_ret2
          exact ⟨by rw [HX.out]; rfl, hbw.trans (hb2.mono hbw.size)⟩
        · have hfb : ((f.size : Int) == (k : Int)) = true := by rw [beq_iff_eq]; omega
          have HE : Hid (¬ s.extract i (i + k) = f) := he
          have heb : ((s.extract i (i + k)).toList == f.toList) = false := by
            rw [beq_eq_false_iff_ne]
            intro hq
            apply HE.out
            rw [Lib.toList_data, Lib.toList_data] at hq
            exact ByteArray.ext (Array.toList_inj.1 hq)
          clear he hf
          go_wp2_with (first | (go_at_call 98; go_fit cG; rintro e w' ⟨rfl, rfl⟩) | (go_at_call 99; go_fit cF; rintro e w' ⟨rfl, hb2⟩))
          exact ⟨⟨k + 1, by omega, by omega, by go_num, hbw.trans (hb2.mono hbw.size), fun v a b c => by
            by_cases hv : v = k
            · subst hv; intro hq; exact HE.out (HH.out.1 hq).2
            · exact HN.out v a (by omega) c⟩, by simp [RowKit.intOf]; omega⟩
      · have hfb : ((f.size : Int) == (k : Int)) = false := by rw [beq_eq_false_iff_ne]; omega
        have HF : Hid (¬ f.size = k) := hf
        clear hf
        go_wp2_with (first | (go_at_call 98; go_fit cG; rintro e w' ⟨rfl, rfl⟩) | (go_at_call 99; go_fit cF; rintro e w' ⟨rfl, hb2⟩))
        exact ⟨⟨k + 1, by omega, by omega, by go_num, hbw.trans (hb2.mono hbw.size), fun v a b c => by
          by_cases hv : v = k
          · subst hv; intro hq; exact HF.out (HH.out.1 hq).1
          · exact HN.out v a (by omega) c⟩, by simp [RowKit.intOf]; omega⟩
    · have HX : Hid (nxt s i = (-1, 0)) := ref_none s i hlt (fun v a b c => HN.out v a (by omega) c)
      by_cases hk4 : k ≤ 4
      · have t1 : (k : Int) ≤ 4 := by omega
        have t2 : ¬ (k : Int) ≤ (s.size : Int) - i := by omega
        clear hin
        go_wp2
        go_ret2
        exact ⟨by rw [HX.out]; rfl, hbw⟩
      · have t1 : ¬ (k : Int) ≤ 4 := by omega
        clear hin
        go_wp2
        go_ret2
        exact ⟨by rw [HX.out]; rfl, hbw⟩

theorem rnext_any (s : ByteArray) (a : Int) (w : World) (hs : s.size ≤ maxLen) :
    Calls Tryd.prog 70 #[.string s, .int .i64 a] w fun e w' => e = .returned (.tuple #[.int .i32 (nxtZ s a).1, .int .i64 (nxtZ s a).2]) ∧ Below w.heap.size w w' := by
  by_cases h0 : a < 0
  · have e1 : nxtZ s a = (-1, 0) := by unfold nxtZ; rw [if_neg (by omega)]
    rw [e1]
    exact rnext_out s a w hs (Or.inl h0)
  · obtain ⟨i, rfl⟩ := Int.eq_ofNat_of_zero_le (show 0 ≤ a by omega)
    have e1 : nxtZ s (i : Int) = nxt s i := by unfold nxtZ; rw [if_pos (by omega)]; simp
    rw [e1]
    by_cases h1 : i < s.size
    · exact rnext_in s i w hs h1
    · rw [nxt_out s i (by omega)]
      exact rnext_out s i w hs (Or.inr (by omega))

theorem decode_le_size (s : ByteArray) (i : Nat) (h : i < s.size) : i + (Utf8.decode s i).2 ≤ s.size := by
  rw [decode_at]
  unfold decodeN
  repeat' split
  all_goals simp
  all_goals omega

end Go.Proofs.YtjmninjaoemhjaaDoor.R
/- The reference: a label's name; a text's validity. -/
namespace Go.Proofs.YtjmninjaoemhjaaDoor.R
open Go.RowKit Go.Lib

set_option maxHeartbeats 1000000 in
theorem letter_any (c : Int) (w : World) : Calls Tryd.prog 68 #[.int .u8 c] w fun e w' => e = .returned (.bool (fiB c)) ∧ w' = w := by
  obtain ⟨b, hb⟩ : ∃ b, fiB c = b := ⟨_, rfl⟩
  have HB : Hid (fiB c = b) := hb
  rw [hb]
  clear hb
  have h6 : (c == 95) = decide (c = 95) := rfl
  by_cases h5 : c = 95
  · subst h5
    simp only [fiB] at HB
    go_enter Tryd.func68, Tryd.ntmps68
    go_wp2
    go_ret
    refine ⟨?_, rfl⟩
    rw [← HB.out]
    rfl
  · by_cases h1 : 97 ≤ c <;> by_cases h2 : c ≤ 122 <;> by_cases h3 : 65 ≤ c <;> by_cases h4 : c ≤ 90 <;> first
      | omega
      | (simp only [fiB, h1, h2, h3, h4, h5, decide_true, decide_false, Bool.and_true, Bool.and_false, Bool.or_true, Bool.or_false] at HB h6
         have g1 : (c ≥ 97) = (97 ≤ c) := rfl
         have g3 : (c ≥ 65) = (65 ≤ c) := rfl
         go_enter Tryd.func68, Tryd.ntmps68
         go_wp2
         go_ret
         refine ⟨?_, rfl⟩
         rw [← HB.out]
         first | rfl | simp [h6] | simp [h5])
set_option maxHeartbeats 1000000 in
theorem digit_any (c : Int) (w : World) : Calls Tryd.prog 69 #[.int .u8 c] w fun e w' => e = .returned (.bool (dgB c)) ∧ w' = w := by
  obtain ⟨b, hb⟩ : ∃ b, dgB c = b := ⟨_, rfl⟩
  have HB : Hid (dgB c = b) := hb
  rw [hb]
  clear hb
  by_cases h1 : 48 ≤ c <;> by_cases h2 : c ≤ 57 <;> first
    | omega
    | (simp only [dgB, h1, h2, decide_true, decide_false, Bool.and_true, Bool.and_false] at HB
       go_enter Tryd.func69, Tryd.ntmps69
       go_wp2
       go_ret
       refine ⟨?_, rfl⟩
       rw [← HB.out]
       first | rfl | simp)
set_option maxHeartbeats 4000000 in
set_option maxRecDepth 100000 in
theorem rlabel_any (s : ByteArray) (w : World) (hs : s.size ≤ 140737488355328) : Calls Tryd.prog 47 #[.string s] w fun e w' => e = .returned (.bool (lbN s)) ∧ w' = w := by
  obtain ⟨b, hb⟩ : ∃ b, lbN s = b := ⟨_, rfl⟩
  have HB : Hid (lbN s = b) := hb
  rw [hb]
  clear hb
  have k1 : Hid (∀ c W, Calls Tryd.prog 68 #[.int .u8 c] W fun e w' => e = .returned (.bool (fiB c)) ∧ w' = W) := fun c W => letter_any c W
  have k2 : Hid (∀ c W, Calls Tryd.prog 69 #[.int .u8 c] W fun e w' => e = .returned (.bool (dgB c)) ∧ w' = W) := fun c W => digit_any c W
  have HNE : Hid (s.toList = [] ↔ s.size = 0) := nil_iff s
  have hsi : (s.size : Int) ≤ 140737488355328 := by omega
  go_enter Tryd.func47, Tryd.ntmps47
  go_wp2_with fail
  go_loopw [3] (fun t w' => ∃ i f : Nat, t = .int .i64 (i : Nat) ∧ i + f = s.size ∧ Hid (lbF s s.size 0 = lbF s f i ∧ (0 < i → fiB (YtjmninjaoemhjaaDoor.bt s 0) = true)) ∧ w' = w) (fun t _ => s.size - (RowKit.intOf t).toNat)
  case atStart => exact ⟨0, s.size, rfl, by omega, ⟨rfl, fun h => absurd h (by omega)⟩, rfl⟩
  case round =>
    obtain ⟨i, f, rfl, hif, hv, rfl⟩ := hrel
    by_cases hlt : i < s.size
    · have hii : (i : Int) < (s.size : Int) := by omega
      have i0 : (0 : Int) ≤ (i : Int) := by omega
      obtain ⟨g, rfl⟩ : ∃ g, f = g + 1 := ⟨f - 1, by omega⟩
      have K1 := k1.out (YtjmninjaoemhjaaDoor.bt s i) wr
      have K2 := k2.out (YtjmninjaoemhjaaDoor.bt s i) wr
      have HV : Hid (lbF s s.size 0 = (laB (YtjmninjaoemhjaaDoor.bt s i) && lbF s g (i + 1)) ∧ (0 < i → fiB (YtjmninjaoemhjaaDoor.bt s 0) = true)) := hv
      have HL : Hid (laB (YtjmninjaoemhjaaDoor.bt s i) = (fiB (YtjmninjaoemhjaaDoor.bt s i) || dgB (YtjmninjaoemhjaaDoor.bt s i))) := (show _ = _ from rfl)
      have HZ : Hid (i = 0 → fiB (YtjmninjaoemhjaaDoor.bt s 0) = fiB (YtjmninjaoemhjaaDoor.bt s i)) := (show _ → _ from fun h => by rw [h])
      clear hv
      generalize fiB (YtjmninjaoemhjaaDoor.bt s i) = F at *
      generalize dgB (YtjmninjaoemhjaaDoor.bt s i) = D at *
      have e0 : YtjmninjaoemhjaaDoor.bt s i = ((s[i]'hlt).toNat : Int) := by unfold YtjmninjaoemhjaaDoor.bt; rw [get!_in s i hlt]
      rw [e0] at K1 K2
      clear e0
      cases F
      · by_cases h0 : i = 0
        · have HE : Hid (b = false) := by
            have h := HB.out
            unfold lbN at h
            rw [HZ.out h0] at h
            exact (h.symm).trans (by simp)
          subst h0
          go_wp2_with fail
          go_fit K1
          rintro e w1 ⟨rfl, rfl⟩
          go_wp2
          go_ret
          exact ⟨by rw [HE.out]; rfl, rfl⟩
        · have hi0 : ¬ (i : Int) = 0 := by omega
          have HI : Hid (0 < i) := (show 0 < i by omega)
          clear h0
          cases D
          · have HE : Hid (b = false) := by
              have h := HB.out
              unfold lbN at h
              rw [HV.out.1, HL.out] at h
              exact (h.symm).trans (by simp)
            go_wp2_with fail
            go_fit K1
            rintro e w1 ⟨rfl, rfl⟩
            go_wp2_with fail
            go_fit K2
            rintro e w1 ⟨rfl, rfl⟩
            go_wp2
            go_ret
            exact ⟨by rw [HE.out]; rfl, rfl⟩
          · have HE : Hid (lbF s s.size 0 = lbF s g (i + 1) ∧ (0 < i + 1 → fiB (YtjmninjaoemhjaaDoor.bt s 0) = true)) := (show _ ∧ _ from ⟨by rw [HV.out.1, HL.out]; simp, fun _ => HV.out.2 HI.out⟩)
            go_wp2_with fail
            go_fit K1
            rintro e w1 ⟨rfl, rfl⟩
            go_wp2_with fail
            go_fit K2
            rintro e w1 ⟨rfl, rfl⟩
            go_wp2
            exact ⟨⟨i + 1, g, by go_num, by omega, HE, trivial⟩, by simp [RowKit.intOf]; omega⟩
      · have HE : Hid (lbF s s.size 0 = lbF s g (i + 1) ∧ (0 < i + 1 → fiB (YtjmninjaoemhjaaDoor.bt s 0) = true)) := (show _ ∧ _ from ⟨by rw [HV.out.1, HL.out]; simp, fun _ => by
          by_cases h0 : i = 0
          · exact HZ.out h0
          · exact HV.out.2 (by omega)⟩)
        go_wp2_with fail
        go_fit K1
        rintro e w1 ⟨rfl, rfl⟩
        go_wp2
        exact ⟨⟨i + 1, g, by go_num, by omega, HE, trivial⟩, by simp [RowKit.intOf]; omega⟩
    · have hii : ¬ (i : Int) < (s.size : Int) := by omega
      obtain rfl : f = 0 := by omega
      have HE : Hid (b = (decide (0 < s.size) && fiB (YtjmninjaoemhjaaDoor.bt s 0))) := by
        have := HB.out
        unfold lbN at this
        rw [hv.out.1] at this
        exact this.symm
      by_cases h0 : s.size = 0
      · have hne : s.toList = [] := HNE.out.2 h0
        have HE2 : Hid (b = false) := HE.out.trans (by simp [h0])
        clear h0 hv
        go_wp2
        go_ret
        exact ⟨by rw [HE2.out]; simp, rfl⟩
      · have hne : ¬ s.toList = [] := fun h => h0 (HNE.out.1 h)
        have HE2 : Hid (b = true) := HE.out.trans (by rw [hv.out.2 (by omega)]; simp; omega)
        clear h0 hv
        go_wp2
        go_ret
        exact ⟨by rw [HE2.out]; simp [hne], rfl⟩
set_option maxHeartbeats 4000000 in
set_option maxRecDepth 100000 in
theorem rvalidT_any (s : ByteArray) (w : World) (hs : s.size ≤ maxLen) : Calls Tryd.prog 49 #[.string s] w fun e w' => e = .returned (.bool (vld s s.size 0)) ∧ Below w.heap.size w w' := by
  have k1 : Hid (∀ i, i < s.size → ∀ W, Calls Tryd.prog 70 #[.string s, .int .i64 (i : Int)] W fun e w' => e = .returned (.tuple #[.int .i32 (nxt s i).1, .int .i64 (nxt s i).2]) ∧ Below W.heap.size W w') := (show ∀ i, _ → _ from fun i h W => rnext_in s i W hs h)
  have hsi : (s.size : Int) ≤ 9223372036854775807 := by unfold maxLen at hs; omega
  clear hs
  obtain ⟨v, hv⟩ : ∃ v, vld s s.size 0 = v := ⟨_, rfl⟩
  have HB : Hid (vld s s.size 0 = v) := hv
  rw [hv]
  clear hv
  go_enter Tryd.func49, Tryd.ntmps49
  go_wp2_with fail
  go_loopw [3] (fun t w' => ∃ i f : Nat, t = .int .i64 (i : Nat) ∧ i ≤ s.size ∧ Hid (vld s f i = v ∧ s.size ≤ i + f ∧ Below w.heap.size w w')) (fun t _ => s.size - (RowKit.intOf t).toNat)
  case atStart => exact ⟨0, s.size, rfl, by omega, HB.out, by omega, Below.refl _ _⟩
  case round =>
    obtain ⟨i, f, rfl, hi, HV⟩ := hrel
    by_cases hlt : i < s.size
    · have hii : (i : Int) < (s.size : Int) := by omega
      have K := k1.out i hlt wr
      have hf : 0 < f := by have := HV.out.2.1; omega
      have HG : Hid ((nxt s i).2 ≠ 0 → (nxt s i).2 = ((Utf8.decode s i).2 : Nat) ∧ vld s f i = vld s (f - 1) (i + (Utf8.decode s i).2)) := (show _ → _ from fun h => ⟨(nxt_width s i h).1, vld_good' s f i hlt hf h⟩)
      have HZ : Hid ((nxt s i).2 = 0 → vld s f i = false) := (show _ → _ from fun h => vld_bad' s f i hlt hf h)
      have hw := decode_le_size s i hlt
      have hw2 := (decode_width s i).1
      obtain ⟨R, hR⟩ : ∃ R, (nxt s i).1 = R := ⟨_, rfl⟩
      obtain ⟨N, hN⟩ : ∃ N, (nxt s i).2 = N := ⟨_, rfl⟩
      rw [hR, hN] at K
      rw [hN] at HG HZ
      clear hR hN
      generalize (Utf8.decode s i).2 = k at *
      by_cases hz : N = 0
      · subst hz
        have HE : Hid (v = false) := (show _ = _ by rw [← HV.out.1]; exact HZ.out rfl)
        go_wp2_with fail
        go_fit K
        rintro e w1 ⟨rfl, b1⟩
        go_wp2
        go_ret
        exact ⟨by rw [HE.out]; rfl, HV.out.2.2.trans (b1.mono HV.out.2.2.size)⟩
      · obtain ⟨rfl, h2⟩ := HG.out hz
        have HE : Hid (vld s (f - 1) (i + k) = v) := (show _ = _ by rw [← HV.out.1, h2])
        have hkz : ¬ (k : Int) = 0 := hz
        have hkw : IntKind.i64.wrap ((i : Int) + k) = (i : Int) + k := by rw [IntKind.wrap_i64]; omega
        clear h2 HG HZ
        go_wp2_with fail
        go_fit K
        rintro e w1 ⟨rfl, b1⟩
        have HB1 : Hid (Below w.heap.size w w1) := HV.out.2.2.trans (b1.mono HV.out.2.2.size)
        clear b1 K
        go_wp2
        exact ⟨⟨i + k, f - 1, by go_num, by omega, HE.out, by have := HV.out.2.1; omega, HB1.out⟩, by simp [RowKit.intOf]; omega⟩
    · have hii : ¬ (i : Int) < (s.size : Int) := by omega
      have HE : Hid (v = true) := (show _ = _ by rw [← HV.out.1]; exact vld_end s f i hlt)
      go_wp2
      go_ret
      exact ⟨by rw [HE.out]; rfl, HV.out.2.2⟩
end Go.Proofs.YtjmninjaoemhjaaDoor.R
/- Labels: what is so of a label set, as mathematics. -/
namespace Go.Proofs.YtjmninjaoemhjaaDoor
open Go.RowKit Go.Lib

theorem teq (a b : ByteArray) : (a.toList == b.toList) = true ↔ a = b := by
  rw [beq_iff_eq, Lib.toList_data, Lib.toList_data]
  constructor
  · intro h
    rw [ByteArray.ext_iff]
    exact Array.toList_inj.1 h
  · rintro rfl
    rfl
theorem tne (a b : ByteArray) : (a.toList == b.toList) = false ↔ a ≠ b := by
  rw [← Bool.not_eq_true, Ne, teq]
theorem tempty (a : ByteArray) : a.toList.isEmpty = true ↔ a = ⟨#[]⟩ := by
  rw [List.isEmpty_iff, Lib.toList_data]
  constructor
  · intro h
    rw [ByteArray.ext_iff]
    exact Array.toList_inj.1 h
  · rintro rfl
    rfl
def gvL (nm : ByteArray) : List Lb → ByteArray
  | [] => ⟨#[]⟩
  | x :: l => if x.1.toList == nm.toList then x.2 else gvL nm l
theorem gvF_range (f : Nat → Lb) (nm : ByteArray) : ∀ k i, gvF f nm k i = gvL nm ((List.range' i k).map f)
  | 0, _ => rfl
  | k + 1, i => by
    unfold gvF
    rw [List.range'_succ, List.map_cons]
    unfold gvL
    rw [gvF_range f nm k (i + 1)]
theorem gvF_gL (ks : List Lb) (nm : ByteArray) : gvF (K.gL ks) nm ks.length 0 = gvL nm ks := by
  rw [gvF_range, ← List.range_eq_range']
  exact congrArg (gvL nm) (K.ll_gL ks)
/-- A label set. -/
def Ls (ks : List Lb) : Prop := (∀ x ∈ ks, lbN x.1 = true ∧ x.2 ≠ ⟨#[]⟩ ∧ vld x.2 x.2.size 0 = true) ∧ ks.Pairwise fun x y => Op.bytesLess x.1.toList y.1.toList = true
theorem bl_ne {a b : ByteArray} (h : Op.bytesLess a.toList b.toList = true) : a ≠ b := by
  rintro rfl
  rcases od_cases a a with ⟨_, _, h3⟩ | ⟨_, h2, _⟩ | ⟨_, h2, _⟩
  · simp at h3
  · rw [h2] at h; cases h
  · rw [h2] at h; cases h
theorem Ls.filter {ks : List Lb} (h : Ls ks) (p : Lb → Bool) : Ls (ks.filter p) := ⟨fun x hx => h.1 x (List.mem_filter.1 hx).1, h.2.filter p⟩
theorem Ls.tail {x : Lb} {ks : List Lb} (h : Ls (x :: ks)) : Ls ks := ⟨fun y hy => h.1 y (List.mem_cons_of_mem _ hy), (List.pairwise_cons.1 h.2).2⟩
theorem gv_none {nm : ByteArray} : ∀ {ks : List Lb}, (∀ x ∈ ks, x.1 ≠ nm) → gvL nm ks = ⟨#[]⟩
  | [], _ => rfl
  | x :: ks, h => by
    unfold gvL
    rw [if_neg (by rw [teq]; exact h x (by simp))]
    exact gv_none fun y hy => h y (List.mem_cons_of_mem _ hy)
theorem Ls.inj {ks : List Lb} (h : Ls ks) {x y : Lb} (hx : x ∈ ks) (hy : y ∈ ks) (e : x.1 = y.1) : x = y := by
  induction ks with
  | nil => simp at hx
  | cons z ks ih =>
    have hp := List.pairwise_cons.1 h.2
    rcases List.mem_cons.1 hx with rfl | hx1
    · rcases List.mem_cons.1 hy with rfl | hy1
      · rfl
      · exact absurd e (bl_ne (hp.1 y hy1))
    · rcases List.mem_cons.1 hy with rfl | hy1
      · exact absurd e.symm (bl_ne (hp.1 x hx1))
      · exact ih h.tail hx1 hy1
theorem Ls.get {ks : List Lb} (h : Ls ks) {x : Lb} (hx : x ∈ ks) : gvL x.1 ks = x.2 := by
  induction ks with
  | nil => simp at hx
  | cons z ks ih =>
    unfold gvL
    by_cases e : z.1 = x.1
    · rw [if_pos ((teq _ _).2 e), h.inj (List.mem_cons_self ..) hx e]
    · rw [if_neg (by rw [teq]; exact e)]
      rcases List.mem_cons.1 hx with rfl | hx1
      · exact absurd rfl e
      · exact ih h.tail hx1
theorem Ls.out {ks : List Lb} (h : Ls ks) {p : Lb → Bool} {x : Lb} (hx : x ∈ ks) (hp : p x = false) : gvL x.1 (ks.filter p) = ⟨#[]⟩ :=
  gv_none fun y hy e => by
    have hy := List.mem_filter.1 hy
    rw [h.inj hy.1 hx e, hp] at hy
    exact absurd hy.2 (by simp)
theorem gv_mid {k nm v : ByteArray} (h : nm ≠ k) : ∀ (a b : List Lb), gvL k (a ++ (nm, v) :: b) = gvL k (a ++ b)
  | [], b => by
    show (if nm.toList == k.toList then v else gvL k b) = gvL k b
    rw [if_neg (by rw [teq]; exact h)]
  | x :: a, b => by
    show (if x.1.toList == k.toList then x.2 else gvL k (a ++ (nm, v) :: b)) = if x.1.toList == k.toList then x.2 else gvL k (a ++ b)
    rw [gv_mid h a b]
theorem gv_hit {nm v : ByteArray} : ∀ (a b : List Lb), (∀ x ∈ a, x.1 ≠ nm) → gvL nm (a ++ (nm, v) :: b) = v
  | [], b, _ => by
    show (if nm.toList == nm.toList then v else gvL nm b) = v
    rw [if_pos ((teq _ _).2 rfl)]
  | x :: a, b, h => by
    show (if x.1.toList == nm.toList then x.2 else gvL nm (a ++ (nm, v) :: b)) = v
    rw [if_neg (by rw [teq]; exact h x (by simp))]
    exact gv_hit a b fun y hy => h y (List.mem_cons_of_mem _ hy)
theorem Ls.one {ks : List Lb} (h : Ls ks) (p : Lb → Bool) (nm : ByteArray) (hp : ∀ x, p x = true → x.1 = nm) : (ks.filter p).length ≤ 1 := by
  have hf := h.filter p
  rcases hc : ks.filter p with _ | ⟨a, _ | ⟨b, l⟩⟩
  · simp
  · simp
  · rw [hc] at hf
    have ha := hp a (List.mem_filter.1 (by rw [hc]; simp)).2
    have hb := hp b (List.mem_filter.1 (by rw [hc]; simp : b ∈ ks.filter p)).2
    exact absurd (ha.trans hb.symm) (bl_ne ((List.pairwise_cons.1 hf.2).1 b (by simp)))
theorem len_split (p : Lb → Bool) : ∀ ks : List Lb, ks.length = (ks.filter p).length + (ks.filter fun x => !p x).length
  | [] => rfl
  | x :: ks => by
    have := len_split p ks
    rw [List.filter_cons, List.filter_cons]
    cases p x <;> simp <;> omega
/-! With. -/
theorem drop_gL (ks : List Lb) (nm : ByteArray) : K.dropL (K.gL ks) nm ks.length = ks.filter fun l => !(l.1.toList == nm.toList) := by
  unfold K.dropL
  rw [K.ll_gL]
theorem with_get (ks : List Lb) (nm vl : ByteArray) : gvL nm (K.wthL (K.gL ks) nm vl ks.length) = vl := by
  have hd : ∀ x ∈ ks.filter fun l : Lb => !(l.1.toList == nm.toList), x.1 ≠ nm := fun x hx => by
    have := (List.mem_filter.1 hx).2
    rw [← tne]
    simpa using this
  unfold K.wthL
  rw [drop_gL]
  split
  · rename_i h
    rw [gv_none hd]
    exact ((tempty _).1 h).symm
  · unfold K.insL
    exact gv_hit _ _ fun x hx => hd x (List.takeWhile_subset _ hx)
theorem with_other {ks : List Lb} (h : Ls ks) (nm vl : ByteArray) {x : Lb} (hx : x ∈ ks) (hn : x.1 ≠ nm) : gvL x.1 (K.wthL (K.gL ks) nm vl ks.length) = x.2 := by
  have hd : x ∈ ks.filter fun l : Lb => !(l.1.toList == nm.toList) := List.mem_filter.2 ⟨hx, by rw [(tne _ _).2 hn]; rfl⟩
  unfold K.wthL
  rw [drop_gL]
  split
  · exact (h.filter _).get hd
  · unfold K.insL
    rw [gv_mid (fun e => hn e.symm), List.takeWhile_append_dropWhile]
    exact (h.filter _).get hd
theorem ins_len (nm vl : ByteArray) (D : List Lb) : (K.insL nm vl D).length = D.length + 1 := by
  unfold K.insL
  rw [List.length_append, List.length_cons, ← Nat.add_assoc, ← List.length_append, List.takeWhile_append_dropWhile]
theorem with_len {ks : List Lb} (h : Ls ks) (nm vl : ByteArray) : (K.wthL (K.gL ks) nm vl ks.length).length ≤ ks.length + 1 ∧ ks.length ≤ (K.wthL (K.gL ks) nm vl ks.length).length + 1 := by
  have h1 := len_split (fun l => l.1.toList == nm.toList) ks
  have h2 := h.one (fun l => l.1.toList == nm.toList) nm (fun x hx => (teq _ _).1 hx)
  unfold K.wthL
  rw [drop_gL]
  split
  · constructor <;> omega
  · rw [ins_len]
    constructor <;> omega
theorem with_mem {ks : List Lb} {nm vl : ByteArray} {x : Lb} (hx : x ∈ K.wthL (K.gL ks) nm vl ks.length) : x ∈ ks ∨ x = (nm, vl) := by
  unfold K.wthL at hx
  rw [drop_gL] at hx
  split at hx
  · exact .inl (List.mem_filter.1 hx).1
  · unfold K.insL at hx
    rcases List.mem_append.1 hx with hx | hx
    · exact .inl (List.mem_filter.1 (List.takeWhile_subset _ hx)).1
    · rcases List.mem_cons.1 hx with rfl | hx
      · exact .inr rfl
      · exact .inl (List.mem_filter.1 (List.dropWhile_subset _ hx)).1
/-! Keep. -/
theorem kept_gL (ks : List Lb) (xs : List ByteArray) (wo : Bool) : K.keptL (K.gL ks) xs wo ks.length = ks.filter fun l => K.stay xs wo l.1 := by
  unfold K.keptL
  rw [K.ll_gL]
abbrev nmB : ByteArray := ⟨#[95, 95, 110, 97, 109, 101, 95, 95]⟩
theorem nmL_eq : K.nmL = nmB.toList := by rw [Lib.toList_data]
theorem stay_in (xs : List ByteArray) (x : ByteArray) : K.stay xs false x = K.mb xs x := rfl
theorem stay_out (xs : List ByteArray) (x : ByteArray) : K.stay xs true x = (!K.mb xs x && !(x.toList == nmB.toList)) := by
  unfold K.stay
  rw [nmL_eq]
  rfl
theorem out_name (ks : List Lb) (xs : List ByteArray) : gvL nmB (ks.filter fun l => K.stay xs true l.1) = ⟨#[]⟩ :=
  gv_none fun x hx => by
    have := (List.mem_filter.1 hx).2
    rw [stay_out] at this
    rw [← tne]
    simp at this
    simpa using this.2
theorem kept_count {ks : List Lb} (h : Ls ks) (xs : List ByteArray) : (ks.filter fun l => K.stay xs false l.1).length + (ks.filter fun l => K.stay xs true l.1).length + (if gvL nmB ks ≠ ⟨#[]⟩ ∧ gvL nmB (ks.filter fun l => K.stay xs false l.1) = ⟨#[]⟩ then 1 else 0) = ks.length := by
  have h1 := len_split (fun l => K.mb xs l.1) ks
  have h2 := len_split (fun l => l.1.toList == nmB.toList) (ks.filter fun l => !K.mb xs l.1)
  rw [List.filter_filter, List.filter_filter] at h2
  have e1 : (ks.filter fun l => K.stay xs true l.1) = ks.filter fun l => (!(l.1.toList == nmB.toList) && !K.mb xs l.1) := by
    congr 1
    funext l
    rw [stay_out, Bool.and_comm]
  have e2 : (ks.filter fun l => K.stay xs false l.1) = ks.filter fun l => K.mb xs l.1 := rfl
  have h3 := h.one (fun l => (l.1.toList == nmB.toList) && !K.mb xs l.1) nmB (fun x hx => (teq _ _).1 (by simp at hx; simpa using hx.1))
  rw [e1, e2]
  rcases hc : ks.filter (fun l => (l.1.toList == nmB.toList) && !K.mb xs l.1) with _ | ⟨x, l⟩
  · rw [hc] at h2
    rw [if_neg]
    · rw [List.length_nil] at h2; omega
    · rintro ⟨g1, g2⟩
      apply g1
      apply gv_none
      intro x hx e
      have hm : K.mb xs x.1 = true := by
        cases hm : K.mb xs x.1
        · have : x ∈ ks.filter (fun l => (l.1.toList == nmB.toList) && !K.mb xs l.1) := List.mem_filter.2 ⟨hx, by simp [e]; rw [← e]; exact hm⟩
          rw [hc] at this
          simp at this
        · rfl
      have := (h.filter fun l => K.mb xs l.1).get (x := x) (List.mem_filter.2 ⟨hx, hm⟩)
      rw [e, g2] at this
      exact (h.1 x hx).2.1 this.symm
  · have hx : x ∈ ks.filter (fun l => (l.1.toList == nmB.toList) && !K.mb xs l.1) := by rw [hc]; simp
    rw [hc] at h2 h3
    have hx' := List.mem_filter.1 hx
    have e : x.1 = nmB := (teq _ _).1 (by have := hx'.2; simp at this; simpa using this.1)
    have hm : K.mb xs x.1 = false := by have := hx'.2; simp at this; exact this.2
    rw [if_pos]
    · rw [List.length_cons] at h2 h3; omega
    · refine ⟨?_, ?_⟩
      · rw [← e, h.get hx'.1]
        exact (h.1 x hx'.1).2.1
      · rw [← e]
        exact h.out hx'.1 hm
theorem kept_get {ks : List Lb} (h : Ls ks) (xs : List ByteArray) {x : Lb} (hx : x ∈ ks) : gvL x.1 (ks.filter fun l => K.stay xs false l.1) = x.2 ∨ (gvL x.1 (ks.filter fun l => K.stay xs false l.1) = ⟨#[]⟩ ∧ (x.1 = nmB ∨ gvL x.1 (ks.filter fun l => K.stay xs true l.1) = x.2)) := by
  cases hm : K.mb xs x.1
  · refine .inr ⟨h.out hx hm, ?_⟩
    by_cases e : x.1 = nmB
    · exact .inl e
    · refine .inr ((h.filter _).get (List.mem_filter.2 ⟨hx, ?_⟩))
      rw [stay_out, hm, (tne _ _).2 e]
      rfl
  · exact .inl ((h.filter _).get (List.mem_filter.2 ⟨hx, hm⟩))
end Go.Proofs.YtjmninjaoemhjaaDoor
