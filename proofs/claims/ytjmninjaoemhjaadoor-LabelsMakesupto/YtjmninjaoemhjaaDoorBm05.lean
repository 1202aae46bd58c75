/- A bundle of texts. -/
import Derived.Test.YtjmninjaoemhjaaDoorBm03
import Derived.Test.YtjmninjaoemhjaaDoorBm04
import Derived.Test.YtjmninjaoemhjaaDoorBm02
import Derived.Deep.Cut
import Derived.BigQuiet
import Derived.Shelf.SlLaysF0
import Derived.Shelf.SlGeneric
import Derived.Test.YtjmninjaoemhjaaDoorProg
/- The reference: a label's name; a text's validity. -/
namespace Go.Proofs.YtjmninjaoemhjaaDoor.R
open Go.RowKit Go.Lib

set_option maxHeartbeats 1000000 in
theorem letter_any (c : Int) (w : World) : Calls Tryd.prog 68 #[.int .u8 c] w fun e w' => e = .returned (.bool (fiB c)) ∧ w' = w := by
  obtain ⟨b, hb⟩ : ∃ b, fiB c = b := ⟨_, rfl⟩
  have HB : Hid (fiB c = b) := hb
  rw [hb]
  clear hb
  have h6 : (c == 95) = decide (c = 95) := rfl
  by_cases h5 : c = 95
  · subst h5
    simp only [fiB] at HB
    go_enter Tryd.func68, Tryd.ntmps68
    go_wp2
    go_ret
    refine ⟨?_, rfl⟩
    rw [← HB.out]
    rfl
  · by_cases h1 : 97 ≤ c <;> by_cases h2 : c ≤ 122 <;> by_cases h3 : 65 ≤ c <;> by_cases h4 : c ≤ 90 <;> first
      | omega
      | (simp only [fiB, h1, h2, h3, h4, h5, decide_true, decide_false, Bool.and_true, Bool.and_false, Bool.or_true, Bool.or_false] at HB h6
         have g1 : (c ≥ 97) = (97 ≤ c) := rfl
         have g3 : (c ≥ 65) = (65 ≤ c) := rfl
         go_enter Tryd.func68, Tryd.ntmps68
         go_wp2
         go_ret
         refine ⟨?_, rfl⟩
         rw [← HB.out]
         first | rfl | simp [h6] | simp [h5])
set_option maxHeartbeats 1000000 in
theorem digit_any (c : Int) (w : World) : Calls Tryd.prog 69 #[.int .u8 c] w fun e w' => e = .returned (.bool (dgB c)) ∧ w' = w := by
  obtain ⟨b, hb⟩ : ∃ b, dgB c = b := ⟨_, rfl⟩
  have HB : Hid (dgB c = b) := hb
  rw [hb]
  clear hb
  by_cases h1 : 48 ≤ c <;> by_cases h2 : c ≤ 57 <;> first
    | omega
    | (simp only [dgB, h1, h2, decide_true, decide_false, Bool.and_true, Bool.and_false] at HB
       go_enter Tryd.func69, Tryd.ntmps69
       go_wp2
       go_ret
       refine ⟨?_, rfl⟩
       rw [← HB.out]
       first | rfl | simp)
set_option maxHeartbeats 4000000 in
set_option maxRecDepth 100000 in
theorem rlabel_any (s : ByteArray) (w : World) (hs : s.size ≤ 140737488355328) : Calls Tryd.prog 47 #[.string s] w fun e w' => e = .returned (.bool (lbN s)) ∧ w' = w := by
  obtain ⟨b, hb⟩ : ∃ b, lbN s = b := ⟨_, rfl⟩
  have HB : Hid (lbN s = b) := hb
  rw [hb]
  clear hb
  have k1 : Hid (∀ c W, Calls Tryd.prog 68 #[.int .u8 c] W fun e w' => e = .returned (.bool (fiB c)) ∧ w' = W) := fun c W => letter_any c W
  have k2 : Hid (∀ c W, Calls Tryd.prog 69 #[.int .u8 c] W fun e w' => e = .returned (.bool (dgB c)) ∧ w' = W) := fun c W => digit_any c W
  have HNE : Hid (s.toList = [] ↔ s.size = 0) := nil_iff s
  have hsi : (s.size : Int) ≤ 140737488355328 := by omega
  go_enter Tryd.func47, Tryd.ntmps47
  go_wp2_with fail
  go_loopw [3] (fun t w' => ∃ i f : Nat, t = .int .i64 (i : Nat) ∧ i + f = s.size ∧ Hid (lbF s s.size 0 = lbF s f i ∧ (0 < i → fiB (YtjmninjaoemhjaaDoor.bt s 0) = true)) ∧ w' = w) (fun t _ => s.size - (RowKit.intOf t).toNat)
  case atStart => exact ⟨0, s.size, rfl, by omega, ⟨rfl, fun h => absurd h (by omega)⟩, rfl⟩
  case round =>
    obtain ⟨i, f, rfl, hif, hv, rfl⟩ := hrel
    by_cases hlt : i < s.size
    · have hii : (i : Int) < (s.size : Int) := by omega
      have i0 : (0 : Int) ≤ (i : Int) := by omega
      obtain ⟨g, rfl⟩ : ∃ g, f = g + 1 := ⟨f - 1, by omega⟩
      have K1 := k1.out (YtjmninjaoemhjaaDoor.bt s i) wr
      have K2 := k2.out (YtjmninjaoemhjaaDoor.bt s i) wr
      have HV : Hid (lbF s s.size 0 = (laB (YtjmninjaoemhjaaDoor.bt s i) && lbF s g (i + 1)) ∧ (0 < i → fiB (YtjmninjaoemhjaaDoor.bt s 0) = true)) := hv
      have HL : Hid (laB (YtjmninjaoemhjaaDoor.bt s i) = (fiB (YtjmninjaoemhjaaDoor.bt s i) || dgB (YtjmninjaoemhjaaDoor.bt s i))) := (show _ = _ from rfl)
      have HZ : Hid (i = 0 → fiB (YtjmninjaoemhjaaDoor.bt s 0) = fiB (YtjmninjaoemhjaaDoor.bt s i)) := (show _ → _ from fun h => by rw [h])
      clear hv
      generalize fiB (YtjmninjaoemhjaaDoor.bt s i) = F at *
      generalize dgB (YtjmninjaoemhjaaDoor.bt s i) = D at *
      have e0 : YtjmninjaoemhjaaDoor.bt s i = ((s[i]'hlt).toNat : Int) := by unfold YtjmninjaoemhjaaDoor.bt; rw [get!_in s i hlt]
      rw [e0] at K1 K2
      clear e0
      cases F
      · by_cases h0 : i = 0
        · have HE : Hid (b = false) := by
            have h := HB.out
            unfold lbN at h
            rw [HZ.out h0] at h
            exact (h.symm).trans (by simp)
          subst h0
          go_wp2_with fail
          go_fit K1
          rintro e w1 ⟨rfl, rfl⟩
          go_wp2
          go_ret
          exact ⟨by rw [HE.out]; rfl, rfl⟩
        · have hi0 : ¬ (i : Int) = 0 := by omega
          have HI : Hid (0 < i) := (show 0 < i by omega)
          clear h0
          cases D
          · have HE : Hid (b = false) := by
              have h := HB.out
              unfold lbN at h
              rw [HV.out.1, HL.out] at h
              exact (h.symm).trans (by simp)
            go_wp2_with fail
            go_fit K1
            rintro e w1 ⟨rfl, rfl⟩
            go_wp2_with fail
            go_fit K2
            rintro e w1 ⟨rfl, rfl⟩
            go_wp2
            go_ret
            exact ⟨by rw [HE.out]; rfl, rfl⟩
          · have HE : Hid (lbF s s.size 0 = lbF s g (i + 1) ∧ (0 < i + 1 → fiB (YtjmninjaoemhjaaDoor.bt s 0) = true)) := (show _ ∧ _ from ⟨by rw [HV.out.1, HL.out]; simp, fun _ => HV.out.2 HI.out⟩)
            go_wp2_with fail
            go_fit K1
            rintro e w1 ⟨rfl, rfl⟩
            go_wp2_with fail
            go_fit K2
            rintro e w1 ⟨rfl, rfl⟩
            go_wp2
            exact ⟨⟨i + 1, g, by go_num, by omega, HE, trivial⟩, by simp [RowKit.intOf]; omega⟩
      · have HE : Hid (lbF s s.size 0 = lbF s g (i + 1) ∧ (0 < i + 1 → fiB (YtjmninjaoemhjaaDoor.bt s 0) = true)) := (show _ ∧ _ from ⟨by rw [HV.out.1, HL.out]; simp, fun _ => by
          by_cases h0 : i = 0
          · exact HZ.out h0
          · exact HV.out.2 (by omega)⟩)
        go_wp2_with fail
        go_fit K1
        rintro e w1 ⟨rfl, rfl⟩
        go_wp2
        exact ⟨⟨i + 1, g, by go_num, by omega, HE, trivial⟩, by simp [RowKit.intOf]; omega⟩
    · have hii : ¬ (i : Int) < (s.size : Int) := by omega
      obtain rfl : f = 0 := by omega
      have HE : Hid (b = (decide (0 < s.size) && fiB (YtjmninjaoemhjaaDoor.bt s 0))) := by
        have := HB.out
        unfold lbN at this
        rw [hv.out.1] at this
        exact this.symm
      by_cases h0 : s.size = 0
      · have hne : s.toList = [] := HNE.out.2 h0
        have HE2 : Hid (b = false) := HE.out.trans (by simp [h0])
        clear h0 hv
        go_wp2
        go_ret
        exact ⟨by rw [HE2.out]; simp, rfl⟩
      · have hne : ¬ s.toList = [] := fun h => h0 (HNE.out.1 h)
        have HE2 : Hid (b = true) := HE.out.trans (by rw [hv.out.2 (by omega)]; simp; omega)
        clear h0 hv
        go_wp2
        go_ret
        exact ⟨by rw [HE2.out]; simp [hne], rfl⟩
set_option maxHeartbeats 4000000 in
set_option maxRecDepth 100000 in
theorem rvalidT_any (s : ByteArray) (w : World) (hs : s.size ≤ maxLen) : Calls Tryd.prog 49 #[.string s] w fun e w' => e = .returned (.bool (vld s s.size 0)) ∧ Below w.heap.size w w' := by
  have k1 : Hid (∀ i, i < s.size → ∀ W, Calls Tryd.prog 70 #[.string s, .int .i64 (i : Int)] W fun e w' => e = .returned (.tuple #[.int .i32 (nxt s i).1, .int .i64 (nxt s i).2]) ∧ Below W.heap.size W w') := (show ∀ i, _ → _ from fun i h W => rnext_in s i W hs h)
  have hsi : (s.size : Int) ≤ 9223372036854775807 := by unfold maxLen at hs; omega
  clear hs
  obtain ⟨v, hv⟩ : ∃ v, vld s s.size 0 = v := ⟨_, rfl⟩
  have HB : Hid (vld s s.size 0 = v) := hv
  rw [hv]
  clear hv
  go_enter Tryd.func49, Tryd.ntmps49
  go_wp2_with fail
  go_loopw [3] (fun t w' => ∃ i f : Nat, t = .int .i64 (i : Nat) ∧ i ≤ s.size ∧ Hid (vld s f i = v ∧ s.size ≤ i + f ∧ Below w.heap.size w w')) (fun t _ => s.size - (RowKit.intOf t).toNat)
  case atStart => exact ⟨0, s.size, rfl, by omega, HB.out, by omega, Below.refl _ _⟩
  case round =>
    obtain ⟨i, f, rfl, hi, HV⟩ := hrel
    by_cases hlt : i < s.size
    · have hii : (i : Int) < (s.size : Int) := by omega
      have K := k1.out i hlt wr
      have hf : 0 < f := by have := HV.out.2.1; omega
      have HG : Hid ((nxt s i).2 ≠ 0 → (nxt s i).2 = ((Utf8.decode s i).2 : Nat) ∧ vld s f i = vld s (f - 1) (i + (Utf8.decode s i).2)) := (show _ → _ from fun h => ⟨(nxt_width s i h).1, vld_good' s f i hlt hf h⟩)
      have HZ : Hid ((nxt s i).2 = 0 → vld s f i = false) := (show _ → _ from fun h => vld_bad' s f i hlt hf h)
      have hw := decode_le_size s i hlt
      have hw2 := (decode_width s i).1
      obtain ⟨R, hR⟩ : ∃ R, (nxt s i).1 = R := ⟨_, rfl⟩
      obtain ⟨N, hN⟩ : ∃ N, (nxt s i).2 = N := ⟨_, rfl⟩
      rw [hR, hN] at K
      rw [hN] at HG HZ
      clear hR hN
      generalize (Utf8.decode s i).2 = k at *
      by_cases hz : N = 0
      · subst hz
        have HE : Hid (v = false) := (show _ = _ by rw [← HV.out.1]; exact HZ.out rfl)
        go_wp2_with fail
        go_fit K
        rintro e w1 ⟨rfl, b1⟩
        go_wp2
        go_ret
        exact ⟨by rw [HE.out]; rfl, HV.out.2.2.trans (b1.mono HV.out.2.2.size)⟩
      · obtain ⟨rfl, h2⟩ := HG.out hz
        have HE : Hid (vld s (f - 1) (i + k) = v) := (show _ = _ by rw [← HV.out.1, h2])
        have hkz : ¬ (k : Int) = 0 := hz
        have hkw : IntKind.i64.wrap ((i : Int) + k) = (i : Int) + k := by rw [IntKind.wrap_i64]; omega
        clear h2 HG HZ
        go_wp2_with fail
        go_fit K
        rintro e w1 ⟨rfl, b1⟩
        have HB1 : Hid (Below w.heap.size w w1) := HV.out.2.2.trans (b1.mono HV.out.2.2.size)
        clear b1 K
        go_wp2
        exact ⟨⟨i + k, f - 1, by go_num, by omega, HE.out, by have := HV.out.2.1; omega, HB1.out⟩, by simp [RowKit.intOf]; omega⟩
    · have hii : ¬ (i : Int) < (s.size : Int) := by omega
      have HE : Hid (v = true) := (show _ = _ by rw [← HV.out.1]; exact vld_end s f i hlt)
      go_wp2
      go_ret
      exact ⟨by rw [HE.out]; rfl, HV.out.2.2⟩
end Go.Proofs.YtjmninjaoemhjaaDoor.R
/- Labels: the value of a name in any list. -/
namespace Go.Proofs.YtjmninjaoemhjaaDoor
open Go.RowKit Go.Lib

/-- The value of the first label of a name, from a place on. -/
def gvF (f : Nat → Lb) (nm : ByteArray) : Nat → Nat → ByteArray
  | 0, _ => ⟨#[]⟩
  | n + 1, i => if (f i).1.toList == nm.toList then (f i).2 else gvF f nm n (i + 1)
set_option maxHeartbeats 2000000 in
set_option maxRecDepth 100000 in
theorem valueOf_any (a : Option Addr) (f : Nat → Lb) (n c : Nat) (nm : ByteArray) (w : World) (hL : Lm w a f n) (hn : n ≤ 140737488355328) :
    Calls Tryd.prog 36 #[.slice a n c, .string nm] w fun e w' => e = .returned (.string (gvF f nm n 0)) ∧ Below w.heap.size w w' := by
  have HL : Hid (Lm w a f n) := hL
  have hni : (n : Int) ≤ 140737488355328 := by omega
  obtain ⟨v, hv⟩ : ∃ v, gvF f nm n 0 = v := ⟨_, rfl⟩
  rw [hv]
  have HV : Hid (gvF f nm n 0 = v) := hv
  clear hL hv
  go_enter Tryd.func36, Tryd.ntmps36
  go_wp2_with fail
  go_loopw [9] (fun t w' => ∃ i k : Nat, t = .int .i64 (i : Nat) ∧ i + k = n ∧ Hid (gvF f nm k i = v) ∧ Hid (Below w.heap.size w w')) (fun t _ => n - (RowKit.intOf t).toNat)
  case atStart => exact ⟨0, n, rfl, by omega, HV, Below.refl _ _⟩
  case round =>
    obtain ⟨i, k, rfl, hik, hv, hb⟩ := hrel
    by_cases hlt : i < n
    · have hii : (i : Int) < (n : Int) := by omega
      obtain ⟨m, rfl⟩ : ∃ m, k = m + 1 := ⟨k - 1, by omega⟩
      obtain ⟨g, o, rfl, hg, c0, c1⟩ := (HL.out.below hb.out).at i hlt
      have HN : Hid (Below w.heap.size w (wr.alloc (lbX (f i)))) := hb.out.alloc hb.out.size _
      have HG : Hid ((if (f i).1.toList == nm.toList then (f i).2 else gvF f nm m (i + 1)) = v) := hv
      clear hv hb
      obtain ⟨x, hx⟩ : ∃ x, f i = x := ⟨_, rfl⟩
      rw [hx] at c0 c1 HN HG
      clear hx
      obtain ⟨x1, x2⟩ := x
      dsimp only at c0 c1
      by_cases he : (x1.toList == nm.toList) = true
      · have HE : Hid (x2 = v) := by
          have := HG.out
          dsimp only at this
          rw [if_pos he] at this
          exact this
        go_wp2
        go_ret
        exact ⟨by rw [← HE.out]; rfl, HN.out⟩
      · have HE : Hid (gvF f nm m (i + 1) = v) := by
          have := HG.out
          dsimp only at this
          rw [if_neg he] at this
          exact this
        have he : (x1.toList == nm.toList) = false := by simpa using he
        go_wp2
        exact ⟨⟨i + 1, m, by go_num, by omega, HE, HN⟩, by simp [RowKit.intOf]; omega⟩
    · have hii : ¬ (i : Int) < (n : Int) := by omega
      obtain rfl : k = 0 := by omega
      have HE : Hid (v = ⟨#[]⟩) := hv.out.symm
      clear hv
      go_wp2
      go_ret
      exact ⟨by rw [HE.out]; rfl, hb.out⟩
theorem gvF_size (f : Nat → Lb) (nm : ByteArray) (M : Nat) : ∀ k i, (∀ j, j < i + k → (f j).2.size ≤ M) → (gvF f nm k i).size ≤ M
  | 0, _, _ => Nat.zero_le _
  | k + 1, i, h => by
    unfold gvF
    split
    · exact h i (by omega)
    · exact gvF_size f nm M k (i + 1) (fun j hj => h j (by omega))
set_option maxHeartbeats 1000000 in
theorem get_any (a : Option Addr) (f : Nat → Lb) (n c : Nat) (nm : ByteArray) (w : World) (hL : Lm w a f n) (hn : n ≤ 140737488355328) (hs : ∀ j, j < n → (f j).2.size ≤ 140737488355328) :
    Calls Tryd.prog 12 #[.slice a n c, .string nm] w fun e w' => e = .returned (.string (gvF f nm n 0)) ∧ Below w.heap.size w w' := by
  have k1 := valueOf_any a f n c nm w hL hn
  have hsz := gvF_size f nm 140737488355328 n 0 (fun j hj => hs j (by omega))
  generalize gvF f nm n 0 = v at *
  have HK : Hid (∀ W, Calls Tryd.prog 35 #[.string v] W fun e w' => e = .returned (.string v) ∧ Below W.heap.size W w') := fun W => clone_any v W hsz
  clear hL hs hsz
  go_enter Tryd.func12, Tryd.ntmps12
  go_wp2_with fail
  go_fit k1
  rintro e w1 ⟨rfl, b1⟩
  have k2 := HK.out w1
  have H1 : Hid (Below w.heap.size w w1) := b1
  clear k1 b1
  go_wp2_with fail
  go_fit k2
  rintro e w2 ⟨rfl, b2⟩
  have H2 : Hid (Below w.heap.size w w2) := H1.out.trans (b2.mono H1.out.size)
  clear k2 b2
  go_wp2
  go_ret
  exact ⟨rfl, H2.out⟩
end Go.Proofs.YtjmninjaoemhjaaDoor
/- Labels: Valid of any list. -/
namespace Go.Proofs.YtjmninjaoemhjaaDoor
open Go.RowKit Go.Lib

/-- A label that may stand at its place. -/
def okL (f : Nat → Lb) (i : Nat) : Bool := lbN (f i).1 && (!(f i).2.toList.isEmpty && (vld (f i).2 (f i).2.size 0 && (decide (i = 0) || Op.bytesLess (f (i - 1)).1.toList (f i).1.toList)))
/-- Labels from a place on that are a set. -/
def vaF (f : Nat → Lb) : Nat → Nat → Bool
  | 0, _ => true
  | n + 1, i => okL f i && vaF f n (i + 1)
set_option maxHeartbeats 4000000 in
set_option maxRecDepth 100000 in
theorem validL_any (a : Option Addr) (f : Nat → Lb) (n c : Nat) (w : World) (hL : Lm w a f n) (hn : n ≤ 140737488355328) (hs : ∀ j, j < n → (f j).1.size ≤ 140737488355328 ∧ (f j).2.size ≤ 140737488355328) (hT : Lib.Utf8Tabs 1 2 w) :
    Calls Tryd.prog 14 #[.slice a n c] w fun e w' => e = .returned (.bool (vaF f n 0)) ∧ Below w.heap.size w w' := by
  have HL : Hid (Lm w a f n) := hL
  have HS : Hid (∀ j, j < n → (f j).1.size ≤ 140737488355328 ∧ (f j).2.size ≤ 140737488355328) := hs
  have HT : Hid (Lib.Utf8Tabs 1 2 w) := hT
  have HZ : Hid (2 < w.heap.size) := tabs_size hT
  have hni : (n : Int) ≤ 140737488355328 := by omega
  obtain ⟨v, hv⟩ : ∃ v, vaF f n 0 = v := ⟨_, rfl⟩
  rw [hv]
  have HV : Hid (vaF f n 0 = v) := hv
  clear hL hv hs hT
  go_enter Tryd.func14, Tryd.ntmps14
  go_wp2_with fail
  go_loopw [7] (fun t w' => ∃ i k : Nat, t = .int .i64 (i : Nat) ∧ i + k = n ∧ Hid (vaF f k i = v) ∧ Hid (Below w.heap.size w w')) (fun t _ => n - (RowKit.intOf t).toNat)
  case atStart => exact ⟨0, n, rfl, by omega, HV, Below.refl _ _⟩
  case round =>
    obtain ⟨i, k, rfl, hik, hv, hb⟩ := hrel
    by_cases hlt : i < n
    · have hii : (i : Int) < (n : Int) := by omega
      obtain ⟨m, rfl⟩ : ∃ m, k = m + 1 := ⟨k - 1, by omega⟩
      obtain ⟨g, o, rfl, hg, c0, c1⟩ := (HL.out.below hb.out).at i hlt
      obtain ⟨s1, s2⟩ := HS.out i hlt
      have HG : Hid ((okL f i && vaF f m (i + 1)) = v) := hv
      clear hv
      have bA : Below w.heap.size w (wr.alloc (lbX (f i))) := hb.out.alloc hb.out.size _
      have kA := isLabel_any (f i).1 (wr.alloc (lbX (f i))) s1
      have kV := valid_any (f i).2 (wr.alloc (lbX (f i))) (by unfold maxLen; omega) (tabs_below HT.out HZ.out bA)
      have HN : Hid (Below w.heap.size w (wr.alloc (lbX (f i)))) := bA
      have HP : Hid (0 < i → ∃ j, i = j + 1 ∧ wr.cell? ⟨g, o + j * 2, none⟩ = some (.string (f j).1)) := (show _ → _ from fun h => by
        obtain ⟨g', o', e', _, d0, _⟩ := (HL.out.below hb.out).at (i - 1) (by omega)
        cases e'
        exact ⟨i - 1, by omega, d0⟩)
      have HO : Hid (okL f i = (lbN (f i).1 && (!(f i).2.toList.isEmpty && (vld (f i).2 (f i).2.size 0 && (decide (i = 0) || Op.bytesLess (f (i - 1)).1.toList (f i).1.toList))))) := (show _ = _ from rfl)
      obtain ⟨x, hx⟩ : ∃ x, f i = x := ⟨_, rfl⟩
      rw [hx] at c0 c1 HN HO kA kV s1 s2
      clear bA hx hb
      obtain ⟨x1, x2⟩ := x
      dsimp only at c0 c1 kA kV
      obtain ⟨A, hA⟩ : ∃ A, lbN x1 = A := ⟨_, rfl⟩
      obtain ⟨V, hVV⟩ : ∃ V, vld x2 x2.size 0 = V := ⟨_, rfl⟩
      dsimp only at HO
      rw [hA] at kA HO
      rw [hVV] at kV HO
      clear hA hVV s1 s2
      cases A
      · have HE : Hid (v = false) := (show _ = _ from HG.out.symm.trans (by rw [HO.out]; rfl))
        go_wp2_with fail
        go_fit kA
        rintro e w1 ⟨rfl, rfl⟩
        go_wp2
        go_ret
        exact ⟨by rw [HE.out]; rfl, HN.out⟩
      · by_cases hem : x2.toList = []
        · have HE : Hid (v = false) := (show _ = _ from HG.out.symm.trans (by rw [HO.out, hem]; rfl))
          go_wp2_with fail
          go_fit kA
          rintro e w1 ⟨rfl, rfl⟩
          go_wp2
          go_ret
          exact ⟨by rw [HE.out]; rfl, HN.out⟩
        · have hie : x2.toList.isEmpty = false := by cases h : x2.toList <;> simp_all
          cases V
          · have HE : Hid (v = false) := (show _ = _ from HG.out.symm.trans (by rw [HO.out]; simp))
            go_wp2_with fail
            go_fit kA
            rintro e w1 ⟨rfl, rfl⟩
            go_wp2_with fail
            go_fit kV
            rintro e w2 ⟨rfl, b2⟩
            have HN2 : Hid (Below w.heap.size w w2) := HN.out.trans (b2.mono HN.out.size)
            clear b2
            go_wp2
            go_ret
            exact ⟨by rw [HE.out]; rfl, HN2.out⟩
          · go_wp2_with fail
            go_fit kA
            rintro e w1 ⟨rfl, rfl⟩
            go_wp2_with fail
            go_fit kV
            rintro e w2 ⟨rfl, b2⟩
            have bw : Below wr.heap.size wr (wr.alloc (lbX (x1, x2))) := (Below.refl _ _).alloc (Nat.le_refl _) _
            have bw2 := bw.trans (b2.mono bw.size)
            have e0 : w2.cell? ⟨wr.heap.size, 0, none⟩ = some (.string x1) := bcell2 b2 (by unfold World.cell?; rw [show (wr.alloc (lbX (x1, x2))).heap[wr.heap.size]? = some (lbX (x1, x2)) from heap_alloc_new wr _]; rfl)
            have HN2 : Hid (∀ q, Hid (Below w.heap.size w (w2.drewN q))) := (show ∀ q, _ from fun q => (show Below _ _ _ from (HN.out.trans (b2.mono HN.out.size)).trans ⟨rfl, rfl, rfl, Nat.le_refl _, fun _ _ => rfl⟩))
            have HBW : Hid (Below wr.heap.size wr w2) := bw2
            clear b2 bw bw2 kA kV
            rcases Nat.eq_zero_or_pos i with h0 | h0
            · have hi1 : ¬ (0 : Int) < (i : Int) := by omega
              have hi2 : ¬ 0 < i := by omega
              have qd : decide (0 < i) = false := decide_eq_false hi2
              have HE : Hid (vaF f m (i + 1) = v) := (show _ = _ from by
                have := HG.out
                rw [HO.out, decide_eq_true h0] at this
                simpa [hie] using this)
              clear h0
              go_upto_region 6 with fail
              go_big_quiet (fail)
              have HN3 : Hid (Below w.heap.size w (w2.drewN nq)) := HN2.out nq
              go_wp2
              exact ⟨⟨i + 1, m, by go_num, by omega, HE, HN3⟩, by simp [RowKit.intOf]; omega⟩
            · obtain ⟨j, hj, d0⟩ := HP.out h0
              have hi1 : (0 : Int) < (i : Int) := by omega
              have qd : decide (0 < i) = true := decide_eq_true h0
              have d2 := bcell2 HBW.out d0
              have q1 : IntKind.i64.wrap ((i : Int) - 1) = (j : Nat) := by rw [IntKind.wrap_i64]; omega
              have q2 : (i : Int) - 1 = (j : Nat) := by omega
              have q3 : (j : Int) < (n : Int) := by omega
              have q4 : IntKind.i64.wrap (j : Int) = (j : Nat) := by rw [IntKind.wrap_i64]; omega
              have hjj : i - 1 = j := by omega
              obtain ⟨y1, hy1⟩ : ∃ y1, (f j).1 = y1 := ⟨_, rfl⟩
              rw [hjj, hy1] at HO
              rw [hy1] at d2
              obtain ⟨bl, hbl⟩ : ∃ bl, Op.bytesLess y1.toList x1.toList = bl := ⟨_, rfl⟩
              have HBL : Hid (Op.bytesLess y1.toList x1.toList = bl) := hbl
              have HJ : Hid (i = j + 1) := hj
              have HI0 : Hid (decide (i = 0) = false) := (show _ = _ from decide_eq_false (by omega))
              clear hj hjj hy1 d0 HBW
              cases bl
              · have HE : Hid (v = false) := (show _ = _ from HG.out.symm.trans (by rw [HO.out, HI0.out, HBL.out]; simp))
                go_upto_region 6 with fail
                go_big_quiet (fail)
                have HN3 : Hid (Below w.heap.size w (w2.drewN nq)) := HN2.out nq
                go_wp2
                go_ret
                exact ⟨by rw [HE.out]; rfl, HN3.out⟩
              · have HE : Hid (vaF f m (i + 1) = v) := (show _ = _ from by
                  have := HG.out
                  rw [HO.out, HI0.out, HBL.out] at this
                  simpa [hie] using this)
                go_upto_region 6 with fail
                go_big_quiet (fail)
                have HN3 : Hid (Below w.heap.size w (w2.drewN nq)) := HN2.out nq
                go_wp2
                exact ⟨⟨i + 1, m, by go_num, by omega, HE, HN3⟩, by simp [RowKit.intOf]; omega⟩
    · have hii : ¬ (i : Int) < (n : Int) := by omega
      obtain rfl : k = 0 := by omega
      have HE : Hid (v = true) := hv.out.symm
      clear hv
      go_wp2
      go_ret
      exact ⟨by rw [HE.out]; rfl, hb.out⟩
end Go.Proofs.YtjmninjaoemhjaaDoor
/- The shelf's slices.SortFunc at the labels, in plain words. -/
namespace Go.Proofs
open Go.Shelf
def Tryd.sortLb_ren : Go.Shelf.Ren := ⟨fun | 6 => 30 | 15 => 57 | 14 => 56 | 28 => 82 | 29 => 83 | 20 => 74 | 21 => 75 | 22 => 76 | 23 => 77 | 24 => 78 | 25 => 79 | 26 => 80 | 27 => 81 | 46 => 102 | 47 => 103 | 48 => 104 | 49 => 105 | 50 => 106 | 57 => 116 | n => n, fun | 22 => 22 | 24 => 26 | 25 => 60 | 3 => 3 | 39 => 85 | 0 => 0 | 53 => 107 | 55 => 109 | 4 => 4 | 46 => 101 | 45 => 100 | 50 => 91 | 5 => 5 | 9 => 9 | 66 => 121 | 70 => 125 | 76 => 133 | 77 => 134 | n => n, fun | n => n⟩
theorem Tryd.sortLb : Go.Proofs.SlLaysF0.n6 Tryd.prog Tryd.sortLb_ren := {
  mixed := by kernel_rfl
  f6 := ⟨Tryd.f30.name, by decide, Tryd.func30.trans (congrArg some (by kernel_rfl))⟩
  f14 := ⟨Tryd.f56.name, by decide, Tryd.func56.trans (congrArg some (by kernel_rfl))⟩
  f15 := Tryd.func57.trans (congrArg some (by kernel_rfl))
  f20 := ⟨Tryd.f74.name, by decide, Tryd.func74.trans (congrArg some (by kernel_rfl))⟩
  f21 := ⟨Tryd.f75.name, by decide, Tryd.func75.trans (congrArg some (by kernel_rfl))⟩
  f22 := ⟨Tryd.f76.name, by decide, Tryd.func76.trans (congrArg some (by kernel_rfl))⟩
  f23 := ⟨Tryd.f77.name, by decide, Tryd.func77.trans (congrArg some (by kernel_rfl))⟩
  f24 := ⟨Tryd.f78.name, by decide, Tryd.func78.trans (congrArg some (by kernel_rfl))⟩
  f25 := ⟨Tryd.f79.name, by decide, Tryd.func79.trans (congrArg some (by kernel_rfl))⟩
  f26 := ⟨Tryd.f80.name, by decide, Tryd.func80.trans (congrArg some (by kernel_rfl))⟩
  f27 := ⟨Tryd.f81.name, by decide, Tryd.func81.trans (congrArg some (by kernel_rfl))⟩
  f28 := Tryd.func82.trans (congrArg some (by kernel_rfl))
  f29 := Tryd.func83.trans (congrArg some (by kernel_rfl))
  f46 := ⟨Tryd.f102.name, by decide, Tryd.func102.trans (congrArg some (by kernel_rfl))⟩
  f47 := Tryd.func103.trans (congrArg some (by kernel_rfl))
  f48 := Tryd.func104.trans (congrArg some (by kernel_rfl))
  f49 := ⟨Tryd.f105.name, by decide, Tryd.func105.trans (congrArg some (by kernel_rfl))⟩
  f50 := ⟨Tryd.f106.name, by decide, Tryd.func106.trans (congrArg some (by kernel_rfl))⟩
  f57 := ⟨Tryd.f116.name, by decide, Tryd.func116.trans (congrArg some (by kernel_rfl))⟩
  t0 := Tryd.underlying0
  a0 := Tryd.isAgg0
  z0 := Tryd.sizeOf0
  v0 := Tryd.zeroValue0
  t3 := Tryd.underlying3
  a3 := Tryd.isAgg3
  z3 := Tryd.sizeOf3
  v3 := Tryd.zeroValue3
  t4 := Tryd.underlying4
  a4 := Tryd.isAgg4
  z4 := Tryd.sizeOf4
  v4 := Tryd.zeroValue4
  t5 := Tryd.underlying5
  a5 := Tryd.isAgg5
  z5 := Tryd.sizeOf5
  v5 := Tryd.zeroValue5
  t9 := Tryd.underlying9
  a9 := Tryd.isAgg9
  z9 := Tryd.sizeOf9
  v9 := Tryd.zeroValue9
  t22 := Tryd.underlying22
  a22 := Tryd.isAgg22
  z22 := Tryd.sizeOf22
  v22 := Tryd.zeroValue22
  t25 := Tryd.underlying60
  a25 := Tryd.isAgg60
  z25 := Tryd.sizeOf60
  v25 := Tryd.zeroValue60
  t39 := Tryd.underlying85
  a39 := Tryd.isAgg85
  z39 := Tryd.sizeOf85
  v39 := Tryd.zeroValue85
  t45 := Tryd.underlying100
  a45 := Tryd.isAgg100
  z45 := Tryd.sizeOf100
  v45 := Tryd.zeroValue100
  t46 := Tryd.underlying101
  a46 := Tryd.isAgg101
  z46 := Tryd.sizeOf101
  v46 := Tryd.zeroValue101
  t50 := Tryd.underlying91
  a50 := Tryd.isAgg91
  z50 := Tryd.sizeOf91
  v50 := Tryd.zeroValue91
  t53 := Tryd.underlying107
  a53 := Tryd.isAgg107
  z53 := Tryd.sizeOf107
  v53 := Tryd.zeroValue107
  t55 := Tryd.underlying109
  a55 := Tryd.isAgg109
  z55 := Tryd.sizeOf109
  v55 := Tryd.zeroValue109
  t66 := Tryd.underlying121
  a66 := Tryd.isAgg121
  z66 := Tryd.sizeOf121
  v66 := Tryd.zeroValue121
  t70 := Tryd.underlying125
  a70 := Tryd.isAgg125
  z70 := Tryd.sizeOf125
  v70 := Tryd.zeroValue125
  t76 := Tryd.underlying133
  a76 := Tryd.isAgg133
  z76 := Tryd.sizeOf133
  v76 := Tryd.zeroValue133
  t77 := Tryd.underlying134
  a77 := Tryd.isAgg134
  z77 := Tryd.sizeOf134
  v77 := Tryd.zeroValue134 }
end Go.Proofs
