/- A bundle of texts. -/
import Derived.Test.YtebjklppbkkinaaGreatDoorBp08
import Derived.Test.YtebjklppbkkinaaGreatDoorBp02
import Derived.Test.YtebjklppbkkinaaGreatDoorBp03
import Derived.Shelf.SlSortCmp.NoneTotal
import Derived.Test.YtebjklppbkkinaaGreatDoorBp04
import Derived.BigQuiet
/- The walks of the reference's Next and Valid. -/
namespace Go.Proofs.YtebjklppbkkinaaGreatDoor.R
open Go.RowKit Go.Lib

theorem hit_bd (s : ByteArray) (i k : Nat) (h1 : 1 ≤ k) (h : hit s i k) : 0 ≤ gs s i k ∧ gs s i k ≤ 1114111 := by
  have hl := h.1
  rw [strOfNums_size] at hl
  by_cases hr : isRune (gs s i k) = true
  · have hq := (isRune_iff _).1 hr
    exact ⟨hq.1, hq.2.1⟩
  · unfold formL at hl
    rw [if_neg hr] at hl
    simp at hl
    omega

set_option maxHeartbeats 1000000 in
theorem rnext_in (s : ByteArray) (i : Nat) (w : World) (hs : s.size ≤ maxLen) (h : i < s.size) :
    Calls Tryz.prog 131 #[.string s, .int .i64 i] w fun e w' => e = .returned (.tuple #[.int .i32 (nxt s i).1, .int .i64 (nxt s i).2]) ∧ Below w.heap.size w w' := by
  have HS : Hid (s.size ≤ maxLen) := hs
  unfold maxLen at hs
  have h0 : ¬ (i : Int) < 0 := by omega
  have h1 : ¬ (s.size : Int) ≤ i := by omega
  have hlt : i < s.size := h
  clear h
  go_enter Tryz.func131, Tryz.ntmps131
  go_wp2
  go_loopw [6] (fun t w' => ∃ k : Nat, 1 ≤ k ∧ k ≤ 5 ∧ t = .int .i64 k ∧ Below w.heap.size w w' ∧ ∀ v, 1 ≤ v → v < k → i + v ≤ s.size → ¬ hit s i v) (fun t _ => 5 - (RowKit.intOf t).toNat)
  case atStart => exact ⟨1, by omega, by omega, rfl, Below.refl _ _, fun v a b => by omega⟩
  case round =>
    obtain ⟨k, hk1, hk5, rfl, hbw, hno⟩ := hrel
    have HN : Hid (∀ v, 1 ≤ v → v < k → i + v ≤ s.size → ¬ hit s i v) := hno
    clear hno
    by_cases hin : k ≤ 4 ∧ i + k ≤ s.size
    · obtain ⟨hk4, hik⟩ := hin
      have cG := guess_any s i k wr HS.out hk1 hk4 hik
      have cF := form_any (gs s i k) wr
      have hh : hit s i k ↔ (strOfNums (formL (gs s i k))).size = k ∧ s.extract i (i + k) = strOfNums (formL (gs s i k)) := Iff.rfl
      have hyes := ref_hit s i k hk1 hk4 hik
      have hbd := hit_bd s i k hk1
      generalize strOfNums (formL (gs s i k)) = f at *
      generalize gs s i k = g at *
      have HH : Hid (hit s i k ↔ f.size = k ∧ s.extract i (i + k) = f) := hh
      have HY : Hid (hit s i k → nxt s i = (g, (k : Int))) := hyes
      have HB : Hid (hit s i k → 0 ≤ g ∧ g ≤ 1114111) := hbd
      clear hh hyes hbd
      have t1 : (k : Int) ≤ 4 := by omega
      have t2 : (k : Int) ≤ (s.size : Int) - i := by omega
      by_cases hf : f.size = k
      · by_cases he : s.extract i (i + k) = f
        · have hfb : ((f.size : Int) == (k : Int)) = true := by rw [beq_iff_eq]; omega
          have HX : Hid (nxt s i = (g, (k : Int))) := HY.out (HH.out.2 ⟨hf, he⟩)
          obtain ⟨g0, g1⟩ := HB.out (HH.out.2 ⟨hf, he⟩)
          have heb : ((s.extract i (i + k)).toList == f.toList) = true := by rw [he]; simp
          clear he hf
          go_wp2_with (first | (go_at_call 170; go_fit cG; rintro e w' ⟨rfl, rfl⟩) | (go_at_call 171; go_fit cF; rintro e w' ⟨rfl, hb2⟩))
          go_ret2
          exact ⟨by rw [HX.out]; rfl, hbw.trans (hb2.mono hbw.size)⟩
        · have hfb : ((f.size : Int) == (k : Int)) = true := by rw [beq_iff_eq]; omega
          have HE : Hid (¬ s.extract i (i + k) = f) := he
          have heb : ((s.extract i (i + k)).toList == f.toList) = false := by
            rw [beq_eq_false_iff_ne]
            intro hq
            apply HE.out
            rw [Lib.toList_data, Lib.toList_data] at hq
            exact ByteArray.ext (Array.toList_inj.1 hq)
          clear he hf
          go_wp2_with (first | (go_at_call 170; go_fit cG; rintro e w' ⟨rfl, rfl⟩) | (go_at_call 171; go_fit cF; rintro e w' ⟨rfl, hb2⟩))
          exact ⟨⟨k + 1, by omega, by omega, by go_num, hbw.trans (hb2.mono hbw.size), fun v a b c => by
            by_cases hv : v = k
            · subst hv; intro hq; exact HE.out (HH.out.1 hq).2
            · exact HN.out v a (by omega) c⟩, by simp [RowKit.intOf]; omega⟩
      · have hfb : ((f.size : Int) == (k : Int)) = false := by rw [beq_eq_false_iff_ne]; omega
        have HF : Hid (¬ f.size = k) := hf
        clear hf
        go_wp2_with (first | (go_at_call 170; go_fit cG; rintro e w' ⟨rfl, rfl⟩) | (go_at_call 171; go_fit cF; rintro e w' ⟨rfl, hb2⟩))
        exact ⟨⟨k + 1, by omega, by omega, by go_num, hbw.trans (hb2.mono hbw.size), fun v a b c => by
          by_cases hv : v = k
          · subst hv; intro hq; exact HF.out (HH.out.1 hq).1
          · exact HN.out v a (by omega) c⟩, by simp [RowKit.intOf]; omega⟩
    · have HX : Hid (nxt s i = (-1, 0)) := ref_none s i hlt (fun v a b c => HN.out v a (by omega) c)
      by_cases hk4 : k ≤ 4
      · have t1 : (k : Int) ≤ 4 := by omega
        have t2 : ¬ (k : Int) ≤ (s.size : Int) - i := by omega
        clear hin
        go_wp2
        go_ret2
        exact ⟨by rw [HX.out]; rfl, hbw⟩
      · have t1 : ¬ (k : Int) ≤ 4 := by omega
        clear hin
        go_wp2
        go_ret2
        exact ⟨by rw [HX.out]; rfl, hbw⟩

theorem decode_le_size (s : ByteArray) (i : Nat) (h : i < s.size) : i + (Utf8.decode s i).2 ≤ s.size := by
  rw [decode_at]
  unfold decodeN
  repeat' split
  all_goals simp
  all_goals omega

end Go.Proofs.YtebjklppbkkinaaGreatDoor.R
/- The reference: a label's name; a text's validity. -/
namespace Go.Proofs.YtebjklppbkkinaaGreatDoor.R
open Go.RowKit Go.Lib

set_option maxHeartbeats 1000000 in
theorem letter_any (c : Int) (w : World) : Calls Tryz.prog 129 #[.int .u8 c] w fun e w' => e = .returned (.bool (fiB c)) ∧ w' = w := by
  obtain ⟨b, hb⟩ : ∃ b, fiB c = b := ⟨_, rfl⟩
  have HB : Hid (fiB c = b) := hb
  rw [hb]
  clear hb
  have h6 : (c == 95) = decide (c = 95) := rfl
  by_cases h5 : c = 95
  · subst h5
    simp only [fiB] at HB
    go_enter Tryz.func129, Tryz.ntmps129
    go_wp2
    go_ret
    refine ⟨?_, rfl⟩
    rw [← HB.out]
    rfl
  · by_cases h1 : 97 ≤ c <;> by_cases h2 : c ≤ 122 <;> by_cases h3 : 65 ≤ c <;> by_cases h4 : c ≤ 90 <;> first
      | omega
      | (simp only [fiB, h1, h2, h3, h4, h5, decide_true, decide_false, Bool.and_true, Bool.and_false, Bool.or_true, Bool.or_false] at HB h6
         have g1 : (c ≥ 97) = (97 ≤ c) := rfl
         have g3 : (c ≥ 65) = (65 ≤ c) := rfl
         go_enter Tryz.func129, Tryz.ntmps129
         go_wp2
         go_ret
         refine ⟨?_, rfl⟩
         rw [← HB.out]
         first | rfl | simp [h6] | simp [h5])
set_option maxHeartbeats 1000000 in
theorem digit_any (c : Int) (w : World) : Calls Tryz.prog 130 #[.int .u8 c] w fun e w' => e = .returned (.bool (dgB c)) ∧ w' = w := by
  obtain ⟨b, hb⟩ : ∃ b, dgB c = b := ⟨_, rfl⟩
  have HB : Hid (dgB c = b) := hb
  rw [hb]
  clear hb
  by_cases h1 : 48 ≤ c <;> by_cases h2 : c ≤ 57 <;> first
    | omega
    | (simp only [dgB, h1, h2, decide_true, decide_false, Bool.and_true, Bool.and_false] at HB
       go_enter Tryz.func130, Tryz.ntmps130
       go_wp2
       go_ret
       refine ⟨?_, rfl⟩
       rw [← HB.out]
       first | rfl | simp)
set_option maxHeartbeats 4000000 in
set_option maxRecDepth 100000 in
theorem rlabel_any (s : ByteArray) (w : World) (hs : s.size ≤ 140737488355328) : Calls Tryz.prog 83 #[.string s] w fun e w' => e = .returned (.bool (lbN s)) ∧ w' = w := by
  obtain ⟨b, hb⟩ : ∃ b, lbN s = b := ⟨_, rfl⟩
  have HB : Hid (lbN s = b) := hb
  rw [hb]
  clear hb
  have k1 : Hid (∀ c W, Calls Tryz.prog 129 #[.int .u8 c] W fun e w' => e = .returned (.bool (fiB c)) ∧ w' = W) := fun c W => letter_any c W
  have k2 : Hid (∀ c W, Calls Tryz.prog 130 #[.int .u8 c] W fun e w' => e = .returned (.bool (dgB c)) ∧ w' = W) := fun c W => digit_any c W
  have HNE : Hid (s.toList = [] ↔ s.size = 0) := nil_iff s
  have hsi : (s.size : Int) ≤ 140737488355328 := by omega
  go_enter Tryz.func83, Tryz.ntmps83
  go_wp2_with fail
  go_loopw [3] (fun t w' => ∃ i f : Nat, t = .int .i64 (i : Nat) ∧ i + f = s.size ∧ Hid (lbF s s.size 0 = lbF s f i ∧ (0 < i → fiB (YtebjklppbkkinaaGreatDoor.bt s 0) = true)) ∧ w' = w) (fun t _ => s.size - (RowKit.intOf t).toNat)
  case atStart => exact ⟨0, s.size, rfl, by omega, ⟨rfl, fun h => absurd h (by omega)⟩, rfl⟩
  case round =>
    obtain ⟨i, f, rfl, hif, hv, rfl⟩ := hrel
    by_cases hlt : i < s.size
    · have hii : (i : Int) < (s.size : Int) := by omega
      have i0 : (0 : Int) ≤ (i : Int) := by omega
      obtain ⟨g, rfl⟩ : ∃ g, f = g + 1 := ⟨f - 1, by omega⟩
      have K1 := k1.out (YtebjklppbkkinaaGreatDoor.bt s i) wr
      have K2 := k2.out (YtebjklppbkkinaaGreatDoor.bt s i) wr
      have HV : Hid (lbF s s.size 0 = (laB (YtebjklppbkkinaaGreatDoor.bt s i) && lbF s g (i + 1)) ∧ (0 < i → fiB (YtebjklppbkkinaaGreatDoor.bt s 0) = true)) := hv
      have HL : Hid (laB (YtebjklppbkkinaaGreatDoor.bt s i) = (fiB (YtebjklppbkkinaaGreatDoor.bt s i) || dgB (YtebjklppbkkinaaGreatDoor.bt s i))) := (show _ = _ from rfl)
      have HZ : Hid (i = 0 → fiB (YtebjklppbkkinaaGreatDoor.bt s 0) = fiB (YtebjklppbkkinaaGreatDoor.bt s i)) := (show _ → _ from fun h => by rw [h])
      clear hv
      generalize fiB (YtebjklppbkkinaaGreatDoor.bt s i) = F at *
      generalize dgB (YtebjklppbkkinaaGreatDoor.bt s i) = D at *
      have e0 : YtebjklppbkkinaaGreatDoor.bt s i = ((s[i]'hlt).toNat : Int) := by unfold YtebjklppbkkinaaGreatDoor.bt; rw [get!_in s i hlt]
      rw [e0] at K1 K2
      clear e0
      cases F
      · by_cases h0 : i = 0
        · have HE : Hid (b = false) := by
            have h := HB.out
            unfold lbN at h
            rw [HZ.out h0] at h
            exact (h.symm).trans (by simp)
          subst h0
          go_wp2_with fail
          go_fit K1
          rintro e w1 ⟨rfl, rfl⟩
          go_wp2
          go_ret
          exact ⟨by rw [HE.out]; rfl, rfl⟩
        · have hi0 : ¬ (i : Int) = 0 := by omega
          have HI : Hid (0 < i) := (show 0 < i by omega)
          clear h0
          cases D
          · have HE : Hid (b = false) := by
              have h := HB.out
              unfold lbN at h
              rw [HV.out.1, HL.out] at h
              exact (h.symm).trans (by simp)
            go_wp2_with fail
            go_fit K1
            rintro e w1 ⟨rfl, rfl⟩
            go_wp2_with fail
            go_fit K2
            rintro e w1 ⟨rfl, rfl⟩
            go_wp2
            go_ret
            exact ⟨by rw [HE.out]; rfl, rfl⟩
          · have HE : Hid (lbF s s.size 0 = lbF s g (i + 1) ∧ (0 < i + 1 → fiB (YtebjklppbkkinaaGreatDoor.bt s 0) = true)) := (show _ ∧ _ from ⟨by rw [HV.out.1, HL.out]; simp, fun _ => HV.out.2 HI.out⟩)
            go_wp2_with fail
            go_fit K1
            rintro e w1 ⟨rfl, rfl⟩
            go_wp2_with fail
            go_fit K2
            rintro e w1 ⟨rfl, rfl⟩
            go_wp2
            exact ⟨⟨i + 1, g, by go_num, by omega, HE, trivial⟩, by simp [RowKit.intOf]; omega⟩
      · have HE : Hid (lbF s s.size 0 = lbF s g (i + 1) ∧ (0 < i + 1 → fiB (YtebjklppbkkinaaGreatDoor.bt s 0) = true)) := (show _ ∧ _ from ⟨by rw [HV.out.1, HL.out]; simp, fun _ => by
          by_cases h0 : i = 0
          · exact HZ.out h0
          · exact HV.out.2 (by omega)⟩)
        go_wp2_with fail
        go_fit K1
        rintro e w1 ⟨rfl, rfl⟩
        go_wp2
        exact ⟨⟨i + 1, g, by go_num, by omega, HE, trivial⟩, by simp [RowKit.intOf]; omega⟩
    · have hii : ¬ (i : Int) < (s.size : Int) := by omega
      obtain rfl : f = 0 := by omega
      have HE : Hid (b = (decide (0 < s.size) && fiB (YtebjklppbkkinaaGreatDoor.bt s 0))) := by
        have := HB.out
        unfold lbN at this
        rw [hv.out.1] at this
        exact this.symm
      by_cases h0 : s.size = 0
      · have hne : s.toList = [] := HNE.out.2 h0
        have HE2 : Hid (b = false) := HE.out.trans (by simp [h0])
        clear h0 hv
        go_wp2
        go_ret
        exact ⟨by rw [HE2.out]; simp, rfl⟩
      · have hne : ¬ s.toList = [] := fun h => h0 (HNE.out.1 h)
        have HE2 : Hid (b = true) := HE.out.trans (by rw [hv.out.2 (by omega)]; simp; omega)
        clear h0 hv
        go_wp2
        go_ret
        exact ⟨by rw [HE2.out]; simp [hne], rfl⟩
set_option maxHeartbeats 4000000 in
set_option maxRecDepth 100000 in
theorem rvalidT_any (s : ByteArray) (w : World) (hs : s.size ≤ maxLen) : Calls Tryz.prog 84 #[.string s] w fun e w' => e = .returned (.bool (vld s s.size 0)) ∧ Below w.heap.size w w' := by
  have k1 : Hid (∀ i, i < s.size → ∀ W, Calls Tryz.prog 131 #[.string s, .int .i64 (i : Int)] W fun e w' => e = .returned (.tuple #[.int .i32 (nxt s i).1, .int .i64 (nxt s i).2]) ∧ Below W.heap.size W w') := (show ∀ i, _ → _ from fun i h W => rnext_in s i W hs h)
  have hsi : (s.size : Int) ≤ 9223372036854775807 := by unfold maxLen at hs; omega
  clear hs
  obtain ⟨v, hv⟩ : ∃ v, vld s s.size 0 = v := ⟨_, rfl⟩
  have HB : Hid (vld s s.size 0 = v) := hv
  rw [hv]
  clear hv
  go_enter Tryz.func84, Tryz.ntmps84
  go_wp2_with fail
  go_loopw [3] (fun t w' => ∃ i f : Nat, t = .int .i64 (i : Nat) ∧ i ≤ s.size ∧ Hid (vld s f i = v ∧ s.size ≤ i + f ∧ Below w.heap.size w w')) (fun t _ => s.size - (RowKit.intOf t).toNat)
  case atStart => exact ⟨0, s.size, rfl, by omega, HB.out, by omega, Below.refl _ _⟩
  case round =>
    obtain ⟨i, f, rfl, hi, HV⟩ := hrel
    by_cases hlt : i < s.size
    · have hii : (i : Int) < (s.size : Int) := by omega
      have K := k1.out i hlt wr
      have hf : 0 < f := by have := HV.out.2.1; omega
      have HG : Hid ((nxt s i).2 ≠ 0 → (nxt s i).2 = ((Utf8.decode s i).2 : Nat) ∧ vld s f i = vld s (f - 1) (i + (Utf8.decode s i).2)) := (show _ → _ from fun h => ⟨(nxt_width s i h).1, vld_good' s f i hlt hf h⟩)
      have HZ : Hid ((nxt s i).2 = 0 → vld s f i = false) := (show _ → _ from fun h => vld_bad' s f i hlt hf h)
      have hw := decode_le_size s i hlt
      have hw2 := (decode_width s i).1
      obtain ⟨R, hR⟩ : ∃ R, (nxt s i).1 = R := ⟨_, rfl⟩
      obtain ⟨N, hN⟩ : ∃ N, (nxt s i).2 = N := ⟨_, rfl⟩
      rw [hR, hN] at K
      rw [hN] at HG HZ
      clear hR hN
      generalize (Utf8.decode s i).2 = k at *
      by_cases hz : N = 0
      · subst hz
        have HE : Hid (v = false) := (show _ = _ by rw [← HV.out.1]; exact HZ.out rfl)
        go_wp2_with fail
        go_fit K
        rintro e w1 ⟨rfl, b1⟩
        go_wp2
        go_ret
        exact ⟨by rw [HE.out]; rfl, HV.out.2.2.trans (b1.mono HV.out.2.2.size)⟩
      · obtain ⟨rfl, h2⟩ := HG.out hz
        have HE : Hid (vld s (f - 1) (i + k) = v) := (show _ = _ by rw [← HV.out.1, h2])
        have hkz : ¬ (k : Int) = 0 := hz
        have hkw : IntKind.i64.wrap ((i : Int) + k) = (i : Int) + k := by rw [IntKind.wrap_i64]; omega
        clear h2 HG HZ
        go_wp2_with fail
        go_fit K
        rintro e w1 ⟨rfl, b1⟩
        have HB1 : Hid (Below w.heap.size w w1) := HV.out.2.2.trans (b1.mono HV.out.2.2.size)
        clear b1 K
        go_wp2
        exact ⟨⟨i + k, f - 1, by go_num, by omega, HE.out, by have := HV.out.2.1; omega, HB1.out⟩, by simp [RowKit.intOf]; omega⟩
    · have hii : ¬ (i : Int) < (s.size : Int) := by omega
      have HE : Hid (v = true) := (show _ = _ by rw [← HV.out.1]; exact vld_end s f i hlt)
      go_wp2
      go_ret
      exact ⟨by rw [HE.out]; rfl, HV.out.2.2⟩
end Go.Proofs.YtebjklppbkkinaaGreatDoor.R
/- Labels: what is so of a label set, as mathematics. -/
namespace Go.Proofs.YtebjklppbkkinaaGreatDoor
open Go.RowKit Go.Lib

theorem teq (a b : ByteArray) : (a.toList == b.toList) = true ↔ a = b := by
  rw [beq_iff_eq, Lib.toList_data, Lib.toList_data]
  constructor
  · intro h
    rw [ByteArray.ext_iff]
    exact Array.toList_inj.1 h
  · rintro rfl
    rfl
def gvL (nm : ByteArray) : List Lb → ByteArray
  | [] => ⟨#[]⟩
  | x :: l => if x.1.toList == nm.toList then x.2 else gvL nm l
/-- A label set. -/
def Ls (ks : List Lb) : Prop := (∀ x ∈ ks, lbN x.1 = true ∧ x.2 ≠ ⟨#[]⟩ ∧ vld x.2 x.2.size 0 = true) ∧ ks.Pairwise fun x y => Op.bytesLess x.1.toList y.1.toList = true
theorem bl_ne {a b : ByteArray} (h : Op.bytesLess a.toList b.toList = true) : a ≠ b := by
  rintro rfl
  rcases od_cases a a with ⟨_, _, h3⟩ | ⟨_, h2, _⟩ | ⟨_, h2, _⟩
  · simp at h3
  · rw [h2] at h; cases h
  · rw [h2] at h; cases h
theorem Ls.filter {ks : List Lb} (h : Ls ks) (p : Lb → Bool) : Ls (ks.filter p) := ⟨fun x hx => h.1 x (List.mem_filter.1 hx).1, h.2.filter p⟩
theorem Ls.tail {x : Lb} {ks : List Lb} (h : Ls (x :: ks)) : Ls ks := ⟨fun y hy => h.1 y (List.mem_cons_of_mem _ hy), (List.pairwise_cons.1 h.2).2⟩
theorem gv_none {nm : ByteArray} : ∀ {ks : List Lb}, (∀ x ∈ ks, x.1 ≠ nm) → gvL nm ks = ⟨#[]⟩
  | [], _ => rfl
  | x :: ks, h => by
    unfold gvL
    rw [if_neg (by rw [teq]; exact h x (by simp))]
    exact gv_none fun y hy => h y (List.mem_cons_of_mem _ hy)
theorem Ls.inj {ks : List Lb} (h : Ls ks) {x y : Lb} (hx : x ∈ ks) (hy : y ∈ ks) (e : x.1 = y.1) : x = y := by
  induction ks with
  | nil => simp at hx
  | cons z ks ih =>
    have hp := List.pairwise_cons.1 h.2
    rcases List.mem_cons.1 hx with rfl | hx1
    · rcases List.mem_cons.1 hy with rfl | hy1
      · rfl
      · exact absurd e (bl_ne (hp.1 y hy1))
    · rcases List.mem_cons.1 hy with rfl | hy1
      · exact absurd e.symm (bl_ne (hp.1 x hx1))
      · exact ih h.tail hx1 hy1
theorem Ls.get {ks : List Lb} (h : Ls ks) {x : Lb} (hx : x ∈ ks) : gvL x.1 ks = x.2 := by
  induction ks with
  | nil => simp at hx
  | cons z ks ih =>
    unfold gvL
    by_cases e : z.1 = x.1
    · rw [if_pos ((teq _ _).2 e), h.inj (List.mem_cons_self ..) hx e]
    · rw [if_neg (by rw [teq]; exact e)]
      rcases List.mem_cons.1 hx with rfl | hx1
      · exact absurd rfl e
      · exact ih h.tail hx1
theorem Ls.out {ks : List Lb} (h : Ls ks) {p : Lb → Bool} {x : Lb} (hx : x ∈ ks) (hp : p x = false) : gvL x.1 (ks.filter p) = ⟨#[]⟩ :=
  gv_none fun y hy e => by
    have hy := List.mem_filter.1 hy
    rw [h.inj hy.1 hx e, hp] at hy
    exact absurd hy.2 (by simp)
theorem Ls.one {ks : List Lb} (h : Ls ks) (p : Lb → Bool) (nm : ByteArray) (hp : ∀ x, p x = true → x.1 = nm) : (ks.filter p).length ≤ 1 := by
  have hf := h.filter p
  rcases hc : ks.filter p with _ | ⟨a, _ | ⟨b, l⟩⟩
  · simp
  · simp
  · rw [hc] at hf
    have ha := hp a (List.mem_filter.1 (by rw [hc]; simp)).2
    have hb := hp b (List.mem_filter.1 (by rw [hc]; simp : b ∈ ks.filter p)).2
    exact absurd (ha.trans hb.symm) (bl_ne ((List.pairwise_cons.1 hf.2).1 b (by simp)))
end Go.Proofs.YtebjklppbkkinaaGreatDoor
/- The reference: named, Get, Valid. -/
namespace Go.Proofs.YtebjklppbkkinaaGreatDoor.R
open Go.RowKit Go.Lib

set_option maxHeartbeats 4000000 in
set_option maxRecDepth 100000 in
theorem rvalid_any (a : Option Addr) (f : Nat → Lb) (n c : Nat) (w : World) (hL : Lm w a f n) (hn : n ≤ 140737488355328) (hs : ∀ j, j < n → (f j).1.size ≤ 140737488355328 ∧ (f j).2.size ≤ 140737488355328) :
    Calls Tryz.prog 57 #[.slice a n c] w fun e w' => e = .returned (.bool (vaF f n 0)) ∧ Below w.heap.size w w' := by
  have HL : Hid (Lm w a f n) := hL
  have HS : Hid (∀ j, j < n → (f j).1.size ≤ 140737488355328 ∧ (f j).2.size ≤ 140737488355328) := hs
  have hni : (n : Int) ≤ 140737488355328 := by omega
  obtain ⟨v, hv⟩ : ∃ v, vaF f n 0 = v := ⟨_, rfl⟩
  rw [hv]
  have HV : Hid (vaF f n 0 = v) := hv
  clear hL hv hs
  go_enter Tryz.func57, Tryz.ntmps57
  go_wp2_with fail
  go_loopw [3] (fun t w' => ∃ i k : Nat, t = .int .i64 (i : Nat) ∧ i + k = n ∧ Hid (vaF f k i = v) ∧ Hid (Below w.heap.size w w')) (fun t _ => n - (RowKit.intOf t).toNat)
  case atStart => exact ⟨0, n, rfl, by omega, HV, Below.refl _ _⟩
  case round =>
    obtain ⟨i, k, rfl, hik, hv, HB⟩ := hrel
    by_cases hlt : i < n
    · have hii : (i : Int) < (n : Int) := by omega
      have i0 : (0 : Int) ≤ (i : Int) := by omega
      obtain ⟨m, rfl⟩ : ∃ m, k = m + 1 := ⟨k - 1, by omega⟩
      obtain ⟨g, o, rfl, hg, c0, c1⟩ := (HL.out.below HB.out).at i hlt
      obtain ⟨s1, s2⟩ := HS.out i hlt
      have HG : Hid ((okL f i && vaF f m (i + 1)) = v) := hv
      clear hv
      have kA := rlabel_any (f i).1 wr s1
      have kV : Hid (∀ W, Below wr.heap.size wr W → Calls Tryz.prog 84 #[.string (f i).2] W fun e w' => e = .returned (.bool (vld (f i).2 (f i).2.size 0)) ∧ Below W.heap.size W w') := fun W _ => rvalidT_any (f i).2 W (by unfold maxLen; omega)
      have HP : Hid (0 < i → ∃ j, i = j + 1 ∧ ∀ W, Below wr.heap.size wr W → W.cell? ⟨g, o + j * 2, none⟩ = some (.string (f j).1)) := (show _ → _ from fun h => by
        obtain ⟨g', o', e', _, d0, _⟩ := (HL.out.below HB.out).at (i - 1) (by omega)
        cases e'
        exact ⟨i - 1, by omega, fun W b => bcell2 b d0⟩)
      have HO : Hid (okL f i = (lbN (f i).1 && (!(f i).2.toList.isEmpty && (vld (f i).2 (f i).2.size 0 && (decide (i = 0) || Op.bytesLess (f (i - 1)).1.toList (f i).1.toList))))) := (show _ = _ from rfl)
      obtain ⟨x, hx⟩ : ∃ x, f i = x := ⟨_, rfl⟩
      rw [hx] at c0 c1 HO kA kV s1 s2
      clear hx
      obtain ⟨x1, x2⟩ := x
      dsimp only at c0 c1 kA kV
      obtain ⟨A, hA⟩ : ∃ A, lbN x1 = A := ⟨_, rfl⟩
      obtain ⟨V, hVV⟩ : ∃ V, vld x2 x2.size 0 = V := ⟨_, rfl⟩
      dsimp only at HO
      rw [hA] at kA HO
      rw [hVV] at kV HO
      clear hA hVV s1 s2
      cases A
      · have HE : Hid (v = false) := (show _ = _ from HG.out.symm.trans (by rw [HO.out]; rfl))
        go_wp2_with fail
        go_fit kA
        rintro e w1 ⟨rfl, rfl⟩
        go_wp2
        go_ret
        exact ⟨by rw [HE.out]; rfl, HB.out⟩
      · by_cases hem : x2.toList = []
        · have HE : Hid (v = false) := (show _ = _ from HG.out.symm.trans (by rw [HO.out, hem]; rfl))
          go_wp2_with fail
          go_fit kA
          rintro e w1 ⟨rfl, rfl⟩
          go_wp2
          go_ret
          exact ⟨by rw [HE.out]; rfl, HB.out⟩
        · have hie : x2.toList.isEmpty = false := by cases h : x2.toList <;> simp_all
          cases V
          · have HE : Hid (v = false) := (show _ = _ from HG.out.symm.trans (by rw [HO.out]; simp))
            go_wp2_with fail
            go_fit kA
            rintro e w1 ⟨rfl, rfl⟩
            have kV2 := kV.out w1 (Below.refl _ _)
            go_wp2_with fail
            go_fit kV2
            rintro e w2 ⟨rfl, b2⟩
            have HN2 : Hid (Below w.heap.size w w2) := HB.out.trans (b2.mono HB.out.size)
            clear b2
            go_wp2
            go_ret
            exact ⟨by rw [HE.out]; rfl, HN2.out⟩
          · go_wp2_with fail
            go_fit kA
            rintro e w1 ⟨rfl, rfl⟩
            have kV2 := kV.out w1 (Below.refl _ _)
            go_wp2_with fail
            go_fit kV2
            rintro e w2 ⟨rfl, b2⟩
            have HN2 : Hid (∀ q, Hid (Below w.heap.size w (w2.drewN q))) := (show ∀ q, _ from fun q => (show Below _ _ _ from (HB.out.trans (b2.mono HB.out.size)).trans ⟨rfl, rfl, rfl, Nat.le_refl _, fun _ _ => rfl⟩))
            have HBW : Hid (Below w1.heap.size w1 w2) := b2
            have e0 := bcell2 b2 c0
            have c1 := bcell2 b2 c1
            clear b2 kA kV kV2 c0
            rcases Nat.eq_zero_or_pos i with h0 | h0
            · subst h0
              have HE : Hid (vaF f m (0 + 1) = v) := (show _ = _ from by
                have := HG.out
                rw [HO.out] at this
                simpa [hie] using this)
              have hi1 : ¬ (0 : Int) < 0 := by omega
              go_upto_region 6 with fail
              go_big_quiet (fail)
              have HN3 : Hid (Below w.heap.size w (w2.drewN nq)) := HN2.out nq
              go_wp2
              exact ⟨⟨1, m, by go_num, by omega, HE, HN3⟩, by simp [RowKit.intOf]; omega⟩
            · obtain ⟨j, hj, d0⟩ := HP.out h0
              have d2 := d0 w2 HBW.out
              subst hj
              have hi1 : (0 : Int) < (j : Int) + 1 := by omega
              have q1 : IntKind.i64.wrap ((j : Int) + 1 - 1) = (j : Nat) := by rw [IntKind.wrap_i64]; omega
              have q2 : (0 : Int) ≤ (j : Int) + 1 := by omega
              have q3 : (j : Int) < (n : Int) := by omega
              have q4 : IntKind.i64.wrap (j : Int) = (j : Nat) := by rw [IntKind.wrap_i64]; omega
              have q5 : (0 : Int) ≤ (j : Int) := by omega
              obtain ⟨y1, hy1⟩ : ∃ y1, (f j).1 = y1 := ⟨_, rfl⟩
              rw [show j + 1 - 1 = j from rfl, hy1] at HO
              rw [hy1] at d2
              obtain ⟨bl, hbl⟩ : ∃ bl, Op.bytesLess y1.toList x1.toList = bl := ⟨_, rfl⟩
              have HBL : Hid (Op.bytesLess y1.toList x1.toList = bl) := hbl
              have HI0 : Hid (decide (j + 1 = 0) = false) := (show _ = _ from decide_eq_false (by omega))
              clear hy1 d0 HBW HP
              cases bl
              · have HE : Hid (v = false) := (show _ = _ from HG.out.symm.trans (by rw [HO.out, HI0.out, HBL.out]; simp))
                go_upto_region 6 with fail
                go_big_quiet (fail)
                have HN3 : Hid (Below w.heap.size w (w2.drewN nq)) := HN2.out nq
                go_wp2
                go_ret
                exact ⟨by rw [HE.out]; rfl, HN3.out⟩
              · have HE : Hid (vaF f m (j + 1 + 1) = v) := (show _ = _ from by
                  have := HG.out
                  rw [HO.out, HBL.out] at this
                  simpa [hie] using this)
                go_upto_region 6 with fail
                go_big_quiet (fail)
                have HN3 : Hid (Below w.heap.size w (w2.drewN nq)) := HN2.out nq
                go_wp2
                exact ⟨⟨j + 2, m, by go_num, by omega, HE, HN3⟩, by simp [RowKit.intOf]; omega⟩
    · have hii : ¬ (i : Int) < (n : Int) := by omega
      obtain rfl : k = 0 := by omega
      have HE : Hid (v = true) := hv.out.symm
      clear hv
      go_wp2
      go_ret
      exact ⟨by rw [HE.out]; rfl, HB.out⟩
end Go.Proofs.YtebjklppbkkinaaGreatDoor.R
