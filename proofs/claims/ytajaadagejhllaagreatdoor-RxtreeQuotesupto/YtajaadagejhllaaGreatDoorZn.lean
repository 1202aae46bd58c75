import Derived.Test.YtajaadagejhllaaGreatDoorZm
import Derived.WalkLawsBesides
import Derived.WalkSpells
import Derived.WalkSmall
import Derived.Lib.OthersKept
import Derived.Deep.DeepFit
import Derived.Outline
/- The walks of the reference's Next and Valid. -/
namespace Go.Proofs.YtajaadagejhllaaGreatDoor
open Go.RowKit Go.Lib

theorem iterPos_atR {w : World} {k : Nat} {s : ByteArray} {pos : Nat} (h : w.heap[k]? = some (.stringIter s pos)) : w.iterPos k = pos := by
  unfold World.iterPos; rw [h]

theorem vld_bad' (s : ByteArray) (b i : Nat) (h : i < s.size) (hb : 0 < b) (hz : (nxt s i).2 = 0) : vld s b i = false := by
  obtain ⟨f, rfl⟩ : ∃ f, b = f + 1 := ⟨b - 1, by omega⟩
  exact vld_bad s f i h hz
theorem vld_good' (s : ByteArray) (b i : Nat) (h : i < s.size) (hb : 0 < b) (hz : (nxt s i).2 ≠ 0) : vld s b i = vld s (b - 1) (i + (Utf8.decode s i).2) := by
  obtain ⟨f, rfl⟩ : ∃ f, b = f + 1 := ⟨b - 1, by omega⟩
  exact vld_good s f i h hz
set_option maxHeartbeats 400000 in
set_option maxRecDepth 100000 in
theorem rnext_out (s : ByteArray) (a : Int) (w : World) (hs : s.size ≤ maxLen) (h : a < 0 ∨ (s.size : Int) ≤ a) :
    Calls Tryz.prog 23 #[.string s, .int .i64 a] w fun e w' => e = .returned (.tuple #[.int .i32 (-1), .int .i64 0]) ∧ Below w.heap.size w w' := by
  unfold maxLen at hs
  rcases h with h | h
  · go_enter Tryz.func23, Tryz.ntmps23
    go_wp2
    go_ret2
    exact ⟨rfl, Below.refl _ _⟩
  · have h0 : ¬ a < 0 := by omega
    go_enter Tryz.func23, Tryz.ntmps23
    go_wp2
    go_ret2
    exact ⟨rfl, Below.refl _ _⟩

theorem hit_bd (s : ByteArray) (i k : Nat) (h1 : 1 ≤ k) (h : hit s i k) : 0 ≤ gs s i k ∧ gs s i k ≤ 1114111 := by
  have hl := h.1
  rw [strOfNums_size] at hl
  by_cases hr : isRune (gs s i k) = true
  · have hq := (isRune_iff _).1 hr
    exact ⟨hq.1, hq.2.1⟩
  · unfold formL at hl
    rw [if_neg hr] at hl
    simp at hl
    omega

set_option maxHeartbeats 1000000 in
set_option maxRecDepth 100000 in
theorem rnext_in (s : ByteArray) (i : Nat) (w : World) (hs : s.size ≤ maxLen) (h : i < s.size) :
    Calls Tryz.prog 23 #[.string s, .int .i64 i] w fun e w' => e = .returned (.tuple #[.int .i32 (nxt s i).1, .int .i64 (nxt s i).2]) ∧ Below w.heap.size w w' := by
  have HS : Hid (s.size ≤ maxLen) := hs
  unfold maxLen at hs
  have h0 : ¬ (i : Int) < 0 := by omega
  have h1 : ¬ (s.size : Int) ≤ i := by omega
  have hlt : i < s.size := h
  clear h
  go_enter Tryz.func23, Tryz.ntmps23
  go_wp2
  go_loopw [6] (fun t w' => ∃ k : Nat, 1 ≤ k ∧ k ≤ 5 ∧ t = .int .i64 k ∧ Below w.heap.size w w' ∧ ∀ v, 1 ≤ v → v < k → i + v ≤ s.size → ¬ hit s i v) (fun t _ => 5 - (RowKit.intOf t).toNat)
  case atStart => exact ⟨1, by omega, by omega, rfl, Below.refl _ _, fun v a b => by omega⟩
  case round =>
    obtain ⟨k, hk1, hk5, rfl, hbw, hno⟩ := hrel
    have HN : Hid (∀ v, 1 ≤ v → v < k → i + v ≤ s.size → ¬ hit s i v) := hno
    clear hno
    by_cases hin : k ≤ 4 ∧ i + k ≤ s.size
    · obtain ⟨hk4, hik⟩ := hin
      have cG := guess_any s i k wr HS.out hk1 hk4 hik
      have cF := form_any (gs s i k) wr
      have hh : hit s i k ↔ (strOfNums (formL (gs s i k))).size = k ∧ s.extract i (i + k) = strOfNums (formL (gs s i k)) := Iff.rfl
      have hyes := ref_hit s i k hk1 hk4 hik
      have hbd := hit_bd s i k hk1
      generalize strOfNums (formL (gs s i k)) = f at *
      generalize gs s i k = g at *
      have HH : Hid (hit s i k ↔ f.size = k ∧ s.extract i (i + k) = f) := hh
      have HY : Hid (hit s i k → nxt s i = (g, (k : Int))) := hyes
      have HB : Hid (hit s i k → 0 ≤ g ∧ g ≤ 1114111) := hbd
      clear hh hyes hbd
      have t1 : (k : Int) ≤ 4 := by omega
      have t2 : (k : Int) ≤ (s.size : Int) - i := by omega
      by_cases hf : f.size = k
      · by_cases he : s.extract i (i + k) = f
        · have hfb : ((f.size : Int) == (k : Int)) = true := by rw [beq_iff_eq]; omega
          have HX : Hid (nxt s i = (g, (k : Int))) := HY.out (HH.out.2 ⟨hf, he⟩)
          obtain ⟨g0, g1⟩ := HB.out (HH.out.2 ⟨hf, he⟩)
          have heb : ((s.extract i (i + k)).toList == f.toList) = true := by rw [he]; simp
          clear he hf
          go_wp2_with (first | (go_at_call 38; go_fit cG; rintro e w' ⟨rfl, rfl⟩) | (go_at_call 39; go_fit cF; rintro e w' ⟨rfl, hb2⟩))
          go_ret2
          exact ⟨by rw [HX.out]; rfl, hbw.trans (hb2.mono hbw.size)⟩
        · have hfb : ((f.size : Int) == (k : Int)) = true := by rw [beq_iff_eq]; omega
          have HE : Hid (¬ s.extract i (i + k) = f) := he
          have heb : ((s.extract i (i + k)).toList == f.toList) = false := by
            rw [beq_eq_false_iff_ne]
            intro hq
            apply HE.out
            rw [Lib.toList_data, Lib.toList_data] at hq
            exact ByteArray.ext (Array.toList_inj.1 hq)
          clear he hf
          go_wp2_with (first | (go_at_call 38; go_fit cG; rintro e w' ⟨rfl, rfl⟩) | (go_at_call 39; go_fit cF; rintro e w' ⟨rfl, hb2⟩))
          exact ⟨⟨k + 1, by omega, by omega, by go_num, hbw.trans (hb2.mono hbw.size), fun v a b c => by
            by_cases hv : v = k
            · subst hv; intro hq; exact HE.out (HH.out.1 hq).2
            · exact HN.out v a (by omega) c⟩, by simp [RowKit.intOf]; omega⟩
      · have hfb : ((f.size : Int) == (k : Int)) = false := by rw [beq_eq_false_iff_ne]; omega
        have HF : Hid (¬ f.size = k) := hf
        clear hf
        go_wp2_with (first | (go_at_call 38; go_fit cG; rintro e w' ⟨rfl, rfl⟩) | (go_at_call 39; go_fit cF; rintro e w' ⟨rfl, hb2⟩))
        exact ⟨⟨k + 1, by omega, by omega, by go_num, hbw.trans (hb2.mono hbw.size), fun v a b c => by
          by_cases hv : v = k
          · subst hv; intro hq; exact HF.out (HH.out.1 hq).1
          · exact HN.out v a (by omega) c⟩, by simp [RowKit.intOf]; omega⟩
    · have HX : Hid (nxt s i = (-1, 0)) := ref_none s i hlt (fun v a b c => HN.out v a (by omega) c)
      by_cases hk4 : k ≤ 4
      · have t1 : (k : Int) ≤ 4 := by omega
        have t2 : ¬ (k : Int) ≤ (s.size : Int) - i := by omega
        clear hin
        go_wp2
        go_ret2
        exact ⟨by rw [HX.out]; rfl, hbw⟩
      · have t1 : ¬ (k : Int) ≤ 4 := by omega
        clear hin
        go_wp2
        go_ret2
        exact ⟨by rw [HX.out]; rfl, hbw⟩

theorem rnext_any (s : ByteArray) (a : Int) (w : World) (hs : s.size ≤ maxLen) :
    Calls Tryz.prog 23 #[.string s, .int .i64 a] w fun e w' => e = .returned (.tuple #[.int .i32 (nxtZ s a).1, .int .i64 (nxtZ s a).2]) ∧ Below w.heap.size w w' := by
  by_cases h0 : a < 0
  · have e1 : nxtZ s a = (-1, 0) := by unfold nxtZ; rw [if_neg (by omega)]
    rw [e1]
    exact rnext_out s a w hs (Or.inl h0)
  · obtain ⟨i, rfl⟩ := Int.eq_ofNat_of_zero_le (show 0 ≤ a by omega)
    have e1 : nxtZ s (i : Int) = nxt s i := by unfold nxtZ; rw [if_pos (by omega)]; simp
    rw [e1]
    by_cases h1 : i < s.size
    · exact rnext_in s i w hs h1
    · rw [nxt_out s i (by omega)]
      exact rnext_out s i w hs (Or.inr (by omega))

theorem decode_le_size (s : ByteArray) (i : Nat) (h : i < s.size) : i + (Utf8.decode s i).2 ≤ s.size := by
  rw [decode_at]
  unfold decodeN
  repeat' split
  all_goals simp
  all_goals omega

end Go.Proofs.YtajaadagejhllaaGreatDoor
