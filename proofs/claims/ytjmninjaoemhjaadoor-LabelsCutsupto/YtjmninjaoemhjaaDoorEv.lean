/- The walks of utf.Next and utf.begins. -/
import Derived.Test.YtjmninjaoemhjaaDoorSu
import Derived.Test.YtjmninjaoemhjaaDoorEu
import Derived.WalkKit
import Derived.WalkLawsBesides
import Derived.WalkSpells
import Derived.Below
import Derived.Deep.DeepFit
import Derived.Outline
namespace Go.Proofs.YtjmninjaoemhjaaDoor
open Go.RowKit Go.Lib

theorem decodeGo_extract (s : ByteArray) (i : Nat) (h : i < s.size) : Lib.decodeGo (s.extract i s.size) = Utf8.decode s i := by
  unfold Lib.decodeGo
  rw [if_neg (by simp; omega), decode_extract]

set_option maxHeartbeats 400000 in
theorem next_out (s : ByteArray) (a : Int) (w : World) (hs : s.size ≤ maxLen) (h : a < 0 ∨ (s.size : Int) ≤ a) :
    Calls Tryd.prog 73 #[.string s, .int .i64 a] w fun e w' => e = .returned (.tuple #[.int .i32 (-1), .int .i64 0]) ∧ Below w.heap.size w w' := by
  unfold maxLen at hs
  rcases h with h | h
  · go_enter Tryd.func73, Tryd.ntmps73
    go_wp2
    go_ret2
    exact ⟨rfl, Below.refl _ _⟩
  · have h0 : ¬ a < 0 := by omega
    go_enter Tryd.func73, Tryd.ntmps73
    go_wp2
    go_ret2
    exact ⟨rfl, Below.refl _ _⟩

set_option maxHeartbeats 400000 in
theorem next_in (s : ByteArray) (i : Nat) (w : World) (_hs : s.size ≤ maxLen) (hT : Lib.Utf8Tabs 1 2 w) (h : i < s.size) :
    Calls Tryd.prog 73 #[.string s, .int .i64 i] w fun e w' => e = .returned (.tuple #[.int .i32 (nxt s i).1, .int .i64 (nxt s i).2]) ∧ Below w.heap.size w w' := by
  unfold maxLen at _hs
  have h0 : ¬ (i : Int) < 0 := by omega
  have h1 : ¬ (s.size : Int) ≤ i := by omega
  have hd := decodeGo_extract s i h
  have HT : Hid (Lib.Utf8Tabs 1 2 w) := hT
  obtain ⟨R, hR⟩ : ∃ R, (Utf8.decode s i).1 = R := ⟨_, rfl⟩
  obtain ⟨K, hK⟩ : ∃ K, (Utf8.decode s i).2 = K := ⟨_, rfl⟩
  have hn : nxt s i = if R = 65533 ∧ K = 1 then (-1, 0) else ((R : Int), (K : Int)) := by
    unfold nxt; rw [if_pos h, hR, hK]
  have cD := Tryd.utf8_DecodeRuneInString (s.extract i s.size) w hT
  rw [hd, hR, hK] at cD
  clear hd hT hR hK
  by_cases hr : R = 65533
  · by_cases hk : K = 1
    · rw [hn, if_pos ⟨hr, hk⟩]
      clear hn
      subst hr; subst hk
      go_enter Tryd.func73, Tryd.ntmps73
      go_wp2_with (go_at_call 101; go_fit cD; rintro e w' ⟨rfl, hb⟩)
      all_goals go_ret2
      all_goals exact ⟨rfl, hb⟩
    · have hkb : ((K : Int) == 1) = false := by rw [beq_eq_false_iff_ne]; omega
      rw [hn, if_neg (fun h => hk h.2)]
      clear hn hk
      subst hr
      go_enter Tryd.func73, Tryd.ntmps73
      go_wp2_with (go_at_call 101; go_fit cD; rintro e w' ⟨rfl, hb⟩)
      go_ret2
      exact ⟨rfl, hb⟩
  · have hrb : ((R : Int) == 65533) = false := by rw [beq_eq_false_iff_ne]; omega
    rw [hn, if_neg (fun h => hr h.1)]
    clear hn hr
    go_enter Tryd.func73, Tryd.ntmps73
    go_wp2_with (go_at_call 101; go_fit cD; rintro e w' ⟨rfl, hb⟩)
    go_ret2
    exact ⟨rfl, hb⟩

theorem next_any (s : ByteArray) (a : Int) (w : World) (hs : s.size ≤ maxLen) (hT : Lib.Utf8Tabs 1 2 w) :
    Calls Tryd.prog 73 #[.string s, .int .i64 a] w fun e w' => e = .returned (.tuple #[.int .i32 (nxtZ s a).1, .int .i64 (nxtZ s a).2]) ∧ Below w.heap.size w w' := by
  by_cases h0 : a < 0
  · have e1 : nxtZ s a = (-1, 0) := by unfold nxtZ; rw [if_neg (by omega)]
    rw [e1]
    exact next_out s a w hs (Or.inl h0)
  · obtain ⟨i, rfl⟩ := Int.eq_ofNat_of_zero_le (show 0 ≤ a by omega)
    have e1 : nxtZ s (i : Int) = nxt s i := by unfold nxtZ; rw [if_pos (by omega)]; simp
    rw [e1]
    by_cases h1 : i < s.size
    · exact next_in s i w hs hT h1
    · rw [nxt_out s i (by omega)]
      exact next_out s i w hs (Or.inr (by omega))

/-! The tables stand in every later world. -/
theorem lt_of_cell {w : World} {b o : Nat} {v : Value} (h : w.cell? ⟨b, o, none⟩ = some v) : b < w.heap.size := by
  unfold World.cell? at h
  by_cases hb : b < w.heap.size
  · exact hb
  · rw [Array.getElem?_eq_none (by simpa using hb)] at h
    cases h
theorem tabs_size {w : World} (h : Lib.Utf8Tabs 1 2 w) : 2 < w.heap.size := lt_of_cell (h.2 0 (by omega)).1
theorem tabs_below {w w' : World} {B : Nat} (h : Lib.Utf8Tabs 1 2 w) (hB : 2 < B) (hb : Below B w w') : Lib.Utf8Tabs 1 2 w' :=
  ⟨fun c hc => by rw [hb.cell (show (1 : Nat) < B by omega)]; exact h.1 c hc, fun i hi => ⟨by rw [hb.cell (show (2 : Nat) < B by omega)]; exact (h.2 i hi).1, by rw [hb.cell (show (2 : Nat) < B by omega)]; exact (h.2 i hi).2⟩⟩

set_option maxHeartbeats 400000 in
theorem begins_any (s : ByteArray) (i : Nat) (w : World) (hs : s.size ≤ maxLen) (hT : Lib.Utf8Tabs 1 2 w) (h : i < s.size) :
    Calls Tryd.prog 55 #[.string s, .int .i64 i, .int .i32 (Utf8.decode s i).1] w fun e w' => e = .returned (.bool (decide ((nxt s i).2 ≠ 0))) ∧ Below w.heap.size w w' := by
  have hno := nxt_no s i h
  have hp := nxt_pos s i
  have cN := next_in s i w hs hT h
  obtain ⟨R, hR⟩ : ∃ R, (Utf8.decode s i).1 = R := ⟨_, rfl⟩
  rw [hR] at hno ⊢
  clear hs hT
  by_cases hr : R = 65533
  · subst hr
    obtain ⟨X, hX⟩ : ∃ X, (nxt s i).1 = X := ⟨_, rfl⟩
    obtain ⟨Y, hY⟩ : ∃ Y, (nxt s i).2 = Y := ⟨_, rfl⟩
    rw [hX, hY] at cN
    rw [hY] at hp ⊢
    clear hno hX hY hR
    obtain ⟨b, hb⟩ : ∃ b, decide (Y ≠ 0) = b := ⟨_, rfl⟩
    have hb' : decide (0 < Y) = b := by rw [← hb]; apply decide_eq_decide.2; omega
    rw [hb]
    have HB : Hid (decide (Y ≠ 0) = b) := hb
    clear hb
    cases b
    all_goals
      go_enter Tryd.func55, Tryd.ntmps55
      go_wp2_with (go_at_call 73; go_fit cN; rintro e w' ⟨rfl, hb⟩)
      go_ret
      exact ⟨rfl, hb⟩
  · have hrb : ((R : Int) != 65533) = true := by rw [bne_iff_ne]; omega
    have hb : decide ((nxt s i).2 ≠ 0) = true := by simp only [decide_eq_true_eq]; intro h2; exact hr (hno.1 h2).1
    rw [hb]
    clear hno cN hR hp hb hr
    go_enter Tryd.func55, Tryd.ntmps55
    go_wp2
    go_ret
    exact ⟨rfl, Below.refl _ _⟩
end Go.Proofs.YtjmninjaoemhjaaDoor
