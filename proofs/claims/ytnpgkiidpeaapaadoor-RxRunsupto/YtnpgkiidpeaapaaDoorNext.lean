/- The walks of utf.Next and utf.begins. -/
import Derived.Test.YtnpgkiidpeaapaaDoorShelf
import Derived.Test.YtnpgkiidpeaapaaDoorUtf
import Derived.WalkKit
import Derived.WalkLawsBesides
import Derived.WalkSpells
import Derived.Below
import Derived.Deep.DeepFit
import Derived.Outline
namespace Go.Proofs.YtnpgkiidpeaapaaDoor
open Go.RowKit Go.Lib

theorem decodeGo_extract (s : ByteArray) (i : Nat) (h : i < s.size) : Lib.decodeGo (s.extract i s.size) = Utf8.decode s i := by
  unfold Lib.decodeGo
  rw [if_neg (by simp; omega), decode_extract]

set_option maxHeartbeats 400000 in
theorem next_out (s : ByteArray) (a : Int) (w : World) (hs : s.size ≤ maxLen) (h : a < 0 ∨ (s.size : Int) ≤ a) :
    Calls Tryd.prog 37 #[.string s, .int .i64 a] w fun e w' => e = .returned (.tuple #[.int .i32 (-1), .int .i64 0]) ∧ Below w.heap.size w w' := by
  unfold maxLen at hs
  rcases h with h | h
  · go_enter Tryd.func37, Tryd.ntmps37
    go_wp2
    go_ret2
    exact ⟨rfl, Below.refl _ _⟩
  · have h0 : ¬ a < 0 := by omega
    go_enter Tryd.func37, Tryd.ntmps37
    go_wp2
    go_ret2
    exact ⟨rfl, Below.refl _ _⟩

set_option maxHeartbeats 400000 in
theorem next_in (s : ByteArray) (i : Nat) (w : World) (_hs : s.size ≤ maxLen) (hT : Lib.Utf8Tabs 0 1 w) (h : i < s.size) :
    Calls Tryd.prog 37 #[.string s, .int .i64 i] w fun e w' => e = .returned (.tuple #[.int .i32 (nxt s i).1, .int .i64 (nxt s i).2]) ∧ Below w.heap.size w w' := by
  unfold maxLen at _hs
  have h0 : ¬ (i : Int) < 0 := by omega
  have h1 : ¬ (s.size : Int) ≤ i := by omega
  have hd := decodeGo_extract s i h
  have HT : Hid (Lib.Utf8Tabs 0 1 w) := hT
  obtain ⟨R, hR⟩ : ∃ R, (Utf8.decode s i).1 = R := ⟨_, rfl⟩
  obtain ⟨K, hK⟩ : ∃ K, (Utf8.decode s i).2 = K := ⟨_, rfl⟩
  have hn : nxt s i = if R = 65533 ∧ K = 1 then (-1, 0) else ((R : Int), (K : Int)) := by
    unfold nxt; rw [if_pos h, hR, hK]
  have cD := Tryd.utf8_DecodeRuneInString (s.extract i s.size) w hT
  rw [hd, hR, hK] at cD
  clear hd hT hR hK
  by_cases hr : R = 65533
  · by_cases hk : K = 1
    · rw [hn, if_pos ⟨hr, hk⟩]
      clear hn
      subst hr; subst hk
      go_enter Tryd.func37, Tryd.ntmps37
      go_wp2_with (go_at_call 42; go_fit cD; rintro e w' ⟨rfl, hb⟩)
      all_goals go_ret2
      all_goals exact ⟨rfl, hb⟩
    · have hkb : ((K : Int) == 1) = false := by rw [beq_eq_false_iff_ne]; omega
      rw [hn, if_neg (fun h => hk h.2)]
      clear hn hk
      subst hr
      go_enter Tryd.func37, Tryd.ntmps37
      go_wp2_with (go_at_call 42; go_fit cD; rintro e w' ⟨rfl, hb⟩)
      go_ret2
      exact ⟨rfl, hb⟩
  · have hrb : ((R : Int) == 65533) = false := by rw [beq_eq_false_iff_ne]; omega
    rw [hn, if_neg (fun h => hr h.1)]
    clear hn hr
    go_enter Tryd.func37, Tryd.ntmps37
    go_wp2_with (go_at_call 42; go_fit cD; rintro e w' ⟨rfl, hb⟩)
    go_ret2
    exact ⟨rfl, hb⟩

theorem next_any (s : ByteArray) (a : Int) (w : World) (hs : s.size ≤ maxLen) (hT : Lib.Utf8Tabs 0 1 w) :
    Calls Tryd.prog 37 #[.string s, .int .i64 a] w fun e w' => e = .returned (.tuple #[.int .i32 (nxtZ s a).1, .int .i64 (nxtZ s a).2]) ∧ Below w.heap.size w w' := by
  by_cases h0 : a < 0
  · have e1 : nxtZ s a = (-1, 0) := by unfold nxtZ; rw [if_neg (by omega)]
    rw [e1]
    exact next_out s a w hs (Or.inl h0)
  · obtain ⟨i, rfl⟩ := Int.eq_ofNat_of_zero_le (show 0 ≤ a by omega)
    have e1 : nxtZ s (i : Int) = nxt s i := by unfold nxtZ; rw [if_pos (by omega)]; simp
    rw [e1]
    by_cases h1 : i < s.size
    · exact next_in s i w hs hT h1
    · rw [nxt_out s i (by omega)]
      exact next_out s i w hs (Or.inr (by omega))

/-! The tables stand in every later world. -/
theorem lt_of_cell {w : World} {b o : Nat} {v : Value} (h : w.cell? ⟨b, o, none⟩ = some v) : b < w.heap.size := by
  unfold World.cell? at h
  by_cases hb : b < w.heap.size
  · exact hb
  · rw [Array.getElem?_eq_none (by simpa using hb)] at h
    cases h
theorem tabs_size {w : World} (h : Lib.Utf8Tabs 0 1 w) : 1 < w.heap.size := lt_of_cell (h.2 0 (by omega)).1
theorem tabs_below {w w' : World} {B : Nat} (h : Lib.Utf8Tabs 0 1 w) (hB : 1 < B) (hb : Below B w w') : Lib.Utf8Tabs 0 1 w' :=
  ⟨fun c hc => by rw [hb.cell (show (0 : Nat) < B by omega)]; exact h.1 c hc, fun i hi => ⟨by rw [hb.cell (show (1 : Nat) < B by omega)]; exact (h.2 i hi).1, by rw [hb.cell (show (1 : Nat) < B by omega)]; exact (h.2 i hi).2⟩⟩

end Go.Proofs.YtnpgkiidpeaapaaDoor
