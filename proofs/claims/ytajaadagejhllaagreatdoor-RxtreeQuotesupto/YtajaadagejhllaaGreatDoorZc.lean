/- utf's Next, Valid, Runes of any text. -/
import Derived.Test.YtajaadagejhllaaGreatDoorBs24
import Derived.Test.YtajaadagejhllaaGreatDoorZs
import Derived.WalkKit
import Derived.WalkLawsBesides
import Derived.WalkSpells
import Derived.Below
import Derived.Deep.DeepFit
import Derived.Outline
import Derived.Lib.OthersKept
import Derived.WalkSmall
import Derived.LoopTactic
import Derived.Deep.QuietTactic
import Derived.BigQuiet
import Derived.Laws.IdiomStrings
import Derived.WideShapes
namespace Go.Proofs.YtajaadagejhllaaGreatDoor
open Go.RowKit Go.Lib

theorem vld_badQ (s : ByteArray) (b i : Nat) (h : i < s.size) (hb : 0 < b) (hz : (nxt s i).2 = 0) : vld s b i = false := by
  obtain ⟨f, rfl⟩ : ∃ f, b = f + 1 := ⟨b - 1, by omega⟩
  exact vld_bad s f i h hz
theorem vld_goodQ (s : ByteArray) (b i : Nat) (h : i < s.size) (hb : 0 < b) (hz : (nxt s i).2 ≠ 0) : vld s b i = vld s (b - 1) (i + (Utf8.decode s i).2) := by
  obtain ⟨f, rfl⟩ : ∃ f, b = f + 1 := ⟨b - 1, by omega⟩
  exact vld_good s f i h hz
theorem decodeGo_extract (s : ByteArray) (i : Nat) (h : i < s.size) : Lib.decodeGo (s.extract i s.size) = Utf8.decode s i := by
  unfold Lib.decodeGo
  rw [if_neg (by simp; omega), decode_extract]

set_option maxHeartbeats 400000 in
theorem next_out (s : ByteArray) (a : Int) (w : World) (hs : s.size ≤ maxLen) (h : a < 0 ∨ (s.size : Int) ≤ a) :
    Calls Tryz.prog 94 #[.string s, .int .i64 a] w fun e w' => e = .returned (.tuple #[.int .i32 (-1), .int .i64 0]) ∧ Below w.heap.size w w' := by
  unfold maxLen at hs
  rcases h with h | h
  · go_enter Tryz.func94, Tryz.ntmps94
    go_wp2
    go_ret2
    exact ⟨rfl, Below.refl _ _⟩
  · have h0 : ¬ a < 0 := by omega
    go_enter Tryz.func94, Tryz.ntmps94
    go_wp2
    go_ret2
    exact ⟨rfl, Below.refl _ _⟩

set_option maxHeartbeats 400000 in
theorem next_in (s : ByteArray) (i : Nat) (w : World) (_hs : s.size ≤ maxLen) (hT : Lib.Utf8Tabs 2 3 w) (h : i < s.size) :
    Calls Tryz.prog 94 #[.string s, .int .i64 i] w fun e w' => e = .returned (.tuple #[.int .i32 (nxt s i).1, .int .i64 (nxt s i).2]) ∧ Below w.heap.size w w' := by
  unfold maxLen at _hs
  have h0 : ¬ (i : Int) < 0 := by omega
  have h1 : ¬ (s.size : Int) ≤ i := by omega
  have hd := decodeGo_extract s i h
  have HT : Hid (Lib.Utf8Tabs 2 3 w) := hT
  obtain ⟨R, hR⟩ : ∃ R, (Utf8.decode s i).1 = R := ⟨_, rfl⟩
  obtain ⟨K, hK⟩ : ∃ K, (Utf8.decode s i).2 = K := ⟨_, rfl⟩
  have hn : nxt s i = if R = 65533 ∧ K = 1 then (-1, 0) else ((R : Int), (K : Int)) := by
    unfold nxt; rw [if_pos h, hR, hK]
  have cD := Tryz.utf8_DecodeRuneInString (s.extract i s.size) w hT
  rw [hd, hR, hK] at cD
  clear hd hT hR hK
  by_cases hr : R = 65533
  · by_cases hk : K = 1
    · rw [hn, if_pos ⟨hr, hk⟩]
      clear hn
      subst hr; subst hk
      go_enter Tryz.func94, Tryz.ntmps94
      go_wp2_with (go_at_call 108; go_fit cD; rintro e w' ⟨rfl, hb⟩)
      all_goals go_ret2
      all_goals exact ⟨rfl, hb⟩
    · have hkb : ((K : Int) == 1) = false := by rw [beq_eq_false_iff_ne]; omega
      rw [hn, if_neg (fun h => hk h.2)]
      clear hn hk
      subst hr
      go_enter Tryz.func94, Tryz.ntmps94
      go_wp2_with (go_at_call 108; go_fit cD; rintro e w' ⟨rfl, hb⟩)
      go_ret2
      exact ⟨rfl, hb⟩
  · have hrb : ((R : Int) == 65533) = false := by rw [beq_eq_false_iff_ne]; omega
    rw [hn, if_neg (fun h => hr h.1)]
    clear hn hr
    go_enter Tryz.func94, Tryz.ntmps94
    go_wp2_with (go_at_call 108; go_fit cD; rintro e w' ⟨rfl, hb⟩)
    go_ret2
    exact ⟨rfl, hb⟩

theorem next_any (s : ByteArray) (a : Int) (w : World) (hs : s.size ≤ maxLen) (hT : Lib.Utf8Tabs 2 3 w) :
    Calls Tryz.prog 94 #[.string s, .int .i64 a] w fun e w' => e = .returned (.tuple #[.int .i32 (nxtZ s a).1, .int .i64 (nxtZ s a).2]) ∧ Below w.heap.size w w' := by
  by_cases h0 : a < 0
  · have e1 : nxtZ s a = (-1, 0) := by unfold nxtZ; rw [if_neg (by omega)]
    rw [e1]
    exact next_out s a w hs (Or.inl h0)
  · obtain ⟨i, rfl⟩ := Int.eq_ofNat_of_zero_le (show 0 ≤ a by omega)
    have e1 : nxtZ s (i : Int) = nxt s i := by unfold nxtZ; rw [if_pos (by omega)]; simp
    rw [e1]
    by_cases h1 : i < s.size
    · exact next_in s i w hs hT h1
    · rw [nxt_out s i (by omega)]
      exact next_out s i w hs (Or.inr (by omega))

/-! The tables stand in every later world. -/
theorem lt_of_cell {w : World} {b o : Nat} {v : Value} (h : w.cell? ⟨b, o, none⟩ = some v) : b < w.heap.size := by
  unfold World.cell? at h
  by_cases hb : b < w.heap.size
  · exact hb
  · rw [Array.getElem?_eq_none (by simpa using hb)] at h
    cases h
theorem tabs_size {w : World} (h : Lib.Utf8Tabs 2 3 w) : 3 < w.heap.size := lt_of_cell (h.2 0 (by omega)).1
theorem tabs_below {w w' : World} {B : Nat} (h : Lib.Utf8Tabs 2 3 w) (hB : 3 < B) (hb : Below B w w') : Lib.Utf8Tabs 2 3 w' :=
  ⟨fun c hc => by rw [hb.cell (show (2 : Nat) < B by omega)]; exact h.1 c hc, fun i hi => ⟨by rw [hb.cell (show (3 : Nat) < B by omega)]; exact (h.2 i hi).1, by rw [hb.cell (show (3 : Nat) < B by omega)]; exact (h.2 i hi).2⟩⟩

set_option maxHeartbeats 400000 in
theorem begins_any (s : ByteArray) (i : Nat) (w : World) (hs : s.size ≤ maxLen) (hT : Lib.Utf8Tabs 2 3 w) (h : i < s.size) :
    Calls Tryz.prog 79 #[.string s, .int .i64 i, .int .i32 (Utf8.decode s i).1] w fun e w' => e = .returned (.bool (decide ((nxt s i).2 ≠ 0))) ∧ Below w.heap.size w w' := by
  have hno := nxt_no s i h
  have hp := nxt_pos s i
  have cN := next_in s i w hs hT h
  obtain ⟨R, hR⟩ : ∃ R, (Utf8.decode s i).1 = R := ⟨_, rfl⟩
  rw [hR] at hno ⊢
  clear hs hT
  by_cases hr : R = 65533
  · subst hr
    obtain ⟨X, hX⟩ : ∃ X, (nxt s i).1 = X := ⟨_, rfl⟩
    obtain ⟨Y, hY⟩ : ∃ Y, (nxt s i).2 = Y := ⟨_, rfl⟩
    rw [hX, hY] at cN
    rw [hY] at hp ⊢
    clear hno hX hY hR
    obtain ⟨b, hb⟩ : ∃ b, decide (Y ≠ 0) = b := ⟨_, rfl⟩
    have hb' : decide (0 < Y) = b := by rw [← hb]; apply decide_eq_decide.2; omega
    rw [hb]
    have HB : Hid (decide (Y ≠ 0) = b) := hb
    clear hb
    cases b
    all_goals
      go_enter Tryz.func79, Tryz.ntmps79
      go_wp2_with (go_at_call 94; go_fit cN; rintro e w' ⟨rfl, hb⟩)
      go_ret
      exact ⟨rfl, hb⟩
  · have hrb : ((R : Int) != 65533) = true := by rw [bne_iff_ne]; omega
    have hb : decide ((nxt s i).2 ≠ 0) = true := by simp only [decide_eq_true_eq]; intro h2; exact hr (hno.1 h2).1
    rw [hb]
    clear hno cN hR hp hb hr
    go_enter Tryz.func79, Tryz.ntmps79
    go_wp2
    go_ret
    exact ⟨rfl, Below.refl _ _⟩
set_option maxRecDepth 1000000 in
set_option maxHeartbeats 1000000 in
theorem uvalid_any (s : ByteArray) (w : World) (hs : s.size ≤ maxLen) (hT : Lib.Utf8Tabs 2 3 w) :
    Calls Tryz.prog 62 #[.string s] w fun e w' => e = .returned (.bool (vld s s.size 0)) ∧ Below w.heap.size w w' := by
  have hsz := tabs_size hT
  have HS : Hid (s.size ≤ maxLen) := hs
  have HT : Hid (Lib.Utf8Tabs 2 3 w) := hT
  clear hs hT
  go_enter Tryz.func62, Tryz.ntmps62
  go_wp2
  go_loopw [] (fun w' => ∃ (pos b : Nat), w'.heap[w.heap.size]? = some (.stringIter s pos) ∧ Below w.heap.size w w' ∧ vld s b pos = vld s s.size 0 ∧ s.size ≤ pos + b) (fun w' => s.size - w'.iterPos w.heap.size)
  case atStart => exact ⟨0, s.size, World.iter_heap w s 0, (Below.refl _ _).alloc (Nat.le_refl _) _, rfl, by omega⟩
  case round =>
    obtain ⟨pos, b, hk, hbw, hv, hb⟩ := hrel
    by_cases hp : pos < s.size
    · have hnx : ∀ ty, (Instr.next (.pointer (some ⟨w.heap.size, 0, none⟩)) true ty).run Tryz.prog wr = _ := fun ty => run_next_any_at wr w.heap.size s pos ty hk hp
      have hwd := (decode_width s pos).1
      have hb1 : Below w.heap.size w (wr.iterAt w.heap.size s (pos + (Utf8.decode s pos).2)) := below_iterAt hbw (Nat.le_refl _) s _
      have hk1 := iterAt_heap wr w.heap.size s pos (pos + (Utf8.decode s pos).2) hk
      have cB := begins_any s pos (wr.iterAt w.heap.size s (pos + (Utf8.decode s pos).2)) HS.out (tabs_below HT.out hsz hb1) hp
      have hsz1 : w.heap.size < (wr.iterAt w.heap.size s (pos + (Utf8.decode s pos).2)).heap.size := (Array.getElem?_eq_some_iff.1 hk1).1
      generalize hW : wr.iterAt w.heap.size s (pos + (Utf8.decode s pos).2) = W at *
      obtain ⟨K, hK⟩ : ∃ K, (Utf8.decode s pos).2 = K := ⟨_, rfl⟩
      obtain ⟨R, hR⟩ : ∃ R, (Utf8.decode s pos).1 = R := ⟨_, rfl⟩
      rw [hK] at hwd hk1
      rw [hR] at hnx cB
      have HV : Hid (vld s b pos = vld s s.size 0) := hv
      have HK : Hid ((Utf8.decode s pos).2 = K) := hK
      have HW1 : Hid (W.heap[w.heap.size]? = some (.stringIter s (pos + K))) := hk1
      have HW2 : Hid (wr.heap[w.heap.size]? = some (.stringIter s pos)) := hk
      clear hv hK hk1 hW hR hk
      by_cases hz : (nxt s pos).2 = 0
      · have hd : decide ((nxt s pos).2 ≠ 0) = false := by simp [hz]
        rw [hd] at cB
        have HZ : Hid ((nxt s pos).2 = 0) := hz
        clear hd hz
        go_wp2_with (go_at_call 79; go_fit cB; rintro e w' ⟨rfl, hb2⟩)
        go_ret
        exact ⟨by rw [← HV.out, vld_badQ s b pos hp (by omega) HZ.out]; rfl, hb1.trans (hb2.mono (Nat.le_of_lt hsz1))⟩
      · have hd : decide ((nxt s pos).2 ≠ 0) = true := by simp [hz]
        rw [hd] at cB
        have HZ : Hid ((nxt s pos).2 ≠ 0) := hz
        clear hd hz
        go_wp2_with (go_at_call 79; go_fit cB; rintro e w' ⟨rfl, hb2⟩)
        go_roundw
        case rel => exact ⟨pos + K, b - 1, (hb2.block _ hsz1).trans HW1.out, hb1.trans (hb2.mono (Nat.le_of_lt hsz1)), by rw [← HV.out, vld_goodQ s b pos hp (by omega) HZ.out, HK.out], by omega⟩
        case measure =>
          rw [iterPos_atQ HW2.out, iterPos_atQ ((hb2.block _ hsz1).trans HW1.out)]
          omega
    · have hnx : ∀ ty, (Instr.next (.pointer (some ⟨w.heap.size, 0, none⟩)) true ty).run Tryz.prog wr = _ := fun ty => run_next_end_at wr w.heap.size s pos ty hk hp
      have HV : Hid (vld s b pos = vld s s.size 0) := hv
      have HP : Hid (¬ pos < s.size) := hp
      clear hv hk
      go_wp2
      go_ret
      exact ⟨by rw [← HV.out, vld_end s b pos HP.out]; rfl, hbw⟩
theorem runesFrom_eq (s : ByteArray) : ∀ (f i : Nat) (acc : Array Value), Conv.runesFrom s f i acc = acc ++ (rcells (rns s f i)).toArray
  | 0, _, acc => by simp [Conv.runesFrom, rns, rcells]
  | f + 1, i, acc => by
    unfold Conv.runesFrom
    by_cases h : i < s.size
    · rw [if_pos h]
      show Conv.runesFrom s f (i + (Utf8.decode s i).2) (acc.push (.int .i32 (Int.ofNat (Utf8.decode s i).1))) = _
      rw [runesFrom_eq s f]
      simp only [rns, if_pos h, rcells, List.map_cons]
      simp
    · rw [if_neg h, rns_end s (f + 1) i h]
      simp [rcells]
theorem rns_len (s : ByteArray) : ∀ (f i : Nat), (rns s f i).length ≤ f
  | 0, _ => Nat.le_refl _
  | f + 1, i => by
    unfold rns
    split
    · have := rns_len s f (i + (Utf8.decode s i).2); simp; omega
    · simp

theorem owns_new (w1 : World) (B cap : Nat) (xs : List Int) (h : xs.length ≤ cap) (hm : cap ≤ maxLen) (hB : B ≤ w1.heap.size) :
    ((w1.alloc (Obj.cells ((rcells xs).toArray ++ Array.replicate (cap - xs.length) (Value.int .i32 0)) 21)).drew).ownsRow B 21 1 (.slice (some ⟨w1.heap.size, 0, none⟩) xs.length cap) xs.length (rcells xs) := by
  refine ⟨by simp [rcells], .inr ⟨w1.heap.size, cap, _, rfl, hB, heap_alloc_new w1 _, h, hm, ?_, ?_⟩⟩
  · simp [rcells]; omega
  · rw [Nat.mul_one]
    simp [rcells]

set_option maxHeartbeats 400000 in
theorem runes_any (s : ByteArray) (w : World) (hs : s.size ≤ 70368744177664) (hT : Lib.Utf8Tabs 2 3 w) (hv : vld s s.size 0 = true) :
    Calls Tryz.prog 45 #[.string s] w fun e w' => ∃ g cap, e = .returned (.tuple #[.slice (some ⟨g, 0, none⟩) (rns s s.size 0).length cap, .int .i64 0]) ∧
      w'.ownsRow w.heap.size 21 1 (.slice (some ⟨g, 0, none⟩) (rns s s.size 0).length cap) (rns s s.size 0).length (rcells (rns s s.size 0)) ∧ Below w.heap.size w w' := by
  have k1 := uvalid_any s w (by unfold maxLen; omega) hT
  rw [hv] at k1
  have hlen := rns_len s s.size 0
  have hrun := fun w1 : World => run_runes_of_string (P := Tryz.prog) w1 9 70 21 s Tryz.underlying9 Tryz.underlying70 Tryz.underlying21 (by rw [runesFrom_eq]; simp [rcells]; omega)
  have he : Conv.runesFrom s s.size 0 #[] = (rcells (rns s s.size 0)).toArray := by rw [runesFrom_eq]; simp
  have hsz : (Conv.runesFrom s s.size 0 #[]).size = (rns s s.size 0).length := by rw [he]; simp [rcells]
  rw [he] at hrun hsz
  rw [hsz] at hrun
  clear he hsz hT hv
  generalize rns s s.size 0 = xs at *
  have HL : Hid (xs.length ≤ 70368744177664) := by show _ ≤ _; omega
  clear hlen hs
  go_enter Tryz.func45, Tryz.ntmps45
  go_wp2_with (go_at_call 62; go_fit k1; rintro e w1 ⟨rfl, hb⟩)
  go_ret2
  exact ⟨w1.heap.size, _, rfl, owns_new w1 w.heap.size _ xs (grownCap_ge w1 xs.length 0 21) (grownCap_le_maxLen w1 xs.length 0 21 (by have := HL.out; unfold maxLen; omega)) hb.size, (hb.alloc hb.size _).drew⟩

end Go.Proofs.YtajaadagejhllaaGreatDoor
