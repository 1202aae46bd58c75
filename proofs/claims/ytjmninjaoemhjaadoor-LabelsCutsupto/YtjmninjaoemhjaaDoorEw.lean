/- The walk of utf.Valid: a range over the text. -/
import Derived.Test.YtjmninjaoemhjaaDoorEv
import Derived.Lib.OthersKept
import Derived.WalkSmall
import Derived.LoopTactic
namespace Go.Proofs.YtjmninjaoemhjaaDoor
open Go.RowKit Go.Lib

theorem vld_bad' (s : ByteArray) (b i : Nat) (h : i < s.size) (hb : 0 < b) (hz : (nxt s i).2 = 0) : vld s b i = false := by
  obtain ⟨f, rfl⟩ : ∃ f, b = f + 1 := ⟨b - 1, by omega⟩
  exact vld_bad s f i h hz
theorem vld_good' (s : ByteArray) (b i : Nat) (h : i < s.size) (hb : 0 < b) (hz : (nxt s i).2 ≠ 0) : vld s b i = vld s (b - 1) (i + (Utf8.decode s i).2) := by
  obtain ⟨f, rfl⟩ : ∃ f, b = f + 1 := ⟨b - 1, by omega⟩
  exact vld_good s f i h hz

set_option maxRecDepth 1000000 in
set_option maxHeartbeats 1000000 in
theorem valid_any (s : ByteArray) (w : World) (hs : s.size ≤ maxLen) (hT : Lib.Utf8Tabs 1 2 w) :
    Calls Tryd.prog 28 #[.string s] w fun e w' => e = .returned (.bool (vld s s.size 0)) ∧ Below w.heap.size w w' := by
  have hsz := tabs_size hT
  have HS : Hid (s.size ≤ maxLen) := hs
  have HT : Hid (Lib.Utf8Tabs 1 2 w) := hT
  clear hs hT
  go_enter Tryd.func28, Tryd.ntmps28
  go_wp2
  go_loopw [] (fun w' => ∃ (pos b : Nat), w'.heap[w.heap.size]? = some (.stringIter s pos) ∧ Below w.heap.size w w' ∧ vld s b pos = vld s s.size 0 ∧ s.size ≤ pos + b) (fun w' => s.size - w'.iterPos w.heap.size)
  case atStart => exact ⟨0, s.size, World.iter_heap w s 0, (Below.refl _ _).alloc (Nat.le_refl _) _, rfl, by omega⟩
  case round =>
    obtain ⟨pos, b, hk, hbw, hv, hb⟩ := hrel
    by_cases hp : pos < s.size
    · have hnx : ∀ ty, (Instr.next (.pointer (some ⟨w.heap.size, 0, none⟩)) true ty).run Tryd.prog wr = _ := fun ty => run_next_any_at wr w.heap.size s pos ty hk hp
      have hwd := (decode_width s pos).1
      have hb1 : Below w.heap.size w (wr.iterAt w.heap.size s (pos + (Utf8.decode s pos).2)) := below_iterAt hbw (Nat.le_refl _) s _
      have hk1 := iterAt_heap wr w.heap.size s pos (pos + (Utf8.decode s pos).2) hk
      have cB := begins_any s pos (wr.iterAt w.heap.size s (pos + (Utf8.decode s pos).2)) HS.out (tabs_below HT.out hsz hb1) hp
      have hsz1 : w.heap.size < (wr.iterAt w.heap.size s (pos + (Utf8.decode s pos).2)).heap.size := (Array.getElem?_eq_some_iff.1 hk1).1
      generalize hW : wr.iterAt w.heap.size s (pos + (Utf8.decode s pos).2) = W at *
      obtain ⟨K, hK⟩ : ∃ K, (Utf8.decode s pos).2 = K := ⟨_, rfl⟩
      obtain ⟨R, hR⟩ : ∃ R, (Utf8.decode s pos).1 = R := ⟨_, rfl⟩
      rw [hK] at hwd hk1
      rw [hR] at hnx cB
      have HV : Hid (vld s b pos = vld s s.size 0) := hv
      have HK : Hid ((Utf8.decode s pos).2 = K) := hK
      have HW1 : Hid (W.heap[w.heap.size]? = some (.stringIter s (pos + K))) := hk1
      have HW2 : Hid (wr.heap[w.heap.size]? = some (.stringIter s pos)) := hk
      clear hv hK hk1 hW hR hk
      by_cases hz : (nxt s pos).2 = 0
      · have hd : decide ((nxt s pos).2 ≠ 0) = false := by simp [hz]
        rw [hd] at cB
        have HZ : Hid ((nxt s pos).2 = 0) := hz
        clear hd hz
        go_wp2_with (go_at_call 55; go_fit cB; rintro e w' ⟨rfl, hb2⟩)
        go_ret
        exact ⟨by rw [← HV.out, vld_bad' s b pos hp (by omega) HZ.out]; rfl, hb1.trans (hb2.mono (Nat.le_of_lt hsz1))⟩
      · have hd : decide ((nxt s pos).2 ≠ 0) = true := by simp [hz]
        rw [hd] at cB
        have HZ : Hid ((nxt s pos).2 ≠ 0) := hz
        clear hd hz
        go_wp2_with (go_at_call 55; go_fit cB; rintro e w' ⟨rfl, hb2⟩)
        go_roundw
        case rel => exact ⟨pos + K, b - 1, (hb2.block _ hsz1).trans HW1.out, hb1.trans (hb2.mono (Nat.le_of_lt hsz1)), by rw [← HV.out, vld_good' s b pos hp (by omega) HZ.out, HK.out], by omega⟩
        case measure =>
          rw [iterPos_at HW2.out, iterPos_at ((hb2.block _ hsz1).trans HW1.out)]
          omega
    · have hnx : ∀ ty, (Instr.next (.pointer (some ⟨w.heap.size, 0, none⟩)) true ty).run Tryd.prog wr = _ := fun ty => run_next_end_at wr w.heap.size s pos ty hk hp
      have HV : Hid (vld s b pos = vld s s.size 0) := hv
      have HP : Hid (¬ pos < s.size) := hp
      clear hv hk
      go_wp2
      go_ret
      exact ⟨by rw [← HV.out, vld_end s b pos HP.out]; rfl, hbw⟩
end Go.Proofs.YtjmninjaoemhjaaDoor
