/- A bundle of texts. -/
import Derived.Test.YtajaadagejhllaaGreatDoorBs02
import Derived.Lib.OthersKept
import Derived.Lib.TrimU
import Derived.Deep.LoopGhost
/- Trees: isName. -/
namespace Go.Proofs.YtajaadagejhllaaGreatDoor
open Go.RowKit

def nmF (s : ByteArray) : Nat → Nat → Bool
  | 0, _ => true
  | g + 1, pos => if pos < s.size then wdB ((Utf8.decode s pos).1 : Int) && nmF s g (pos + (Utf8.decode s pos).2) else true
/-- Is each rune of a text a letter, a digit or '_'? -/
def nmB (s : ByteArray) : Bool := nmF s s.size 0
theorem nmF_end (s : ByteArray) (g pos : Nat) (h : ¬ pos < s.size) : nmF s g pos = true := by
  cases g with
  | zero => rfl
  | succ g => unfold nmF; rw [if_neg h]

set_option maxHeartbeats 2000000 in
set_option maxRecDepth 1000000 in
theorem indexFunc_any (s : ByteArray) (w : World) :
    Calls Tryz.prog 118 #[.string s, .func (.func 101) #[] #[], .bool true] w fun e w' => (∃ i : Int, e = .returned (.int .i64 i) ∧ decide (i < 0) = nmB s) ∧ Below w.heap.size w w' := by
  go_enter Tryz.func118, Tryz.ntmps118
  go_wp2
  go_loopg [] s.size (fun g wx => ∃ pos : Nat, wx.heap[w.heap.size]? = some (.stringIter s pos) ∧ Below w.heap.size w wx ∧ Hid (nmF s g pos = nmB s) ∧ s.size ≤ pos + g)
  case atStart => exact ⟨0, World.iter_heap w s 0, (Below.refl _ w).alloc (Nat.le_refl _) _, rfl, by omega⟩
  case round =>
    obtain ⟨pos, hit, hbw, hleft, hfu⟩ := hrel
    have hsz : w.heap.size < wr.heap.size := (Array.getElem?_eq_some_iff.1 hit).1
    by_cases hp : pos < s.size
    · obtain ⟨g, rfl⟩ : ∃ g, gk = g + 1 := ⟨gk - 1, by omega⟩
      have hnx : ∀ ty, (Instr.next (.pointer (some ⟨w.heap.size, 0, none⟩)) true ty).run Tryz.prog wr = _ := fun ty => Lib.run_next_any_at wr w.heap.size s pos ty hit hp
      have hwd := Lib.width_pos s pos
      have hr1 := Lib.rune_le s pos
      obtain ⟨R, hR⟩ : ∃ R, (Utf8.decode s pos).1 = R := ⟨_, rfl⟩
      obtain ⟨K, hK⟩ : ∃ K, (Utf8.decode s pos).2 = K := ⟨_, rfl⟩
      have hl := hleft.out
      simp only [nmF, hp, if_true, hR, hK] at hl
      rw [hR, hK] at hnx
      rw [hR] at hr1
      rw [hK] at hwd
      have hit2 := Lib.iterAt_heap wr w.heap.size s pos (pos + K) hit
      have hbw2 := Lib.below_iterAt hbw (k := w.heap.size) (Nat.le_refl _) s (pos + K)
      obtain ⟨W, hWd⟩ : ∃ W, wr.iterAt w.heap.size s (pos + K) = W := ⟨_, rfl⟩
      rw [hWd] at hnx hit2 hbw2
      have cS := notWord_any (R : Int) W
      have HIT : Hid (W.heap[w.heap.size]? = some (.stringIter s (pos + K))) := hit2
      clear hleft hit2 hit hR hK hWd
      cases hsp : wdB (R : Int) with
      | true =>
        rw [hsp] at cS hl
        have HL : Hid (nmF s g (pos + K) = nmB s) := (by simpa using hl : nmF s g (pos + K) = nmB s)
        clear hl hsp
        go_wp2_with (go_at_call 101; go_fit cS; rintro e W' ⟨rfl, rfl⟩)
        go_roundg g
        case measure => omega
        case rel => exact ⟨pos + K, HIT.out, hbw2, HL, by omega⟩
      | false =>
        rw [hsp] at cS hl
        have HL : Hid (false = nmB s) := (by simpa using hl.symm : nmB s = false).symm
        clear hl hsp
        go_wp2_with (go_at_call 101; go_fit cS; rintro e W' ⟨rfl, rfl⟩)
        go_ret
        exact ⟨⟨_, rfl, by rw [← HL.out]; simp <;> omega⟩, hbw2⟩
    · have hnx : ∀ ty, (Instr.next (.pointer (some ⟨w.heap.size, 0, none⟩)) true ty).run Tryz.prog wr = _ := fun ty => Lib.run_next_end_at wr w.heap.size s pos ty hit hp
      have HL : Hid (nmB s = true) := by rw [← hleft.out]; exact nmF_end s gk pos hp
      clear hleft
      go_wp2
      go_ret
      exact ⟨⟨_, rfl, by rw [HL.out]; rfl⟩, hbw⟩

set_option maxHeartbeats 1000000 in
theorem strIndexFunc_any (s : ByteArray) (w : World) : Calls Tryz.prog 100 #[.string s, .func (.func 101) #[] #[]] w fun e w' => (∃ i : Int, e = .returned (.int .i64 i) ∧ decide (i < 0) = nmB s) ∧ Below w.heap.size w w' := by
  have k := indexFunc_any s w
  go_enter Tryz.func100, Tryz.ntmps100
  go_wp2_with fail
  go_fit k
  rintro e w1 ⟨⟨i, rfl, hi⟩, hb⟩
  have HI : Hid _ := hi
  clear hi
  go_wp2
  go_ret
  exact ⟨⟨i, rfl, HI.out⟩, hb⟩
set_option maxHeartbeats 1000000 in
theorem isName_any (s : ByteArray) (w : World) : Calls Tryz.prog 87 #[.string s] w fun e w' => e = .returned (.bool (nmB s)) ∧ Below w.heap.size w w' := by
  have k := strIndexFunc_any s w
  go_enter Tryz.func87, Tryz.ntmps87
  go_wp2_with fail
  go_fit k
  rintro e w1 ⟨⟨i, rfl, hi⟩, hb⟩
  have HI : Hid _ := hi
  clear hi
  go_wp2
  go_ret
  exact ⟨ret_bool HI.out, hb⟩
end Go.Proofs.YtajaadagejhllaaGreatDoor
