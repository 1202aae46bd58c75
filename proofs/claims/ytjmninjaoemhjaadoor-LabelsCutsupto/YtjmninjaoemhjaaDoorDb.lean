/- Labels: names, texts, copies. -/
import Derived.Test.YtjmninjaoemhjaaDoorCb
import Derived.Test.YtjmninjaoemhjaaDoorSz
import Derived.Lib.DecodeN
import Derived.Lib.OthersKept
import Derived.WalkSmall
import Derived.LoopTactic
import Derived.WideShapes
namespace Go.Proofs.YtjmninjaoemhjaaDoor
open Go.RowKit Go.Lib

set_option maxHeartbeats 1000000 in
theorem isFirst_lo (c : Int) (w : World) (h1 : 97 ≤ c) (h2 : c ≤ 122) : Calls Tryd.prog 54 #[.int .u8 c] w fun e w' => e = .returned (.bool true) ∧ w' = w := by
  go_enter Tryd.func54, Tryd.ntmps54
  go_wp2
  go_ret
  exact ⟨rfl, rfl⟩
set_option maxHeartbeats 1000000 in
theorem isLater_lo (c : Int) (w : World) (h1 : 97 ≤ c) (h2 : c ≤ 122) : Calls Tryd.prog 53 #[.int .u8 c] w fun e w' => e = .returned (.bool true) ∧ w' = w := by
  have k := isFirst_lo c w h1 h2
  go_enter Tryd.func53, Tryd.ntmps53
  go_wp2_with fail
  go_fit k
  rintro e w1 ⟨rfl, rfl⟩
  go_wp2
  go_ret
  exact ⟨rfl, rfl⟩
set_option maxHeartbeats 2000000 in
set_option maxRecDepth 100000 in
theorem isLabel_1 (b : UInt8) (w : World) (h1 : 97 ≤ (b.toNat : Int)) (h2 : (b.toNat : Int) ≤ 122) : Calls Tryd.prog 27 #[.string ⟨#[b]⟩] w fun e w' => e = .returned (.bool true) ∧ w' = w := by
  have k1 := isLater_lo (b.toNat : Int) w h1 h2
  have k2 := isFirst_lo (b.toNat : Int) w h1 h2
  have hs : (⟨#[b]⟩ : ByteArray).size = 1 := rfl
  have hne : ((⟨#[b]⟩ : ByteArray).toList == (⟨#[]⟩ : ByteArray).toList) = false := by rw [Lib.toList_data, Lib.toList_data]; rfl
  go_enter Tryd.func27, Tryd.ntmps27
  go_wp2_with fail
  go_loopw [6] (fun t w' => (t = .int .i64 0 ∨ t = .int .i64 1) ∧ w' = w) (fun t _ => 1 - (RowKit.intOf t).toNat)
  case atStart => exact ⟨.inl rfl, rfl⟩
  case round =>
    obtain ⟨rfl | rfl, rfl⟩ := hrel
    · go_wp2_with fail
      go_fit k1
      rintro e w1 ⟨rfl, rfl⟩
      go_wp2
      exact ⟨⟨.inr rfl, trivial⟩, by decide⟩
    · go_wp2_with fail
      go_fit k2
      rintro e w1 ⟨rfl, rfl⟩
      go_wp2
      go_ret
      exact ⟨rfl, rfl⟩
theorem iterPos_at {w : World} {k : Nat} {s : ByteArray} {pos : Nat} (h : w.heap[k]? = some (.stringIter s pos)) : w.iterPos k = pos := by
  unfold World.iterPos; rw [h]
set_option maxRecDepth 100000 in
theorem begins_ok (s : ByteArray) (i r : Int) (w : World) (h : ¬ r = 65533) : Calls Tryd.prog 55 #[.string s, .int .i64 i, .int .i32 r] w fun e w' => e = .returned (.bool true) ∧ w' = w := by
  have e1 : (r != 65533) = true := by simpa using h
  go_enter Tryd.func55, Tryd.ntmps55
  go_wp2
  go_ret
  exact ⟨rfl, rfl⟩
theorem decode_width (s : ByteArray) (i : Nat) : 1 ≤ (Utf8.decode s i).2 ∧ (Utf8.decode s i).2 ≤ 4 := by
  rw [decode_at]
  unfold decodeN
  repeat' split
  all_goals simp
set_option maxRecDepth 1000000 in
set_option maxHeartbeats 1000000 in
theorem valid_ok (s : ByteArray) (w : World) (hd : ∀ pos, pos < s.size → ¬ ((Utf8.decode s pos).1 : Int) = 65533) :
    Calls Tryd.prog 28 #[.string s] w fun e w' => e = .returned (.bool true) ∧ Below w.heap.size w w' := by
  have HD : Hid (∀ pos, pos < s.size → ¬ ((Utf8.decode s pos).1 : Int) = 65533) := hd
  clear hd
  go_enter Tryd.func28, Tryd.ntmps28
  go_wp2
  go_loopw [] (fun w' => ∃ pos : Nat, w'.heap[w.heap.size]? = some (.stringIter s pos) ∧ Below w.heap.size w w') (fun w' => s.size - w'.iterPos w.heap.size)
  case atStart => exact ⟨0, World.iter_heap w s 0, (Below.refl _ _).alloc (Nat.le_refl _) _⟩
  case round =>
    obtain ⟨pos, hk, hbw⟩ := hrel
    by_cases hp : pos < s.size
    · have hnx : ∀ ty, (Instr.next (.pointer (some ⟨w.heap.size, 0, none⟩)) true ty).run Tryd.prog wr = _ := fun ty => run_next_any_at wr w.heap.size s pos ty hk hp
      have hwd := (decode_width s pos).1
      have hb1 : Below w.heap.size w (wr.iterAt w.heap.size s (pos + (Utf8.decode s pos).2)) := below_iterAt hbw (Nat.le_refl _) s _
      have hk1 := iterAt_heap wr w.heap.size s pos (pos + (Utf8.decode s pos).2) hk
      have cB := begins_ok s pos _ (wr.iterAt w.heap.size s (pos + (Utf8.decode s pos).2)) (HD.out pos hp)
      generalize hW : wr.iterAt w.heap.size s (pos + (Utf8.decode s pos).2) = W at *
      obtain ⟨K, hK⟩ : ∃ K, (Utf8.decode s pos).2 = K := ⟨_, rfl⟩
      obtain ⟨R, hR⟩ : ∃ R, (Utf8.decode s pos).1 = R := ⟨_, rfl⟩
      rw [hK] at hwd hk1
      rw [hR] at hnx cB
      have HW1 : Hid (W.heap[w.heap.size]? = some (.stringIter s (pos + K))) := hk1
      have HW2 : Hid (wr.heap[w.heap.size]? = some (.stringIter s pos)) := hk
      clear hK hk1 hW hR hk
      go_wp2_with (go_at_call 55; go_fit cB; rintro e w' ⟨rfl, rfl⟩)
      go_roundw
      case rel => exact ⟨pos + K, HW1.out, hb1⟩
      case measure =>
        rw [iterPos_at HW2.out, iterPos_at HW1.out]
        omega
    · have hnx : ∀ ty, (Instr.next (.pointer (some ⟨w.heap.size, 0, none⟩)) true ty).run Tryd.prog wr = _ := fun ty => run_next_end_at wr w.heap.size s pos ty hk hp
      clear hk
      go_wp2
      go_ret
      exact ⟨rfl, hbw⟩
theorem valid_1 (b : UInt8) (w : World) (h : b.toNat < 128) : Calls Tryd.prog 28 #[.string ⟨#[b]⟩] w fun e w' => e = .returned (.bool true) ∧ Below w.heap.size w w' := by
  refine valid_ok _ w fun pos hp => ?_
  have hp1 : pos < 1 := hp
  obtain rfl : pos = 0 := by omega
  rw [decode_at]
  unfold decodeN
  rw [if_pos (show ((⟨#[b]⟩ : ByteArray).get! 0).toNat < 128 from h)]
  show ¬ (b.toNat : Int) = 65533
  omega
set_option maxHeartbeats 1000000 in
theorem clone_any (s : ByteArray) (w : World) (hs : s.size ≤ 140737488355328) : Calls Tryd.prog 35 #[.string s] w fun e w' => e = .returned (.string s) ∧ Below w.heap.size w w' := by
  have k := Tryd.stringslite_Clone s w (by omega)
  go_enter Tryd.func35, Tryd.ntmps35
  go_wp2_with fail
  go_fit k
  rintro e w1 ⟨rfl, b1⟩
  have H1 : Hid _ := b1
  clear k b1
  go_wp2
  go_ret
  exact ⟨rfl, H1.out⟩
end Go.Proofs.YtjmninjaoemhjaaDoor
