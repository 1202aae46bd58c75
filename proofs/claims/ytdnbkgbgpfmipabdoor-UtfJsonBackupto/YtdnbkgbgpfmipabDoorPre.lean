/- The walks of HasPrefix, CutPrefix and holdsControl. -/
import Derived.Test.YtdnbkgbgpfmipabDoorMeanG
import Derived.Test.YtdnbkgbgpfmipabDoorWrt
namespace Go.Proofs.YtdnbkgbgpfmipabDoor
open Go.RowKit Go.Lib

set_option maxHeartbeats 1000000 in
theorem hasPrefix_yes (s p : ByteArray) (w : World) (h : p.size ≤ s.size) (he : s.extract 0 p.size = p) :
    Calls Tryd.prog 54 #[.string s, .string p] w fun e w' => e = .returned (.bool true) ∧ w' = w := by
  have hi : (p.size : Int) ≤ s.size := by omega
  go_enter Tryd.func54, Tryd.ntmps54
  go_wp2
  go_ret
  exact ⟨by simp, rfl⟩
set_option maxHeartbeats 1000000 in
theorem hasPrefix_no (s p : ByteArray) (w : World) (h : ¬ (p.size ≤ s.size ∧ s.extract 0 p.size = p)) :
    Calls Tryd.prog 54 #[.string s, .string p] w fun e w' => e = .returned (.bool false) ∧ w' = w := by
  by_cases h1 : p.size ≤ s.size
  · have he : ¬ s.extract 0 p.size = p := fun he => h ⟨h1, he⟩
    have hb : ((s.extract 0 p.size).toList == p.toList) = false := by
      rw [beq_eq_false_iff_ne]
      intro hx
      exact he (Go.WideShapes.bytes_inj (by rw [← ByteArray.toList_eq, ← ByteArray.toList_eq]; exact hx))
    have hi : (p.size : Int) ≤ s.size := by omega
    go_enter Tryd.func54, Tryd.ntmps54
    go_wp2
    go_ret
    exact ⟨rfl, rfl⟩
  · have hi : ¬ (p.size : Int) ≤ s.size := by omega
    go_enter Tryd.func54, Tryd.ntmps54
    go_wp2
    go_ret
    exact ⟨rfl, rfl⟩
theorem cutPrefix_yes (s p : ByteArray) (w : World) (h : p.size ≤ s.size) (he : s.extract 0 p.size = p) :
    Calls Tryd.prog 73 #[.string s, .string p] w fun e w' => e = .returned (.tuple #[.string (s.extract p.size s.size), .bool true]) ∧ w' = w := by
  have k := fun w' => hasPrefix_yes s p w' h he
  have hi : (p.size : Int) ≤ s.size := by omega
  have k2 : ∀ w', Calls Tryd.prog 80 #[.string s, .string p] w' fun e w'' => e = .returned (.tuple #[.string (s.extract p.size s.size), .bool true]) ∧ w'' = w' := fun w' => by
    go_enter Tryd.func80, Tryd.ntmps80
    go_wp2_with (go_at_call 54; go_fit (k _); rintro x w1 ⟨rfl, rfl⟩)
    go_ret2
    exact ⟨rfl, rfl⟩
  go_enter Tryd.func73, Tryd.ntmps73
  go_wp2_with (go_at_call 80; go_fit (k2 _); rintro x w1 ⟨rfl, rfl⟩)
  go_ret2
  exact ⟨rfl, rfl⟩
theorem cutPrefix_no (s p : ByteArray) (w : World) (h : ¬ (p.size ≤ s.size ∧ s.extract 0 p.size = p)) :
    Calls Tryd.prog 73 #[.string s, .string p] w fun e w' => e = .returned (.tuple #[.string s, .bool false]) ∧ w' = w := by
  have k := fun w' => hasPrefix_no s p w' h
  have k2 : ∀ w', Calls Tryd.prog 80 #[.string s, .string p] w' fun e w'' => e = .returned (.tuple #[.string s, .bool false]) ∧ w'' = w' := fun w' => by
    go_enter Tryd.func80, Tryd.ntmps80
    go_wp2_with (go_at_call 54; go_fit (k _); rintro x w1 ⟨rfl, rfl⟩)
    go_ret2
    exact ⟨rfl, rfl⟩
  go_enter Tryd.func73, Tryd.ntmps73
  go_wp2_with (go_at_call 80; go_fit (k2 _); rintro x w1 ⟨rfl, rfl⟩)
  go_ret2
  exact ⟨rfl, rfl⟩

/-- Does a rune below 32 stand in a text from a place on? -/
def ctF (s : ByteArray) : Nat → Nat → Bool
  | 0, _ => false
  | f + 1, p => if p < s.size then (if ((Utf8.decode s p).1 : Int) < 32 then true else ctF s f (p + (Utf8.decode s p).2)) else false
theorem ctF_end (s : ByteArray) (f p : Nat) (h : ¬ p < s.size) : ctF s f p = false := by
  cases f with
  | zero => rfl
  | succ f => rw [ctF, if_neg h]
/-- In a text of UTF-8 it does just where a byte below 32 does. -/
theorem ctF_bytes (s : ByteArray) : ∀ (f p : Nat), s.size ≤ p + f → p ≤ s.size → vld s f p = true → ctF s f p = (bts s (s.size - p) p).any (fun c => decide (c < 32))
  | 0, p, h, hp, _ => by rw [show s.size - p = 0 by omega]; rfl
  | f + 1, p, h, hp, hv => by
    by_cases hl : p < s.size
    · obtain ⟨hg, hv2⟩ := (vld_step s f p hl).1 hv
      obtain ⟨hf, hr⟩ := form_at s p hl ((good_iff s p hl).1 hg)
      have hd := dec_size s p hl
      have hw := decode_width s p
      have ih := ctF_bytes s f (p + (Utf8.decode s p).2) (by omega) hd hv2
      have e2 : bts s (s.size - p) p = bts s (Utf8.decode s p).2 p ++ bts s (s.size - (p + (Utf8.decode s p).2)) (p + (Utf8.decode s p).2) := by
        have := bts_split s (Utf8.decode s p).2 (s.size - (p + (Utf8.decode s p).2)) p
        rw [← this]; congr 1; omega
      have hn := (isRune_iff _).1 hr
      have e3 : (formL ((Utf8.decode s p).1 : Int)).any (fun c => decide (c < 32)) = decide (((Utf8.decode s p).1 : Int) < 32) := by
        by_cases hlo : ((Utf8.decode s p).1 : Int) < 128
        · rw [form1 _ ⟨hn.1, hlo⟩]; simp
        · rw [show decide (((Utf8.decode s p).1 : Int) < 32) = false by simp; omega]
          rw [List.any_eq_false]
          intro x hx
          have := formL_high _ (by omega) x hx
          simp; omega
      rw [e2, List.any_append, ← ih, ← hf, e3, ctF, if_pos hl]
      by_cases hc : ((Utf8.decode s p).1 : Int) < 32
      · rw [if_pos hc]; simp [hc]
      · rw [if_neg hc]; simp [hc]
    · rw [show s.size - p = 0 by omega, ctF, if_neg hl]; rfl

set_option maxHeartbeats 1000000 in
theorem control_any (s : ByteArray) (w : World) :
    Calls Tryd.prog 31 #[.string s] w fun e w' => e = .returned (.bool (ctF s s.size 0)) ∧ Below w.heap.size w w' := by
  generalize hO : ctF s s.size 0 = O
  have HO : Hid (ctF s s.size 0 = O) := hO
  clear hO
  go_enter Tryd.func31, Tryd.ntmps31
  go_wp2
  go_loopw [] (fun w' => ∃ pos f : Nat, w'.heap[w.heap.size]? = some (.stringIter s pos) ∧ Below w.heap.size w w' ∧ s.size ≤ pos + f ∧ Hid (ctF s f pos = O)) (fun w' => s.size - w'.iterPos w.heap.size)
  case atStart => exact ⟨0, s.size, World.iter_heap w s 0, (Below.refl _ _).alloc (Nat.le_refl _) _, by omega, HO⟩
  case round =>
    obtain ⟨pos, f, hk, hbw, hf, hh⟩ := hrel
    by_cases hp : pos < s.size
    · have hnx : ∀ ty, (Instr.next (.pointer (some ⟨w.heap.size, 0, none⟩)) true ty).run Tryd.prog wr = _ := fun ty => run_next_any_at wr w.heap.size s pos ty hk hp
      obtain ⟨f', rfl⟩ : ∃ f', f = f' + 1 := ⟨f - 1, by omega⟩
      have hwd := (decode_width s pos).1
      have hb1 : Below w.heap.size w (wr.iterAt w.heap.size s (pos + (Utf8.decode s pos).2)) := below_iterAt hbw (Nat.le_refl _) s _
      have hk1 := iterAt_heap wr w.heap.size s pos (pos + (Utf8.decode s pos).2) hk
      have HE : Hid (O = if ((Utf8.decode s pos).1 : Int) < 32 then true else ctF s f' (pos + (Utf8.decode s pos).2)) := by
        show _ = _
        rw [← hh.out, ctF, if_pos hp]
      generalize (Utf8.decode s pos).1 = R at *
      generalize (Utf8.decode s pos).2 = D at *
      generalize wr.iterAt w.heap.size s (pos + D) = W at *
      have HW1 : Hid (W.heap[w.heap.size]? = some (.stringIter s (pos + D))) := hk1
      have HW2 : Hid (wr.heap[w.heap.size]? = some (.stringIter s pos)) := hk
      clear hk1 hk hh
      by_cases hr : (R : Int) < 32
      · go_wp2
        go_ret
        exact ⟨by rw [HE.out, if_pos hr]; rfl, hb1⟩
      · have HN : Hid (ctF s f' (pos + D) = O) := by show _ = _; rw [HE.out, if_neg hr]
        go_wp2
        go_roundw
        case rel => exact ⟨pos + D, f', HW1.out, hb1, by omega, HN⟩
        case measure =>
          rw [iterPos_at HW2.out, iterPos_at HW1.out]
          omega
    · have hnx : ∀ ty, (Instr.next (.pointer (some ⟨w.heap.size, 0, none⟩)) true ty).run Tryd.prog wr = _ := fun ty => run_next_end_at wr w.heap.size s pos ty hk (by omega)
      have HE : Hid (O = false) := by show _ = _; rw [← hh.out, ctF_end s f pos hp]
      clear hk hh
      go_wp2
      go_ret
      exact ⟨by rw [HE.out]; rfl, hbw⟩
end Go.Proofs.YtdnbkgbgpfmipabDoor
