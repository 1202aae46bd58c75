/- The walk of strings.IndexRune over a text of ASCII alone. -/
import Derived.Test.YtdnbkgbgpfmipabDoorEsc
import Derived.Test.YtdnbkgbgpfmipabDoorWrt
import Derived.Test.YtdnbkgbgpfmipabDoorEnc
import Derived.WalkMore
namespace Go.Proofs.YtdnbkgbgpfmipabDoor
open Go.RowKit Go.Lib

theorem enc_form (x : Int) (h : isRune x = true) : formL x = bts (Utf8.encode x) (wd x) 0 := by
  have hq := (isRune_iff x).1 h
  have hd := enc_decode x h ByteArray.empty
  have hg := enc_good x h ByteArray.empty
  rw [ByteArray.append_empty] at hd hg
  have hsz := enc_size x h
  have hw := wd_bd x
  have := (form_at (Utf8.encode x) 0 (by omega) ((good_iff _ 0 (by omega)).1 hg)).1
  rw [hd] at this
  simp only at this
  rw [show ((x.toNat : Nat) : Int) = x by omega] at this
  exact this
theorem enc_high (x : Int) (h : isRune x = true) (h1 : 128 ≤ x) (j : Nat) (hj : j < (Utf8.encode x).size) : 128 ≤ bt (Utf8.encode x) j := by
  have hsz := enc_size x h
  have e := enc_form x h
  have hl : j < (formL x).length := by rw [e, bts_len]; omega
  have hm := formL_high x h1 ((formL x)[j]) (List.getElem_mem hl)
  have hg := bts_get (Utf8.encode x) (wd x) 0 j (by omega)
  rw [← e, Nat.zero_add] at hg
  simp only [List.getD, List.getElem?_eq_getElem hl, Option.getD_some] at hg
  omega

theorem indexByte_none (c : UInt8) : ∀ l : List UInt8, (∀ x ∈ l, x ≠ c) → Lib.indexByte l c = -1
  | [], _ => rfl
  | x :: l, h => by
    unfold Lib.indexByte
    have hx : (x == c) = false := by rw [beq_eq_false_iff_ne]; exact h x (by simp)
    rw [if_neg (by rw [hx]; exact Bool.false_ne_true), indexByte_none c l (fun y hy => h y (by simp [hy]))]
    rfl
theorem indexByte_ascii (s : ByteArray) (ha : ∀ i, i < s.size → bt s i < 128) (p : Nat) (c : Int) (h0 : 128 ≤ c) (h1 : c ≤ 255) : Lib.indexByte (s.extract p s.size).data.toList c.toNat.toUInt8 = -1 := by
  apply indexByte_none
  intro x hx
  rw [suffix_data] at hx
  have hx2 := List.mem_of_mem_drop hx
  obtain ⟨i, hi, rfl⟩ := List.getElem_of_mem hx2
  have hi' : i < s.size := by simpa using hi
  have := ha i hi'
  intro he
  have e1 : (s.data.toList[i]).toNat = c.toNat := by
    rw [he]
    show c.toNat % 256 = _
    omega
  have e2 : bt s i = ((s.data.toList[i]).toNat : Int) := by
    unfold bt
    rw [get!_lt s i hi']
    rfl
  omega

set_option maxHeartbeats 2000000 in
set_option maxRecDepth 1000000 in
theorem index_bad (s : ByteArray) (w : World) (_hs : s.size ≤ 1000) (ha : ∀ i, i < s.size → bt s i < 128) :
    Calls Tryd.prog 50 #[.string s, .int .i32 65533] w fun e w' => e = .returned (.int .i64 (-1)) ∧ Below w.heap.size w w' := by
  have HA : Hid (∀ i, i < s.size → bt s i < 128) := ha
  clear ha
  go_enter Tryd.func50, Tryd.ntmps50
  go_wp2
  go_loopw [] (fun w' => ∃ pos : Nat, w'.heap[w.heap.size]? = some (.stringIter s pos) ∧ Below w.heap.size w w') (fun w' => s.size - w'.iterPos w.heap.size)
  case atStart => exact ⟨0, World.iter_heap w s 0, (Below.refl _ _).alloc (Nat.le_refl _) _⟩
  case round =>
    obtain ⟨pos, hk, hbw⟩ := hrel
    by_cases hp : pos < s.size
    · have hnx : ∀ ty, (Instr.next (.pointer (some ⟨w.heap.size, 0, none⟩)) true ty).run Tryd.prog wr = _ := fun ty => run_next_any_at wr w.heap.size s pos ty hk hp
      have hdec := decode_ascii_at s pos hp (HA.out pos hp)
      have hbd := bt_bd s pos
      have hlt := HA.out pos hp
      have hb1 : Below w.heap.size w (wr.iterAt w.heap.size s (pos + (Utf8.decode s pos).2)) := below_iterAt hbw (Nat.le_refl _) s _
      have hk1 := iterAt_heap wr w.heap.size s pos (pos + (Utf8.decode s pos).2) hk
      rw [hdec] at hnx hb1 hk1
      have hcast : (((bt s pos).toNat : Nat) : Int) = bt s pos := by omega
      simp only [hcast] at hnx
      generalize wr.iterAt w.heap.size s (pos + 1) = W at *
      generalize bt s pos = c at *
      have hne : (c == 65533) = false := by rw [beq_eq_false_iff_ne]; omega
      have HW1 : Hid (W.heap[w.heap.size]? = some (.stringIter s (pos + 1))) := hk1
      have HW2 : Hid (wr.heap[w.heap.size]? = some (.stringIter s pos)) := hk
      clear hk1 hk hdec hcast hbd hlt
      go_wp2
      go_roundw
      case rel => exact ⟨pos + 1, HW1.out, hb1⟩
      case measure =>
        rw [iterPos_at HW2.out, iterPos_at HW1.out]
        omega
    · have hnx : ∀ ty, (Instr.next (.pointer (some ⟨w.heap.size, 0, none⟩)) true ty).run Tryd.prog wr = _ := fun ty => run_next_end_at wr w.heap.size s pos ty hk (by omega)
      clear hk
      go_wp2
      go_ret
      exact ⟨rfl, hbw⟩

set_option maxHeartbeats 2000000 in
set_option maxRecDepth 1000000 in
theorem index_high (s : ByteArray) (r : Int) (w : World) (hs4 : 4 ≤ s.size) (hs : s.size ≤ 1000) (ha : ∀ i, i < s.size → bt s i < 128) (h0 : 128 ≤ r) (h1 : r ≠ 65533) (hr : isRune r = true) :
    Calls Tryd.prog 50 #[.string s, .int .i32 r] w fun e w' => e = .returned (.int .i64 (-1)) ∧ Below w.heap.size w w' := by
  have hrb := (isRune_iff r).1 hr
  have kv := fun w' => Tryd.utf8_ValidRune r w'
  rw [validRune_eq, hr] at kv
  have t1 : (r == 65533) = false := by rw [beq_eq_false_iff_ne]; exact h1
  have t2 : 0 ≤ r := by omega
  have t3 : ¬ r < 128 := by omega
  have hes := enc_size r hr
  have hwd := wd_bd r
  obtain ⟨m, hm⟩ : ∃ m, wd r = m + 1 := ⟨wd r - 1, by omega⟩
  rw [hm] at hes hwd
  have hel := enc_high r hr h0 m (by omega)
  have hE := bt_at (Utf8.encode r) m (by omega)
  have hS := bt_at s m (by omega)
  have hSl := ha m (by omega)
  have hbd := bt_bd (Utf8.encode r) m
  have ki := fun w' => Tryd.strings_IndexByte (s.extract (m + 1) s.size) (bt (Utf8.encode r) m) w'
  rw [indexByte_ascii s ha (m + 1) _ hel hbd.2] at ki
  generalize bt (Utf8.encode r) m = c at *
  generalize bt s m = d at *
  have hne : (d == c) = false := by rw [beq_eq_false_iff_ne]; omega
  have hesi : ((Utf8.encode r).size : Int) = m + 1 := by omega
  clear ha hel hSl hbd h1
  have hm4 : m ≤ 3 := by omega
  have hms : (m : Int) < s.size := by omega
  have hmi : (m : Int) ≤ 3 := by omega
  have hms1 : (m : Int) + 1 ≤ s.size := by omega
  have hwr : IntKind.i64.wrap ((m : Int) + 1) = (m : Int) + 1 := by rw [IntKind.wrap_i64]; omega
  go_enter Tryd.func50, Tryd.ntmps50
  go_wp2_with (go_at_call 39; go_fit (kv _); rintro e w1 ⟨rfl, rfl⟩)
  go_step3
  go_wp2
  go_loopw [9] (fun t w' => t = .int .i64 (m : Int) ∧ w' = w1) (fun _ _ => 0)
  case atStart => exact ⟨rfl, rfl⟩
  case round =>
    obtain ⟨rfl, rfl⟩ := hrel
    go_wp2
    go_step3
    go_wp2
    go_quiet (fail)
    go_wp2
    go_region_with (go_at_call 43; go_fit (ki _); rintro e w5 ⟨rfl, rfl⟩)
    all_goals go_wp2
    all_goals rw [Exit.noGoto_ret]
    all_goals go_wp2
    all_goals rw [Exit.noGoto_ret]
    all_goals go_ret
    all_goals exact ⟨rfl, below_drewN (Below.refl _ _) _⟩

set_option maxHeartbeats 2000000 in
set_option maxRecDepth 1000000 in
/-- At an ASCII rune it is IndexByte. -/
theorem index_ascii (s : ByteArray) (r : Int) (w : World) (h0 : 0 ≤ r) (h1 : r < 128) :
    Calls Tryd.prog 50 #[.string s, .int .i32 r] w fun e w' => e = .returned (.int .i64 (Lib.indexByte s.data.toList r.toNat.toUInt8)) ∧ w' = w := by
  have k := fun w' => Tryd.strings_IndexByte s r w'
  go_enter Tryd.func50, Tryd.ntmps50
  go_wp2_with (go_at_call 43; go_fit (k _); rintro e w1 ⟨rfl, rfl⟩)
  go_ret
  exact ⟨rfl, rfl⟩
end Go.Proofs.YtdnbkgbgpfmipabDoor
