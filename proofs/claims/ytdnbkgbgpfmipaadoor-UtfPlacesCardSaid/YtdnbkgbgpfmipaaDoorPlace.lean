/- The walk of utf.Place. -/
import Derived.Test.YtdnbkgbgpfmipaaDoorShelfB
import Derived.Test.YtdnbkgbgpfmipaaDoorValid
namespace Go.Proofs.YtdnbkgbgpfmipaaDoor
open Go.RowKit Go.Lib

/-- The place behind the last newline among the first k bytes. -/
def fromT (s : ByteArray) : Nat → Nat
  | 0 => 0
  | k + 1 => if s.get! k = 10 then k + 1 else fromT s k
/-- How many newlines stand among the first k bytes. -/
def lineT (s : ByteArray) : Nat → Nat
  | 0 => 0
  | k + 1 => if s.get! k = 10 then lineT s k + 1 else lineT s k
theorem fromT_le (s : ByteArray) : ∀ k, fromT s k ≤ k
  | 0 => Nat.le_refl _
  | k + 1 => by
    have := fromT_le s k
    unfold fromT
    split <;> omega
theorem lineT_le (s : ByteArray) : ∀ k, lineT s k ≤ k
  | 0 => Nat.le_refl _
  | k + 1 => by
    have := lineT_le s k
    unfold lineT
    split <;> omega

theorem take_data (s : ByteArray) (k : Nat) (_h : k ≤ s.size) : (s.extract 0 k).data.toList = s.data.toList.take k := by
  rw [Lib.extract_data]; simp
theorem data_at (s : ByteArray) (k : Nat) (h : k < s.size) : s.data.toList[k]? = some (s.get! k) := by
  rw [get!_lt s k h]
  have : k < s.data.toList.length := by simpa using h
  rw [List.getElem?_eq_getElem this]
  rfl
theorem count_take (s : ByteArray) : ∀ k, k ≤ s.size → (s.data.toList.take k).count 10 = lineT s k
  | 0, _ => by simp [lineT]
  | k + 1, h => by
    have ih := count_take s k (by omega)
    have hk := data_at s k (by omega)
    rw [List.take_add_one, List.count_append, ih, hk]
    by_cases hc : s.get! k = 10
    · simp [hc, lineT]
    · simp [hc, lineT]
theorem count_line (s : ByteArray) (k : Nat) (h : k ≤ s.size) : Lib.countByte (s.extract 0 k).data.toList 10 = lineT s k := by
  unfold Lib.countByte
  rw [take_data s k h, count_take s k h]
theorem last_from (s : ByteArray) (k : Nat) (h : k ≤ s.size) : ∀ j, j ≤ k → Pa.lastIdx (s.data.toList.take k) 10 j = (fromT s j : Int) - 1
  | 0, _ => by simp [Pa.lastIdx, fromT]
  | j + 1, hj => by
    have ih := last_from s k h j (by omega)
    unfold Pa.lastIdx fromT
    rw [List.getElem?_take_of_lt (by omega), data_at s j (by omega), ih]
    by_cases hc : s.get! j = 10
    · simp [hc]
    · simp [hc]
theorem last_line (s : ByteArray) (k : Nat) (h : k ≤ s.size) : Pa.lastIndexByte (s.extract 0 k).data.toList 10 = (fromT s k : Int) - 1 := by
  unfold Pa.lastIndexByte
  rw [take_data s k h]
  have hl : (s.data.toList.take k).length = k := by simp; omega
  rw [hl]
  exact last_from s k h k (Nat.le_refl _)

/-- How many forms from a place on end at a place or ahead of it. -/
def colF (s : ByteArray) (k : Nat) : Nat → Nat → Nat
  | 0, _ => 0
  | f + 1, p => if p + (Utf8.decode s p).2 ≤ k then 1 + colF s k f (p + (Utf8.decode s p).2) else 0

theorem colF_no (s : ByteArray) (k f p : Nat) (h : k < p + (Utf8.decode s p).2) : colF s k f p = 0 := by
  cases f with
  | zero => rfl
  | succ f => unfold colF; rw [if_neg (by omega)]
theorem colF_yes (s : ByteArray) (k f p : Nat) (hf : 0 < f) (h : p + (Utf8.decode s p).2 ≤ k) : colF s k f p = 1 + colF s k (f - 1) (p + (Utf8.decode s p).2) := by
  obtain ⟨g, rfl⟩ : ∃ g, f = g + 1 := ⟨f - 1, by omega⟩
  rw [colF, if_pos h]; rfl
theorem decode_from (s : ByteArray) (a i : Nat) : Utf8.decode (s.extract a s.size) i = Utf8.decode s (a + i) := by
  rw [Lib.decode_at, Lib.decode_at]
  simp only [get!_extract, ← Nat.add_assoc]
  congr 1
  simp
  omega
theorem decode_le_size' (s : ByteArray) (i : Nat) (h : i < s.size) : i + (Utf8.decode s i).2 ≤ s.size := by
  rw [decode_at]
  unfold decodeN
  repeat' split
  all_goals simp
  all_goals omega
theorem nxt_max (s : ByteArray) (i : Nat) (h : i < s.size) : max (nxt s i).2 1 = ((Utf8.decode s i).2 : Nat) := by
  have hw := decode_width s i
  by_cases hz : (nxt s i).2 = 0
  · rw [((nxt_no s i h).1 hz).2, hz]; rfl
  · rw [(nxt_width s i hz).1]; omega

set_option maxHeartbeats 400000 in
theorem last_any (s : ByteArray) (k : Nat) (w : World) (hs : s.size ≤ 140737488351232) (hk : k ≤ s.size) :
    Calls Tryd.prog 32 #[.string (s.extract 0 k), .int .u8 10] w fun e w' => e = .returned (.int .i64 ((fromT s k : Int) - 1)) ∧ w' = w := by
  have k2 : Calls Tryd.prog 48 #[.string (s.extract 0 k), .int .u8 10] w _ := Tryd.bytealg_LastIndexByteString (s.extract 0 k) 10 w (by simp; omega)
  rw [last_line s k hk] at k2
  generalize s.extract 0 k = t at *
  go_enter Tryd.func32, Tryd.ntmps32
  go_wp2_with (go_at_call 48; go_fit k2; rintro e w' ⟨rfl, rfl⟩)
  go_ret
  exact ⟨rfl, rfl⟩

set_option maxHeartbeats 1000000 in
set_option maxRecDepth 100000 in
theorem place_any (s : ByteArray) (a : Int) (k : Nat) (w : World) (hs : s.size ≤ 140737488351232) (hT : Lib.Utf8Tabs 0 1 w) (hk : k ≤ s.size) (hm : min (max a 0) (s.size : Int) = k) :
    Calls Tryd.prog 18 #[.string s, .int .i64 a] w fun e w' => e = .returned (.tuple #[.int .i64 (1 + lineT s k), .int .i64 (1 + colF s k s.size (fromT s k))]) ∧ Below w.heap.size w w' := by
  have hsz := tabs_size hT
  have HT : Hid (Lib.Utf8Tabs 0 1 w) := hT
  clear hT
  have k1 := Tryd.strings_Count_one (s.extract 0 k) 10 w
  rw [count_line s k hk] at k1
  have k2 := last_any s k w hs hk
  have hf := fromT_le s k
  have hl := lineT_le s k
  have HS : Hid (s.size ≤ maxLen) := by show _ ≤ _; unfold maxLen; omega
  generalize hL : lineT s k = L at *
  generalize hS : fromT s k = st at *
  clear hL hS
  have hst : st ≤ s.size := by omega
  go_enter Tryd.func18, Tryd.ntmps18
  go_wp2_with fail
  go_fit k1
  clear k1
  rintro e w1 ⟨rfl, rfl⟩
  go_wp2_with fail
  go_fit k2
  clear k2
  rintro e w2 ⟨rfl, rfl⟩
  go_wp2
  go_loopw [5] (fun c w' => ∃ (pos b col : Nat), w'.heap[w2.heap.size]? = some (.stringIter (s.extract st s.size) pos) ∧ Below w2.heap.size w2 w' ∧ c = .int .i64 col ∧ col + colF s k b (st + pos) = 1 + colF s k s.size st ∧ s.size ≤ st + pos + b ∧ col ≤ 1 + pos) (fun _ w' => s.size - (st + w'.iterPos w2.heap.size))
  case atStart => exact ⟨0, s.size, 1, World.iter_heap w2 _ 0, (Below.refl _ _).alloc (Nat.le_refl _) _, rfl, rfl, by omega, by omega⟩
  case round =>
    obtain ⟨pos, b, col, hkk, hbw, rfl, hv, hb, hcol⟩ := hrel
    have hxs : (s.extract st s.size).size = s.size - st := by simp
    have HV : Hid (col + colF s k b (st + pos) = 1 + colF s k s.size st) := hv
    clear hv
    by_cases hp : st + pos < s.size
    · have hnx : ∀ ty, (Instr.next (.pointer (some ⟨w2.heap.size, 0, none⟩)) true ty).run Tryd.prog wr = _ := fun ty => run_next_any_at wr w2.heap.size (s.extract st s.size) pos ty hkk (by omega)
      rw [decode_from] at hnx
      have hwd := (decode_width s (st + pos)).1
      have hb1 : Below w2.heap.size w2 (wr.iterAt w2.heap.size (s.extract st s.size) (pos + (Utf8.decode s (st + pos)).2)) := below_iterAt hbw (Nat.le_refl _) _ _
      have hk1 := iterAt_heap wr w2.heap.size (s.extract st s.size) pos (pos + (Utf8.decode s (st + pos)).2) hkk
      have cN := next_in s (st + pos) (wr.iterAt w2.heap.size (s.extract st s.size) (pos + (Utf8.decode s (st + pos)).2)) HS.out (tabs_below HT.out hsz hb1) hp
      have hsz1 : w2.heap.size < (wr.iterAt w2.heap.size (s.extract st s.size) (pos + (Utf8.decode s (st + pos)).2)).heap.size := (Array.getElem?_eq_some_iff.1 hk1).1
      have hmx := nxt_max s (st + pos) hp
      have hno := colF_no s k b (st + pos)
      have hye := colF_yes s k b (st + pos) (by omega)
      have hle := decode_le_size' s (st + pos) hp
      generalize wr.iterAt w2.heap.size (s.extract st s.size) (pos + (Utf8.decode s (st + pos)).2) = W at *
      generalize (nxt s (st + pos)).1 = X at *
      generalize (nxt s (st + pos)).2 = Y at *
      generalize (Utf8.decode s (st + pos)).1 = R at *
      generalize (Utf8.decode s (st + pos)).2 = K at *
      have HO : Hid (k < st + pos + K → colF s k b (st + pos) = 0) := hno
      have HE : Hid (st + pos + K ≤ k → colF s k b (st + pos) = 1 + colF s k (b - 1) (st + pos + K)) := hye
      have HW1 : Hid (W.heap[w2.heap.size]? = some (.stringIter (s.extract st s.size) (pos + K))) := hk1
      have HW2 : Hid (wr.heap[w2.heap.size]? = some (.stringIter (s.extract st s.size) pos)) := hkk
      clear hno hye hk1 hkk
      rw [Int.natCast_add] at cN
      by_cases hgt : k < st + pos + K
      · have tg : (k : Int) < (st : Int) + pos + K := by omega
        go_wp2_with fail
        go_fit cN
        rintro e w3 ⟨rfl, hb2⟩
        go_wp2
        go_ret2
        have := HV.out
        rw [HO.out hgt] at this
        exact ⟨by rw [show (1 + (colF s k s.size st : Int)) = (col : Int) by omega]; rfl, hb1.trans (hb2.mono (Nat.le_of_lt hsz1))⟩
      · have tg : ¬ (k : Int) < (st : Int) + pos + K := by omega
        go_wp2_with fail
        go_fit cN
        rintro e w3 ⟨rfl, hb2⟩
        go_wp2
        go_roundw
        case rel => exact ⟨pos + K, b - 1, col + 1, (hb2.block _ hsz1).trans HW1.out, hb1.trans (hb2.mono (Nat.le_of_lt hsz1)), by go_num, by have := HV.out; rw [HE.out (by omega)] at this; rw [← Nat.add_assoc st pos K]; omega, by omega, by omega⟩
        case measure =>
          rw [iterPos_at HW2.out, iterPos_at ((hb2.block _ hsz1).trans HW1.out)]
          omega
    · have hnx : ∀ ty, (Instr.next (.pointer (some ⟨w2.heap.size, 0, none⟩)) true ty).run Tryd.prog wr = _ := fun ty => run_next_end_at wr w2.heap.size (s.extract st s.size) pos ty hkk (by omega)
      have hno := colF_no s k b (st + pos) (by have := (decode_width s (st + pos)).1; omega)
      have HO : Hid (colF s k b (st + pos) = 0) := hno
      clear hno
      go_wp2
      go_ret2
      have := HV.out
      rw [HO.out] at this
      exact ⟨by rw [show (1 + (colF s k s.size st : Int)) = (col : Int) by omega]; rfl, hbw⟩
end Go.Proofs.YtdnbkgbgpfmipaaDoor
