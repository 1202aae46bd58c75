/- The walk of the law's own spelled, its third part: byte by byte. -/
import Derived.Test.YtdnbkgbgpfmipabDoorSpellB
namespace Go.Proofs.YtdnbkgbgpfmipabDoor
open Go.RowKit Go.Lib

/-- A text as new bytes. -/
theorem conv_bytes (s : ByteArray) (w : World) : ∃ c w', (convert 9 29 (.string s)).run Tryd.prog w = .ok (.slice (some ⟨w.heap.size, 0, none⟩) s.size c) w' ∧ Below w.heap.size w w' ∧ w.heap.size < w'.heap.size ∧
    ∀ j, j < s.size → w'.cell? ⟨w.heap.size, j, none⟩ = some (.int .u8 (bt s j)) := by
  refine ⟨_, _, run_bytes_of_string (P := Tryd.prog) w 9 29 5 s Tryd.underlying9 Tryd.underlying29 Tryd.underlying5, ((Below.refl _ w).drew).alloc (Nat.le_refl _) _, by simp, fun j hj => ?_⟩
  generalize grownCap w s.size 0 5 = cap
  have hb : (w.drew.alloc (.cells (bytesRow s cap) 5 ((bytesRow s cap).size, (bytesRow s cap).size + 1))).heap[w.heap.size]? = some (.cells (bytesRow s cap) 5 ((bytesRow s cap).size, (bytesRow s cap).size + 1)) := by
    show (w.heap.push _)[w.heap.size]? = _
    simp
  unfold World.cell?
  rw [hb]
  have hlt : j < (s.data.map (fun b => Value.int .u8 b.toNat)).size := by simpa using hj
  have : (bytesRow s cap)[j]? = some (.int .u8 (bt s j)) := by
    unfold bytesRow
    rw [Array.getElem?_append_left hlt, Array.getElem?_map]
    have hd : s.data[j]? = some (s.get! j) := by
      have := data_at s j hj
      rw [Array.getElem?_toList] at this
      exact this
    rw [hd]
    rfl
  simpa using this

theorem enc_bt (r : Int) (hr : isRune r = true) (j : Nat) (h : j < (formL r).length) : bt (runesBytes [r]) j = (formL r)[j] := by
  have hb := formL_byts r hr _ (List.getElem_mem h)
  rw [rb_one r hr]
  exact bt_nums _ j _ (List.getElem?_eq_getElem h) hb.1 hb.2

/-- The first bytes' spelling. -/
def by3 (l : List Int) : List Int := l.flatMap (fun c => 92 :: 120 :: dgs 16 2 c)
def by4 (l : List Int) : List Int := l.flatMap (fun c => 92 :: dgs 8 3 c)
theorem by3_len : ∀ l : List Int, (by3 l).length = 4 * l.length
  | [] => rfl
  | c :: l => by
    have := by3_len l
    unfold by3 at this ⊢
    rw [List.flatMap_cons, List.length_append, this]
    simp [dgs_len]
    omega
theorem by4_len : ∀ l : List Int, (by4 l).length = 4 * l.length
  | [] => rfl
  | c :: l => by
    have := by4_len l
    unfold by4 at this ⊢
    rw [List.flatMap_cons, List.length_append, this]
    simp [dgs_len]
    omega
theorem spT_3 (r q : Int) : spT r 3 q = strOfNums (by3 (formL r)) := by
  unfold spT sp by3
  rw [if_neg (by decide), if_neg (by decide), if_pos rfl, List.flatMap_map]
theorem spT_4 (r q : Int) : spT r 4 q = strOfNums (by4 (formL r)) := by
  unfold spT sp by4
  rw [if_neg (by decide), if_neg (by decide), if_neg (by decide), if_pos rfl, List.flatMap_map]
theorem take_next (l : List Int) (j : Nat) (h : j < l.length) : l.take (j + 1) = l.take j ++ [l[j]] := by rw [List.take_succ_eq_append_getElem h]
theorem by3_next (l : List Int) (j : Nat) (h : j < l.length) : strOfNums (by3 (l.take (j + 1))) = strOfNums (by3 (l.take j)) ++ (⟨#[92, 120]⟩ ++ strOfNums (dgs 16 2 l[j])) := by
  have e : (⟨#[92, 120]⟩ : ByteArray) = strOfNums [92, 120] := rfl
  rw [take_next l j h]
  unfold by3
  rw [List.flatMap_append, nums_app, e]
  simp only [List.flatMap_cons, List.flatMap_nil, List.append_nil]
  rw [nums2]
theorem by4_next (l : List Int) (j : Nat) (h : j < l.length) : strOfNums (by4 (l.take (j + 1))) = strOfNums (by4 (l.take j)) ++ (⟨#[92]⟩ ++ strOfNums (dgs 8 3 l[j])) := by
  have e : (⟨#[92]⟩ : ByteArray) = strOfNums [92] := rfl
  rw [take_next l j h]
  unfold by4
  rw [List.flatMap_append, nums_app, e]
  simp only [List.flatMap_cons, List.flatMap_nil, List.append_nil]
  rw [nums1]

set_option maxHeartbeats 8000000 in
set_option maxRecDepth 100000 in
theorem spelled_3 (r q : Int) (w : World) (hr : isRune r = true) :
    Calls Tryd.prog 11 #[.int .i32 r, .int .i64 3, .int .u8 q] w fun e w' => e = .returned (.string (spT r 3 q)) ∧ Below w.heap.size w w' := by
  have hi := (isRune_iff r).1 hr
  have hcv := fun w' => conv_one r w'
  have hsz : (runesBytes [r]).size = (formL r).length := by rw [rb_one r hr, nums_size]
  have hl4 := formL_len r
  obtain ⟨c1, w1, hcb, hb1, hg1, hcell⟩ := conv_bytes (runesBytes [r]) (w.alloc (.cells #[.int .i32 r] 21))
  have HX : Hid (∀ j (h : j < (formL r).length), bt (runesBytes [r]) j = (formL r)[j]) := fun j h => enc_bt r hr j h
  have HBD : Hid (byts (formL r)) := formL_byts r hr
  have hB1 : Below w.heap.size w w1 := ((Below.refl _ w).alloc (Nat.le_refl _) _).trans (hb1.mono (by simp))
  have HC : Hid (∀ j, j < (runesBytes [r]).size → w1.cell? ⟨(w.alloc (.cells #[.int .i32 r] 21)).heap.size, j, none⟩ = some (.int .u8 (bt (runesBytes [r]) j))) := hcell
  rw [spT_3]
  generalize hF : formL r = F at *
  generalize runesBytes [r] = S at *
  have h0 := hi.1
  have h1 := hi.2.1
  have HS : Hid (S.size = F.length) := hsz
  have hS4 : S.size ≤ 4 := by omega
  have hgs : (w.alloc (.cells #[.int .i32 r] 21)).heap.size = w.heap.size + 1 := by simp
  rw [hgs] at hcb hg1
  have HG : Hid ((w.alloc (.cells #[.int .i32 r] 21)).heap.size = w.heap.size + 1) := hgs
  clear hi hr hF hsz hb1 hcell hgs
  go_enter Tryd.func11, Tryd.ntmps11
  go_wp2
  go_loopw [7, 35] (fun t u w' => ∃ j : Nat, u = .int .i64 j ∧ j ≤ S.size ∧ t = .string (strOfNums (by3 (F.take j))) ∧ Below w1.heap.size w1 w') (fun _ u _ => S.size - (RowKit.intOf u).toNat)
  case atStart => exact ⟨0, rfl, by omega, rfl, Below.refl _ _⟩
  case round =>
    obtain ⟨j, rfl, hj, rfl, hbw⟩ := hrel
    by_cases hlt : j < S.size
    · have hjF : j < F.length := by rw [← HS.out]; exact hlt
      have hcl : wr.cell? ⟨w.heap.size + 1, j, none⟩ = some (.int .u8 F[j]) := by
        rw [hbw.cell (p := ⟨w.heap.size + 1, j, none⟩) hg1]
        have := HC.out j hlt
        rw [HG.out, HX.out j hjF] at this
        exact this
      have hbd := HBD.out _ (List.getElem_mem hjF)
      have kd := fun w' => digits_any F[j] 16 2 w' (.inr rfl) (by omega) hbd.1 (by omega)
      have HN : Hid (strOfNums (by3 (F.take (j + 1))) = strOfNums (by3 (F.take j)) ++ (⟨#[92, 120]⟩ ++ strOfNums (dgs 16 2 F[j]))) := by3_next F j hjF
      have hDs : (strOfNums (dgs 16 2 F[j])).size ≤ 8 := by rw [nums_size, dgs_len]; omega
      have hDi : ((strOfNums (dgs 16 2 F[j])).size : Int) ≤ 8 := by omega
      have hQs : (strOfNums (by3 (F.take j))).size ≤ 16 := by rw [nums_size, by3_len, List.length_take]; omega
      have hQi : ((strOfNums (by3 (F.take j))).size : Int) ≤ 16 := by omega
      have hx0 := hbd.1
      have hx1 := hbd.2
      clear hbd
      generalize strOfNums (dgs 16 2 F[j]) = D at *
      generalize strOfNums (by3 (F.take j)) = Q at *
      generalize F[j] = x at *
      have hji : (j : Int) < S.size := by omega
      go_wp2_with (go_at_call 35; go_fit (kd _); rintro e w2 ⟨rfl, hb2⟩)
      go_roundw
      case rel => exact ⟨j + 1, by go_num, by omega, by rw [HN.out], hbw.trans (hb2.mono hbw.size)⟩
      case measure => simp [RowKit.intOf]; omega
    · have HE : Hid (strOfNums (by3 (F.take j)) = strOfNums (by3 F)) := by
        show _ = _
        rw [List.take_of_length_le (by rw [← HS.out]; omega)]
      have hji : ¬ (j : Int) < S.size := by omega
      go_wp2
      go_ret
      exact ⟨by rw [← HE.out]; rfl, hB1.trans (hbw.mono hB1.size)⟩
set_option maxHeartbeats 8000000 in
set_option maxRecDepth 100000 in
theorem spelled_4 (r q : Int) (w : World) (hr : isRune r = true) :
    Calls Tryd.prog 11 #[.int .i32 r, .int .i64 4, .int .u8 q] w fun e w' => e = .returned (.string (spT r 4 q)) ∧ Below w.heap.size w w' := by
  have hi := (isRune_iff r).1 hr
  have hcv := fun w' => conv_one r w'
  have hsz : (runesBytes [r]).size = (formL r).length := by rw [rb_one r hr, nums_size]
  have hl4 := formL_len r
  obtain ⟨c1, w1, hcb, hb1, hg1, hcell⟩ := conv_bytes (runesBytes [r]) (w.alloc (.cells #[.int .i32 r] 21))
  have HX : Hid (∀ j (h : j < (formL r).length), bt (runesBytes [r]) j = (formL r)[j]) := fun j h => enc_bt r hr j h
  have HBD : Hid (byts (formL r)) := formL_byts r hr
  have hB1 : Below w.heap.size w w1 := ((Below.refl _ w).alloc (Nat.le_refl _) _).trans (hb1.mono (by simp))
  have HC : Hid (∀ j, j < (runesBytes [r]).size → w1.cell? ⟨(w.alloc (.cells #[.int .i32 r] 21)).heap.size, j, none⟩ = some (.int .u8 (bt (runesBytes [r]) j))) := hcell
  rw [spT_4]
  generalize hF : formL r = F at *
  generalize runesBytes [r] = S at *
  have h0 := hi.1
  have h1 := hi.2.1
  have HS : Hid (S.size = F.length) := hsz
  have hS4 : S.size ≤ 4 := by omega
  have hgs : (w.alloc (.cells #[.int .i32 r] 21)).heap.size = w.heap.size + 1 := by simp
  rw [hgs] at hcb hg1
  have HG : Hid ((w.alloc (.cells #[.int .i32 r] 21)).heap.size = w.heap.size + 1) := hgs
  clear hi hr hF hsz hb1 hcell hgs
  go_enter Tryd.func11, Tryd.ntmps11
  go_wp2
  go_loopw [7, 35] (fun t u w' => ∃ j : Nat, u = .int .i64 j ∧ j ≤ S.size ∧ t = .string (strOfNums (by4 (F.take j))) ∧ Below w1.heap.size w1 w') (fun _ u _ => S.size - (RowKit.intOf u).toNat)
  case atStart => exact ⟨0, rfl, by omega, rfl, Below.refl _ _⟩
  case round =>
    obtain ⟨j, rfl, hj, rfl, hbw⟩ := hrel
    by_cases hlt : j < S.size
    · have hjF : j < F.length := by rw [← HS.out]; exact hlt
      have hcl : wr.cell? ⟨w.heap.size + 1, j, none⟩ = some (.int .u8 F[j]) := by
        rw [hbw.cell (p := ⟨w.heap.size + 1, j, none⟩) hg1]
        have := HC.out j hlt
        rw [HG.out, HX.out j hjF] at this
        exact this
      have hbd := HBD.out _ (List.getElem_mem hjF)
      have kd := fun w' => digits_any F[j] 8 3 w' (.inl rfl) (by omega) hbd.1 (by omega)
      have HN : Hid (strOfNums (by4 (F.take (j + 1))) = strOfNums (by4 (F.take j)) ++ (⟨#[92]⟩ ++ strOfNums (dgs 8 3 F[j]))) := by4_next F j hjF
      have hDs : (strOfNums (dgs 8 3 F[j])).size ≤ 8 := by rw [nums_size, dgs_len]; omega
      have hDi : ((strOfNums (dgs 8 3 F[j])).size : Int) ≤ 8 := by omega
      have hQs : (strOfNums (by4 (F.take j))).size ≤ 16 := by rw [nums_size, by4_len, List.length_take]; omega
      have hQi : ((strOfNums (by4 (F.take j))).size : Int) ≤ 16 := by omega
      have hx0 := hbd.1
      have hx1 := hbd.2
      clear hbd
      generalize strOfNums (dgs 8 3 F[j]) = D at *
      generalize strOfNums (by4 (F.take j)) = Q at *
      generalize F[j] = x at *
      have hji : (j : Int) < S.size := by omega
      go_wp2_with (go_at_call 35; go_fit (kd _); rintro e w2 ⟨rfl, hb2⟩)
      go_roundw
      case rel => exact ⟨j + 1, by go_num, by omega, by rw [HN.out], hbw.trans (hb2.mono hbw.size)⟩
      case measure => simp [RowKit.intOf]; omega
    · have HE : Hid (strOfNums (by4 (F.take j)) = strOfNums (by4 F)) := by
        show _ = _
        rw [List.take_of_length_le (by rw [← HS.out]; omega)]
      have hji : ¬ (j : Int) < S.size := by omega
      go_wp2
      go_ret
      exact ⟨by rw [← HE.out]; rfl, hB1.trans (hbw.mono hB1.size)⟩

theorem spelled_any (r how q : Int) (w : World) (hr : isRune r = true) (hq : q = 34 ∨ q = 39) :
    Calls Tryd.prog 11 #[.int .i32 r, .int .i64 how, .int .u8 q] w fun e w' => e = .returned (.string (spT r how q)) ∧ Below w.heap.size w w' := by
  by_cases h1 : how = 1
  · subst h1; exact spelled_1 r q w hr
  · by_cases h2 : how = 2
    · subst h2
      by_cases hlo : r < 65536
      · exact spelled_2 r q w hr hlo
      · have e : spT r 2 q = spBT r q := by unfold spT sp; rw [if_neg (by decide), if_pos rfl, if_neg hlo]; rfl
        rw [e]
        exact spelled_2h r q w hr hlo (by omega) (by omega)
    · by_cases h3 : how = 3
      · subst h3; exact spelled_3 r q w hr
      · by_cases h4 : how = 4
        · subst h4; exact spelled_4 r q w hr
        · by_cases h5 : how = 5
          · subst h5
            by_cases hrq : r = q
            · subst hrq
              have e : spT r 5 r = ⟨#[92]⟩ ++ strOfNums [r] := by
                unfold spT sp
                rw [if_neg (by decide), if_neg (by decide), if_neg (by decide), if_neg (by decide), if_pos rfl, if_pos rfl]
                simp only [List.flatMap_cons, List.flatMap_nil, List.append_nil]
                exact nums1 92 [r]
              rw [e]
              exact spelled_5q r w (by omega) (by omega)
            · exact spelled_5 r q w hr (by omega) (by omega) hrq
          · have e : spT r how q = spBT r q := by unfold spT sp; rw [if_neg h1, if_neg h2, if_neg h3, if_neg h4, if_neg h5]; rfl
            rw [e]
            exact spelled_0 r how q w hr (by omega) (by omega) h1 h2 h3 h4 h5
end Go.Proofs.YtdnbkgbgpfmipabDoor
