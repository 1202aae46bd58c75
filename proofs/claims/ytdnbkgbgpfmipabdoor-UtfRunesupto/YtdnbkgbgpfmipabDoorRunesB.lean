/- UtfRunes: utf.Text and the reference's Text. -/
import Derived.Test.YtdnbkgbgpfmipabDoorRunesA
namespace Go.Proofs.YtdnbkgbgpfmipabDoor
open Go.RowKit Go.Lib

/-- The text of numbers, and the error. -/
def tx (xs : List Int) : ByteArray × Int := if xs.all isRune = true then (strOfNums (xs.flatMap formL), 0) else (⟨#[]⟩, 12)
theorem tx_ok (xs : List Int) (h : ∀ x ∈ xs, isRune x = true) : tx xs = (runesBytes xs, 0) := by
  unfold tx
  rw [if_pos (List.all_eq_true.2 h), rb_nums xs h]
theorem tx_bad (xs : List Int) (j : Nat) (h : j < xs.length) (hr : isRune (xs.getD j 0) = false) : tx xs = (⟨#[]⟩, 12) := by
  unfold tx
  rw [if_neg]
  intro hx
  have := List.all_eq_true.1 hx (xs.getD j 0) (by simp [List.getD, h])
  rw [hr] at this
  cases this

set_option maxHeartbeats 2000000 in
theorem text_any (g o c : Nat) (xs : List Int) (w : World) (hn : xs.length ≤ 16777216) (h : RunesAt w g o xs) :
    Calls Tryd.prog 13 #[.slice (some ⟨g, o, none⟩) xs.length c] w fun e w' => e = .returned (.tuple #[.string (tx xs).1, .int .i64 (tx xs).2]) ∧ w' = w := by
  have hcv := conv_runes w g o c xs h
  have H : Hid (RunesAt w g o xs) := h
  have HOK : Hid ((∀ x ∈ xs, isRune x = true) → tx xs = (runesBytes xs, 0)) := tx_ok xs
  have HBAD : Hid (∀ j, j < xs.length → isRune (xs.getD j 0) = false → tx xs = (⟨#[]⟩, 12)) := tx_bad xs
  generalize runesBytes xs = S at *
  generalize tx xs = T at *
  clear h
  generalize hn' : xs.length = n at *
  have HN : Hid (xs.length = n) := hn'
  clear hn'
  go_enter Tryd.func13, Tryd.ntmps13
  go_wp2
  go_loop [8] (fun t => ∃ j : Nat, t = .int .i64 j ∧ j ≤ n ∧ Hid (∀ i, i < j → isRune (xs.getD i 0) = true)) (fun t => n - (RowKit.intOf t).toNat)
  case atStart => exact ⟨0, rfl, by omega, fun i hi => by omega⟩
  case round =>
    obtain ⟨j, rfl, hj, hall⟩ := hrel
    by_cases hlt : j < n
    · have hjx : j < xs.length := by rw [HN.out]; exact hlt
      have d0 := H.out j hjx
      have k1 := Tryd.utf8_ValidRune (xs.getD j 0) w
      cases hv : isRune (xs.getD j 0) with
      | true =>
        rw [validRune_eq, hv] at k1
        have HA : Hid (∀ i, i < j + 1 → isRune (xs.getD i 0) = true) := fun i hi => by
          by_cases e : i = j
          · rw [e]; exact hv
          · exact hall.out i (by omega)
        clear hv hjx
        generalize xs.getD j 0 = x at *
        go_wp2_with (go_at_call 39; go_fit k1; rintro e w' ⟨rfl, rfl⟩)
        go_round
        case rel => exact ⟨j + 1, by go_num, by omega, HA⟩
        case measure => simp [RowKit.intOf]; omega
      | false =>
        have HT : Hid (T = (⟨#[]⟩, 12)) := HBAD.out j hlt hv
        rw [validRune_eq, hv] at k1
        clear hv hjx
        generalize xs.getD j 0 = x at *
        go_wp2_with (go_at_call 39; go_fit k1; rintro e w' ⟨rfl, rfl⟩)
        go_ret2
        exact ⟨by rw [HT.out]; rfl, rfl⟩
    · have HT : Hid (T = (S, 0)) := HOK.out (fun x hx => by
        obtain ⟨i, hi, rfl⟩ := List.getElem_of_mem hx
        have := hall.out i (by rw [HN.out] at hi; omega)
        simpa [List.getD, hi] using this)
      go_wp2
      go_ret2
      exact ⟨by rw [HT.out]; rfl, rfl⟩

set_option maxHeartbeats 1000000 in
theorem text_none (a : Option Addr) (c : Nat) (w : World) :
    Calls Tryd.prog 13 #[.slice a 0 c] w fun e w' => e = .returned (.tuple #[.string ⟨#[]⟩, .int .i64 0]) ∧ w' = w := by
  have hcv : (convert 22 9 (.slice a 0 c)).run Tryd.prog w = .ok (.string ⟨#[]⟩) w := by
    cases a with
    | none => kernel_rfl
    | some x =>
      have := run_convert_runes (P := Tryd.prog) w 22 9 21 x 0 c [] (Nat.le_refl _) Tryd.underlying22 Tryd.underlying21 Tryd.underlying9 (fun j hj => by simp at hj)
      exact this
  go_enter Tryd.func13, Tryd.ntmps13
  go_wp2
  go_loop [8] (fun t => t = .int .i64 0) (fun _ => 0)
  case atStart => exact rfl
  case round =>
    obtain rfl := hrel
    go_wp2
    go_ret2
    exact ⟨rfl, rfl⟩

theorem flat_take (xs : List Int) (j : Nat) (h : j < xs.length) : (xs.take (j + 1)).flatMap formL = (xs.take j).flatMap formL ++ formL (xs.getD j 0) := by
  rw [take_succ' xs j h, List.flatMap_append]
  simp
theorem flat_len (xs : List Int) : ∀ j, j ≤ xs.length → ((xs.take j).flatMap formL).length ≤ 4 * j
  | 0, _ => by simp
  | j + 1, h => by
    have := flat_len xs j (by omega)
    have := formL_len (xs.getD j 0)
    rw [flat_take xs j (by omega), List.length_append]
    omega

set_option maxHeartbeats 4000000 in
set_option maxRecDepth 100000 in
theorem rtext_any (g o c : Nat) (xs : List Int) (w : World) (hn : xs.length ≤ 16777216) (h32 : ∀ j, j < xs.length → -2147483648 ≤ xs.getD j 0 ∧ xs.getD j 0 ≤ 2147483647) (h : RunesAt w g o xs) :
    Calls Tryd.prog 42 #[.slice (some ⟨g, o, none⟩) xs.length c] w fun e w' => e = .returned (.tuple #[.string (tx xs).1, .int .i64 (tx xs).2]) ∧ Below w.heap.size w w' := by
  have H : Hid (RunesAt w g o xs) := h
  have H32 : Hid (∀ j, j < xs.length → -2147483648 ≤ xs.getD j 0 ∧ xs.getD j 0 ≤ 2147483647) := h32
  clear h32
  have HOK : Hid ((∀ x ∈ xs, isRune x = true) → tx xs = (strOfNums (xs.flatMap formL), 0)) := fun hx => by unfold tx; rw [if_pos (List.all_eq_true.2 hx)]
  have HBAD : Hid (∀ j, j < xs.length → isRune (xs.getD j 0) = false → tx xs = (⟨#[]⟩, 12)) := tx_bad xs
  generalize tx xs = T at *
  clear h
  generalize hn' : xs.length = n at *
  have HN : Hid (xs.length = n) := hn'
  clear hn'
  go_enter Tryd.func42, Tryd.ntmps42
  go_wp2
  go_loopw [4, 5] (fun b t w' => ∃ j : Nat, t = .int .i64 j ∧ j ≤ n ∧ Hid (∀ i, i < j → isRune (xs.getD i 0) = true) ∧ w'.ownsRow w.heap.size 5 1 b ((xs.take j).flatMap formL).length (bc ((xs.take j).flatMap formL)) ∧ Below w.heap.size w w') (fun _ t _ => n - (RowKit.intOf t).toNat)
  case atStart => exact ⟨0, rfl, by omega, (fun i hi => by omega), World.ownsRow_nil _ _ _ _, Below.refl _ _⟩
  case round =>
    obtain ⟨j, rfl, hj, hall, hown, hbw⟩ := hrel
    by_cases hlt : j < n
    · have hjx : j < xs.length := by rw [HN.out]; exact hlt
      have d0 : wr.cell? ⟨g, o + j, none⟩ = some (.int .i32 (xs.getD j 0)) := by
        have q := H.out j hjx
        rw [hbw.cell (lt_of_cell q)]; exact q
      have k1 := isRune_any (xs.getD j 0)
      cases hv : isRune (xs.getD j 0) with
      | true =>
        rw [hv] at k1
        have k2 := form_any (xs.getD j 0)
        have hbd := (isRune_iff _).1 hv
        have HA : Hid (∀ i, i < j + 1 → isRune (xs.getD i 0) = true) := fun i hi => by
          by_cases e : i = j
          · rw [e]; exact hv
          · exact hall.out i (by omega)
        have hfl := flat_len xs j (by omega)
        have HX : Hid (∀ w1, Below wr.heap.size wr w1 → ∃ v' w2, (Builtin.append_ #[29, 9] 29 #[u4, .string (strOfNums (formL (xs.getD j 0)))]).run Tryd.prog w1 = .ok v' w2 ∧ w2.ownsRow w.heap.size 5 1 v' ((xs.take (j + 1)).flatMap formL).length (bc ((xs.take (j + 1)).flatMap formL)) ∧ Below w.heap.size w1 w2) := fun w1 b1 => by
          have hl4 := formL_len (xs.getD j 0)
          have := append_str w1 w.heap.size u4 ((xs.take j).flatMap formL) (formL (xs.getD j 0)) (formL_byts _ hv) (Nat.le_trans hbw.size b1.size) (by omega) (owns_below hown b1)
          rw [← flat_take xs j hjx] at this
          exact this
        have hb0 := hbd.1
        have hb1 := hbd.2.1
        clear hv hjx hown hbd hfl
        generalize xs.getD j 0 = x at *
        generalize strOfNums (formL x) = F at *
        go_wp2_with (first | (go_at_call 61; go_fit (k1 _); rintro e w1 ⟨rfl, rfl⟩) | fail)
        go_fit (k2 _)
        rintro e w2 ⟨rfl, b2⟩
        obtain ⟨v3, w3, r3, o3, b3⟩ := HX.out w2 b2
        clear HX k1 k2
        go_wp2_with (at_builtin; refine wpList_append_run rfl (.tmp 26) (.tmp 27) 29 9 rfl _ _ rfl rfl r3 ?_)
        go_roundw
        case rel => exact ⟨j + 1, by go_num, by omega, HA, o3, (hbw.trans (b2.mono hbw.size)).trans b3⟩
        case measure => simp [RowKit.intOf]; omega
      | false =>
        have HT : Hid (T = (⟨#[]⟩, 12)) := HBAD.out j hlt hv
        rw [hv] at k1
        obtain ⟨q0, q1⟩ := H32.out j (by rw [HN.out] at hjx; exact hlt)
        clear hv hjx hown
        generalize xs.getD j 0 = x at *
        go_wp2_with (go_at_call 61; go_fit (k1 _); rintro e w1 ⟨rfl, rfl⟩)
        go_ret2
        exact ⟨by rw [HT.out]; rfl, hbw⟩
    · have HT : Hid (T = (strOfNums (xs.flatMap formL), 0)) := HOK.out (fun x hx => by
        obtain ⟨i, hi, rfl⟩ := List.getElem_of_mem hx
        have := hall.out i (by rw [HN.out] at hi; omega)
        simpa [List.getD, hi] using this)
      have hcv := conv_owned wr w.heap.size u4 _ hown
      rw [List.take_of_length_le (by rw [HN.out]; omega)] at hcv
      clear hown
      generalize strOfNums (xs.flatMap formL) = S at *
      go_wp2
      go_ret2
      exact ⟨by rw [HT.out]; rfl, hbw⟩
end Go.Proofs.YtdnbkgbgpfmipabDoor
