/- The walks of the reference's written, Quote and Json. -/
import Derived.Test.YtdnbkgbgpfmipabDoorRefWrt
import Derived.Test.YtdnbkgbgpfmipabDoorRefNext
namespace Go.Proofs.YtdnbkgbgpfmipabDoor
open Go.RowKit Go.Lib

theorem bW_len (bk : Int → Int) (H : List Int) (del : Bool) (hH : H.length ≤ 4) (c : Int) : (bW bk H del c).length ≤ 6 := by
  unfold bW
  repeat' split
  all_goals simp
  all_goals omega
theorem u8div_fin : ∀ x : Fin 256, IntKind.u8.wrap ((x.val : Int).tdiv 16) = (x.val : Int) / 16 ∧ (x.val : Int).tmod 16 = (x.val : Int) % 16 := by decide +kernel
theorem u8div (c : Int) (h0 : 0 ≤ c) (h1 : c ≤ 255) : IntKind.u8.wrap (c.tdiv 16) = c / 16 ∧ c.tmod 16 = c % 16 := by
  have := u8div_fin ⟨c.toNat, by omega⟩
  simp only [Int.toNat_of_nonneg h0] at this
  exact this
theorem bts_snoc (s : ByteArray) (i : Nat) : bts s (i + 1) 0 = bts s i 0 ++ [bt s i] := by
  rw [bts_split s i 1 0, Nat.zero_add]; rfl

set_option maxHeartbeats 4000000 in
set_option maxRecDepth 100000 in
theorem rwritten_gen (L : ByteArray) (bk : Int → Int) (H : List Int) (del : Bool) (hH : H.length ≤ 4) (hHb : ∀ x ∈ H, 0 ≤ x ∧ x ≤ 255)
    (hbk : ∀ (c : Int) (w : World), 0 ≤ c → c ≤ 255 → Calls Tryd.prog 66 #[.int .u8 c, .string L] w fun e w' => e = .returned (.int .u8 (bk c)) ∧ w' = w)
    (s : ByteArray) (w : World) (hs : s.size ≤ 1048576) :
    Calls Tryd.prog 47 #[.string s, .string L, .string (strOfNums H), .bool del] w fun r w' => r = .returned (.string (strOfNums ([34] ++ (bts s s.size 0).flatMap (bW bk H del) ++ [34]))) ∧ Below w.heap.size w w' := by
  have o0 : (w.alloc (.cells #[.int .u8 34] 5)).ownsRow w.heap.size 5 1 (.slice (some ⟨w.heap.size, 0, none⟩) 1 1) [(34 : Int)].length (bc [34]) :=
    ⟨rfl, .inr ⟨w.heap.size, 1, _, rfl, Nat.le_refl _, heap_alloc_new w _, by decide, by decide, rfl, rfl⟩⟩
  have HO0 : Hid ((w.alloc (.cells #[.int .u8 34] 5)).ownsRow w.heap.size 5 1 (.slice (some ⟨w.heap.size, 0, none⟩) 1 1) [(34 : Int)].length (bc [34])) := o0
  have HBK : Hid (∀ (c : Int) (w : World), 0 ≤ c → c ≤ 255 → Calls Tryd.prog 66 #[.int .u8 c, .string L] w fun e w' => e = .returned (.int .u8 (bk c)) ∧ w' = w) := hbk
  have HHB : Hid (∀ x ∈ H, 0 ≤ x ∧ x ≤ 255) := hHb
  clear o0 hbk hHb
  go_enter Tryd.func47, Tryd.ntmps47
  go_wp2
  go_loopw [9, 10] (fun b t w' => ∃ (i : Nat) (l : List Int), w'.ownsRow w.heap.size 5 1 b l.length (bc l) ∧ t = .int .i64 (i : Int) ∧ i ≤ s.size ∧ Below w.heap.size w w' ∧ l = [34] ++ (bts s i 0).flatMap (bW bk H del) ∧ l.length ≤ 6 * i + 1) (fun _ t _ => s.size - (RowKit.intOf t).toNat)
  case atStart => exact ⟨0, [34], HO0.out, rfl, by omega, (Below.refl _ _).alloc (Nat.le_refl _) _, rfl, by simp⟩
  case round =>
    obtain ⟨i, l, hown, rfl, hi, hbw, hl, hll⟩ := hrel
    by_cases hlt : i < s.size
    · have hx' := bt_at s i hlt
      have hbd := bt_bd s i
      have kb := fun w' => HBK.out (bt s i) w' hbd.1 hbd.2
      have hbl := bW_len bk H del hH (bt s i)
      obtain ⟨X, hw⟩ : ∃ X, X = bW bk H del (bt s i) := ⟨_, rfl⟩
      have HL : Hid (l ++ X = [34] ++ (bts s (i + 1) 0).flatMap (bW bk H del)) := by
        show _ = _
        rw [hl, bts_snoc, List.flatMap_append, hw]
        simp
      have HLL : Hid ((l ++ X).length ≤ 6 * (i + 1) + 1) := by
        show _ ≤ _
        rw [List.length_append, hw]; omega
      have hii : (i : Int) < s.size := by omega
      rw [← hw] at hbl
      unfold bW at hw
      clear hl
      generalize bt s i = c at *
      obtain ⟨hc0, hc1⟩ := hbd
      obtain ⟨d1, d2⟩ := u8div c hc0 hc1
      have i1 := hexD_at (c / 16) (by omega) (by omega)
      have i2 := hexD_at (c % 16) (by omega) (by omega)
      have q1 : 0 ≤ c / 16 := by omega
      have q2 : c / 16 < 16 := by omega
      have q3 : 0 ≤ c % 16 := by omega
      have q4 : c % 16 < 16 := by omega
      by_cases hb0 : bk c = 0
      · rw [if_neg (by simp [hb0])] at hw
        rw [hb0] at kb
        by_cases hcc : c < 32 ∨ (del = true ∧ c = 127)
        · rw [if_pos hcc] at hw
          subst hw
          obtain ⟨v4, w4, r4, o4, b4⟩ := append_str wr w.heap.size u9 l H HHB.out hbw.size (by omega) hown
          have hb4 : Below w.heap.size w w4 := hbw.trans b4
          obtain ⟨v5, w5, r5, o5, b5⟩ := append_built w4.drew w.heap.size v4 (l ++ H) [hx (c / 16), hx (c % 16)] hb4.size (by rw [List.length_append]; simp; omega) o4.drew
          have r5' : (Builtin.append_ #[29, 29] 29 #[v4, .slice (some ⟨w4.heap.size, 0, none⟩) 2 2]).run Tryd.prog (w4.alloc (.cells #[.int .u8 (hx (c / 16)), .int .u8 (hx (c % 16))] 5)).drew = .ok v5 w5 := r5
          have hb5 : Below w.heap.size w w5 := hb4.drew.trans b5
          rw [List.append_assoc] at o5
          have HO5 : Hid (w5.ownsRow w.heap.size 5 1 v5 (l ++ (H ++ [hx (c / 16), hx (c % 16)])).length (bc (l ++ (H ++ [hx (c / 16), hx (c % 16)])))) := o5
          clear o4 o5 r5 hown b4 b5 hbl
          have key : ∀ (K : Prop), (c < 32 → K) → (¬ c < 32 → del = true → c = 127 → K) → K := fun K h1 h2 => by
            by_cases h : c < 32
            · exact h1 h
            · exact h2 h (by rcases hcc with h' | h'; exact absurd h' h; exact h'.1) (by omega)
          clear hcc
          refine key _ (fun hc32 => ?_) (fun hc32 hdel h127 => ?_)
          · clear key
            go_wp2_with (first | (go_at_call 66; go_fit (kb _); rintro x w6 ⟨rfl, rfl⟩) | (at_builtin; refine wpList_append_run rfl (.tmp 47) (.tmp 48) 29 9 rfl _ _ rfl rfl r4 ?_))
            go_region_law (refine step_append_run rfl (.tmp 50) (.tmp 57) 29 29 rfl _ _ rfl rfl r5' ?_)
            all_goals go_wp2
            all_goals refine ⟨⟨i + 1, _, HO5.out, rfl, by omega, hb5, HL.out, HLL.out⟩, ?_⟩
            all_goals simp only [RowKit.intOf]
            all_goals omega
          · clear key
            subst hdel
            have t127 : (c == 127) = true := by rw [beq_iff_eq]; exact h127
            clear h127
            go_wp2_with (first | (go_at_call 66; go_fit (kb _); rintro x w6 ⟨rfl, rfl⟩) | (at_builtin; refine wpList_append_run rfl (.tmp 47) (.tmp 48) 29 9 rfl _ _ rfl rfl r4 ?_))
            go_region_law (refine step_append_run rfl (.tmp 50) (.tmp 57) 29 29 rfl _ _ rfl rfl r5' ?_)
            all_goals go_wp2
            all_goals refine ⟨⟨i + 1, _, HO5.out, rfl, by omega, hb5, HL.out, HLL.out⟩, ?_⟩
            all_goals simp only [RowKit.intOf]
            all_goals omega
        · rw [if_neg hcc] at hw
          subst hw
          obtain ⟨v5, w5, r5, o5, b5⟩ := append_one wr w.heap.size u9 l c hbw.size (by omega) hown
          have HO5 : Hid (w5.ownsRow w.heap.size 5 1 v5 (l ++ [c]).length (bc (l ++ [c]))) := o5
          have hb5 : Below w.heap.size w w5 := hbw.trans b5
          have hc32 : ¬ c < 32 := fun h => hcc (Or.inl h)
          have hd : (del && (c == 127)) = false := by
            cases del with
            | false => rfl
            | true => rw [Bool.true_and, beq_eq_false_iff_ne]; exact fun h => hcc (Or.inr ⟨rfl, h⟩)
          clear o5 hown b5 hbl hcc i1 i2
          cases del with
          | false =>
            go_wp2_with (first | (go_at_call 66; go_fit (kb _); rintro x w6 ⟨rfl, rfl⟩) | (at_builtin; refine wpList_append_run rfl (.tmp 26) (.tmp 28) 29 29 rfl _ _ rfl rfl r5 ?_))
            refine ⟨⟨i + 1, _, HO5.out, rfl, by omega, hb5, HL.out, HLL.out⟩, ?_⟩
            simp only [RowKit.intOf]
            omega
          | true =>
            have hd' : (c == 127) = false := hd
            go_wp2_with (first | (go_at_call 66; go_fit (kb _); rintro x w6 ⟨rfl, rfl⟩) | (at_builtin; refine wpList_append_run rfl (.tmp 26) (.tmp 28) 29 29 rfl _ _ rfl rfl r5 ?_))
            refine ⟨⟨i + 1, _, HO5.out, rfl, by omega, hb5, HL.out, HLL.out⟩, ?_⟩
            simp only [RowKit.intOf]
            omega
      · rw [if_pos hb0] at hw
        subst hw
        obtain ⟨v5, w5, r5, o5, b5⟩ := append_built wr w.heap.size u9 l [92, bk c] hbw.size (by simp; omega) hown
        have r5' : (Builtin.append_ #[29, 29] 29 #[u9, .slice (some ⟨wr.heap.size, 0, none⟩) 2 2]).run Tryd.prog (wr.alloc (.cells #[.int .u8 92, .int .u8 (bk c)] 5)) = .ok v5 w5 := r5
        have HO5 : Hid (w5.ownsRow w.heap.size 5 1 v5 (l ++ [92, bk c]).length (bc (l ++ [92, bk c]))) := o5
        have hb5 : Below w.heap.size w w5 := hbw.trans b5
        have hbt : (bk c == 0) = false := by rw [beq_eq_false_iff_ne]; exact hb0
        clear o5 hown b5 hbl r5 i1 i2
        generalize bk c = d at *
        go_wp2_with (first | (go_at_call 66; go_fit (kb _); rintro x w6 ⟨rfl, rfl⟩) | (at_builtin; refine wpList_append_run rfl (.tmp 33) (.tmp 35) 29 29 rfl _ _ rfl rfl r5' ?_))
        refine ⟨⟨i + 1, _, HO5.out, rfl, by omega, hb5, HL.out, HLL.out⟩, ?_⟩
        simp only [RowKit.intOf]
        omega
    · have hie : i = s.size := by omega
      have hii : ¬ (i : Int) < s.size := by omega
      obtain ⟨v5, w5, r5, o5, b5⟩ := append_one wr w.heap.size u9 l 34 hbw.size (by omega) hown
      have hcv := conv_owned w5 w.heap.size v5 _ o5
      rw [hl, hie] at hcv
      clear o5 hown hl
      go_wp2_with (at_builtin; refine wpList_append_run rfl (.tmp 59) (.tmp 60) 29 29 rfl _ _ rfl rfl r5 ?_)
      go_ret
      exact ⟨rfl, hbw.trans b5⟩

theorem rquote_any (s : ByteArray) (w : World) (hs : s.size ≤ 1048576) :
    Calls Tryd.prog 24 #[.string s] w fun r w' => r = .returned (.tuple #[.string (wrR byteQ s).1, .int .i64 (wrR byteQ s).2]) ∧ Below w.heap.size w w' := by
  have kv := rvalid_any s w (by unfold maxLen; omega)
  unfold wrR
  cases hv : vld s s.size 0 with
  | false =>
    rw [hv] at kv
    rw [if_neg (by simp)]
    clear hv
    go_enter Tryd.func24, Tryd.ntmps24
    go_wp2_with (go_at_call 40; go_fit kv; rintro x w1 ⟨rfl, hb1⟩)
    go_ret2
    exact ⟨rfl, hb1⟩
  | true =>
    rw [hv] at kv
    rw [if_pos rfl, wrF_bytes byteQ byteQ_high s s.size 0 (by omega) (by omega) hv, Nat.sub_zero]
    have kw : ∀ w1, Calls Tryd.prog 47 #[.string s, .string ⟨#[34, 34, 92, 92, 97, 7, 98, 8, 116, 9, 110, 10, 118, 11, 102, 12, 114, 13]⟩, .string ⟨#[92, 120]⟩, .bool true] w1 fun r w' => r = .returned (.string (strOfNums ([34] ++ (bts s s.size 0).flatMap byteQ ++ [34]))) ∧ Below w1.heap.size w1 w' := fun w1 => by
      have := rwritten_gen ⟨#[34, 34, 92, 92, 97, 7, 98, 8, 116, 9, 110, 10, 118, 11, 102, 12, 114, 13]⟩ bkQ [92, 120] true (by decide) (by decide) rbackQ s w1 hs
      rw [show bW bkQ [92, 120] true = byteQ from funext bW_Q] at this
      exact this
    clear hv
    generalize strOfNums ([34] ++ (bts s s.size 0).flatMap byteQ ++ [34]) = X at *
    go_enter Tryd.func24, Tryd.ntmps24
    go_wp2_with (first | (go_at_call 40; go_fit kv; rintro x w1 ⟨rfl, hb1⟩) | (go_at_call 47; go_fit (kw _); rintro x w2 ⟨rfl, hb2⟩))
    go_ret2
    exact ⟨rfl, hb1.trans (hb2.mono hb1.size)⟩
theorem rjson_any (s : ByteArray) (w : World) (hs : s.size ≤ 1048576) :
    Calls Tryd.prog 25 #[.string s] w fun r w' => r = .returned (.tuple #[.string (wrR byteJ s).1, .int .i64 (wrR byteJ s).2]) ∧ Below w.heap.size w w' := by
  have kv := rvalid_any s w (by unfold maxLen; omega)
  unfold wrR
  cases hv : vld s s.size 0 with
  | false =>
    rw [hv] at kv
    rw [if_neg (by simp)]
    clear hv
    go_enter Tryd.func25, Tryd.ntmps25
    go_wp2_with (go_at_call 40; go_fit kv; rintro x w1 ⟨rfl, hb1⟩)
    go_ret2
    exact ⟨rfl, hb1⟩
  | true =>
    rw [hv] at kv
    rw [if_pos rfl, wrF_bytes byteJ byteJ_high s s.size 0 (by omega) (by omega) hv, Nat.sub_zero]
    have kw : ∀ w1, Calls Tryd.prog 47 #[.string s, .string ⟨#[34, 34, 92, 92, 98, 8, 116, 9, 110, 10, 102, 12, 114, 13]⟩, .string ⟨#[92, 117, 48, 48]⟩, .bool false] w1 fun r w' => r = .returned (.string (strOfNums ([34] ++ (bts s s.size 0).flatMap byteJ ++ [34]))) ∧ Below w1.heap.size w1 w' := fun w1 => by
      have := rwritten_gen ⟨#[34, 34, 92, 92, 98, 8, 116, 9, 110, 10, 102, 12, 114, 13]⟩ bkJ [92, 117, 48, 48] false (by decide) (by decide) rbackJ s w1 hs
      rw [show bW bkJ [92, 117, 48, 48] false = byteJ from funext bW_J] at this
      exact this
    clear hv
    generalize strOfNums ([34] ++ (bts s s.size 0).flatMap byteJ ++ [34]) = X at *
    go_enter Tryd.func25, Tryd.ntmps25
    go_wp2_with (first | (go_at_call 40; go_fit kv; rintro x w1 ⟨rfl, hb1⟩) | (go_at_call 47; go_fit (kw _); rintro x w2 ⟨rfl, hb2⟩))
    go_ret2
    exact ⟨rfl, hb1.trans (hb2.mono hb1.size)⟩
end Go.Proofs.YtdnbkgbgpfmipabDoor
