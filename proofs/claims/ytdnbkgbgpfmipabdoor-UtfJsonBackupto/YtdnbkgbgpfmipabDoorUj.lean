/- What Unjson answers, and its walk. -/
import Derived.Test.YtdnbkgbgpfmipabDoorRj
namespace Go.Proofs.YtdnbkgbgpfmipabDoor
open Go.RowKit Go.Lib

def ujV (o : Option (List Int)) : ByteArray × Int := match o with | some l => (strOfNums l, 0) | none => (⟨#[]⟩, 11)
/-- Is a text a string of JSON, its escapes aside? -/
abbrev ujC (s : ByteArray) : Prop := bt s 0 = 34 ∧ ctF s s.size 0 = false ∧ litZ s 0 = ((s.size : Int), 0)
/-- What Unjson answers. -/
def ujR (s : ByteArray) : ByteArray × Int :=
  if vld s s.size 0 = true then (if ujC s then ujV (mg jescS (s.extract 1 (s.size - 1)) 0) else (⟨#[]⟩, 10)) else (⟨#[]⟩, 4)

theorem prefix_q (T : ByteArray) : ((⟨#[34]⟩ : ByteArray).size ≤ T.size ∧ T.extract 0 (⟨#[34]⟩ : ByteArray).size = ⟨#[34]⟩) ↔ 1 ≤ T.size ∧ bt T 0 = 34 := by
  have hs : (⟨#[34]⟩ : ByteArray).size = 1 := rfl
  rw [hs]
  constructor
  · rintro ⟨h1, h2⟩
    have := (extract_nums T 0 [34] (by simpa using h1) (by decide)).1 h2
    exact ⟨h1, this 0 (by decide)⟩
  · rintro ⟨h1, h2⟩
    refine ⟨h1, (extract_nums T 0 [34] (by simpa using h1) (by decide)).2 ?_⟩
    intro j hj
    match j, hj with
    | 0, _ => exact h2
theorem bt_out (s : ByteArray) (i : Nat) (h : s.size ≤ i) : bt s i = 0 := by unfold bt; rw [get!_big s i h]; rfl
theorem hasQ_any (s : ByteArray) (w : World) : Calls Tryd.prog 30 #[.string s, .string ⟨#[34]⟩] w fun e w' => e = .returned (.bool (decide (bt s 0 = 34))) ∧ w' = w := by
  have k : ∀ w1, Calls Tryd.prog 54 #[.string s, .string ⟨#[34]⟩] w1 fun e w' => e = .returned (.bool (decide (bt s 0 = 34))) ∧ w' = w1 := fun w1 => by
    by_cases h : bt s 0 = 34
    · have h1 : 1 ≤ s.size := by
        apply Classical.byContradiction
        intro hn
        rw [bt_out s 0 (by omega)] at h
        omega
      have hp := (prefix_q s).2 ⟨h1, h⟩
      rw [show decide (bt s 0 = 34) = true by simpa using h]
      exact hasPrefix_yes s _ w1 hp.1 hp.2
    · rw [show decide (bt s 0 = 34) = false by simpa using h]
      exact hasPrefix_no s _ w1 (fun hx => h ((prefix_q s).1 hx).2)
  generalize decide (bt s 0 = 34) = D at *
  go_enter Tryd.func30, Tryd.ntmps30
  go_wp2_with (go_at_call 54; go_fit (k _); rintro x w1 ⟨rfl, rfl⟩)
  go_ret
  exact ⟨rfl, rfl⟩

set_option maxHeartbeats 4000000 in
set_option maxRecDepth 100000 in
theorem unjson_any (s : ByteArray) (w : World) (hs : s.size ≤ 140737488351232) (hT : Lib.Utf8Tabs 1 2 w) :
    Calls Tryd.prog 10 #[.string s] w fun r w' => r = .returned (.tuple #[.string (ujR s).1, .int .i64 (ujR s).2]) ∧ Below w.heap.size w w' := by
  have kv := valid_any s w (by unfold maxLen; omega) hT
  have kp := fun w' => hasQ_any s w'
  have kc := fun w' => control_any s w'
  have ki := fun w' => isLiteral_any s w' (by omega)
  unfold ujR
  clear hT
  cases hv : vld s s.size 0 with
  | false =>
    rw [hv] at kv
    rw [if_neg (by simp)]
    clear hv ki kc kp
    go_enter Tryd.func10, Tryd.ntmps10
    go_wp2_with (go_at_call 29; go_fit kv; rintro x w1 ⟨rfl, hb1⟩)
    go_ret2
    exact ⟨rfl, hb1⟩
  | true =>
    rw [hv] at kv
    rw [if_pos rfl]
    clear hv
    by_cases hq : bt s 0 = 34
    · rw [show decide (bt s 0 = 34) = true by simpa using hq] at kp
      rcases Bool.eq_false_or_eq_true (ctF s s.size 0) with hct | hct
      · rw [hct] at kc
        rw [if_neg (by unfold ujC; rw [hct]; rintro ⟨_, h, _⟩; cases h)]
        clear hct ki hq
        go_enter Tryd.func10, Tryd.ntmps10
        go_wp2_with (first | (go_at_call 29; go_fit kv; rintro x w1 ⟨rfl, hb1⟩) | (go_at_call 30; go_fit (kp _); rintro x w2 ⟨rfl, rfl⟩) | (go_at_call 31; go_fit (kc _); rintro x w3 ⟨rfl, hb3⟩))
        go_ret2
        exact ⟨rfl, hb1.trans (hb3.mono hb1.size)⟩
      · rw [hct] at kc
        by_cases hl : litZ s 0 = ((s.size : Int), 0)
        · rw [show decide (litZ s 0 = ((s.size : Int), 0)) = true by simpa using hl] at ki
          rw [if_pos ⟨hq, hct, hl⟩]
          obtain ⟨h2, _, _⟩ := lit_parts s hl
          have hr := lit_body s hl (by omega)
          have km := fun w' => meaningJ_any jescS readJ_none readJ_some jesc_takes (s.extract 1 (s.size - 1)) w' (by simp; omega) hr
          simp only [ByteArray.extract_zero_size] at km
          have hsi : (2 : Int) ≤ s.size := by omega
          clear hr hct hl hq
          generalize mg jescS (s.extract 1 (s.size - 1)) 0 = O at *
          cases O with
          | none =>
            have km' : ∀ w', Calls Tryd.prog 33 #[.string (s.extract 1 (s.size - 1)), .func (.func 34) #[] #[]] w' fun r w'' => r = .returned (.tuple #[.string ⟨#[]⟩, .bool false]) ∧ Below w'.heap.size w' w'' := km
            clear km
            go_enter Tryd.func10, Tryd.ntmps10
            go_wp2_with (first | (go_at_call 29; go_fit kv; rintro x w1 ⟨rfl, hb1⟩) | (go_at_call 30; go_fit (kp _); rintro x w2 ⟨rfl, rfl⟩) | (go_at_call 31; go_fit (kc _); rintro x w3 ⟨rfl, hb3⟩) | (go_at_call 32; go_fit (ki _); rintro x w4 ⟨rfl, rfl⟩) | (go_at_call 33; go_fit (km' _); rintro x w5 ⟨rfl, hb5⟩))
            go_ret2
            have hb4 := hb1.trans (hb3.mono hb1.size)
            exact ⟨rfl, hb4.trans (hb5.mono hb4.size)⟩
          | some l =>
            have km' : ∀ w', Calls Tryd.prog 33 #[.string (s.extract 1 (s.size - 1)), .func (.func 34) #[] #[]] w' fun r w'' => r = .returned (.tuple #[.string (strOfNums l), .bool true]) ∧ Below w'.heap.size w' w'' := km
            clear km
            go_enter Tryd.func10, Tryd.ntmps10
            go_wp2_with (first | (go_at_call 29; go_fit kv; rintro x w1 ⟨rfl, hb1⟩) | (go_at_call 30; go_fit (kp _); rintro x w2 ⟨rfl, rfl⟩) | (go_at_call 31; go_fit (kc _); rintro x w3 ⟨rfl, hb3⟩) | (go_at_call 32; go_fit (ki _); rintro x w4 ⟨rfl, rfl⟩) | (go_at_call 33; go_fit (km' _); rintro x w5 ⟨rfl, hb5⟩))
            go_ret2
            have hb4 := hb1.trans (hb3.mono hb1.size)
            exact ⟨rfl, hb4.trans (hb5.mono hb4.size)⟩
        · rw [show decide (litZ s 0 = ((s.size : Int), 0)) = false by simpa using hl] at ki
          rw [if_neg (fun h => hl h.2.2)]
          clear hct hl hq
          go_enter Tryd.func10, Tryd.ntmps10
          go_wp2_with (first | (go_at_call 29; go_fit kv; rintro x w1 ⟨rfl, hb1⟩) | (go_at_call 30; go_fit (kp _); rintro x w2 ⟨rfl, rfl⟩) | (go_at_call 31; go_fit (kc _); rintro x w3 ⟨rfl, hb3⟩) | (go_at_call 32; go_fit (ki _); rintro x w4 ⟨rfl, rfl⟩))
          go_ret2
          exact ⟨rfl, hb1.trans (hb3.mono hb1.size)⟩
    · rw [show decide (bt s 0 = 34) = false by simpa using hq] at kp
      rw [if_neg (fun h => hq h.1)]
      clear ki kc hq
      go_enter Tryd.func10, Tryd.ntmps10
      go_wp2_with (first | (go_at_call 29; go_fit kv; rintro x w1 ⟨rfl, hb1⟩) | (go_at_call 30; go_fit (kp _); rintro x w2 ⟨rfl, rfl⟩))
      go_ret2
      exact ⟨rfl, hb1⟩
end Go.Proofs.YtdnbkgbgpfmipabDoor
