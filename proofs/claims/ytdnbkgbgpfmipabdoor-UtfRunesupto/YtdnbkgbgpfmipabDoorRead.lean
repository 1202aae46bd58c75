/- The walk of readEscape. -/
import Derived.Test.YtdnbkgbgpfmipabDoorEsc
namespace Go.Proofs.YtdnbkgbgpfmipabDoor
open Go.RowKit Go.Lib

/-- The place of a letter among abtnvfr; -1: none. -/
def idx7 (c : Int) : Int := if c = 97 then 0 else if c = 98 then 1 else if c = 116 then 2 else if c = 110 then 3 else if c = 118 then 4 else if c = 102 then 5 else if c = 114 then 6 else -1
theorem idx7_fin : ∀ x : Fin 256, Lib.indexByte [97, 98, 116, 110, 118, 102, 114] (UInt8.ofNat x.val) = idx7 (x.val : Int) := by decide +kernel
theorem idx7_eq (c : Int) (h0 : 0 ≤ c) (h1 : c ≤ 255) : Lib.indexByte [97, 98, 116, 110, 118, 102, 114] c.toNat.toUInt8 = idx7 c := by
  have := idx7_fin ⟨c.toNat, by omega⟩
  simp only at this
  rw [Int.toNat_of_nonneg h0] at this
  exact this
theorem idx7_bd (c : Int) : -1 ≤ idx7 c ∧ idx7 c ≤ 6 := by
  unfold idx7
  repeat' split
  all_goals omega

/-- What the escape at the head of a text means, and its length. -/
def escS (e : ByteArray) (q : Int) : Option (List Int × Nat) :=
  if bt e 0 = 92 ∨ bt e 0 = q then some ([bt e 0], 1)
  else if 0 ≤ idx7 (bt e 0) then some ([7 + idx7 (bt e 0)], 1)
  else if bt e 0 = 120 then byteS e 1 2 16
  else if bt e 0 = 117 then runeS e 4
  else if bt e 0 = 85 then runeS e 8
  else byteS e 0 3 8

theorem escS_len (e : ByteArray) (q : Int) (xs : List Int) (c : Nat) (h : escS e q = some (xs, c)) : xs.length ≤ 4 ∧ 1 ≤ c := by
  have hb : ∀ p k base, byteS e p k base = some (xs, c) → 1 ≤ p + k → xs.length ≤ 4 ∧ 1 ≤ c := by
    intro p k base h hk
    unfold byteS at h
    split at h
    · split at h
      · simp only [Option.some.injEq, Prod.mk.injEq] at h
        obtain ⟨rfl, rfl⟩ := h
        exact ⟨by simp, hk⟩
      · cases h
    · cases h
  have hr : ∀ k, runeS e k = some (xs, c) → xs.length ≤ 4 ∧ 1 ≤ c := by
    intro k h
    unfold runeS at h
    split at h
    · rename_i n _
      split at h
      · simp only [Option.some.injEq, Prod.mk.injEq] at h
        obtain ⟨rfl, rfl⟩ := h
        exact ⟨formL_len n, by omega⟩
      · cases h
    · cases h
  unfold escS at h
  split at h
  · simp only [Option.some.injEq, Prod.mk.injEq] at h; obtain ⟨rfl, rfl⟩ := h; simp
  · split at h
    · simp only [Option.some.injEq, Prod.mk.injEq] at h; obtain ⟨rfl, rfl⟩ := h; simp
    · split at h
      · exact hb _ _ _ h (by omega)
      · split at h
        · exact hr _ h
        · split at h
          · exact hr _ h
          · exact hb _ _ _ h (by omega)

set_option maxHeartbeats 2000000 in
set_option maxRecDepth 100000 in
theorem readEscape_none (v : Value) (e : ByteArray) (q : Int) (w : World) (hp : 1 ≤ e.size) (h : escS e q = none) :
    Calls Tryd.prog 38 #[v, .string e, .int .u8 q] w fun r w' => r = .returned (.tuple #[v, .int .i64 0]) ∧ Below w.heap.size w w' := by
  have hpi : (0 : Int) < e.size := by omega
  have hx := bt_at e 0 (by omega)
  have hbd := bt_bd e 0
  have ki := fun w1 => Tryd.strings_IndexByte ⟨#[97, 98, 116, 110, 118, 102, 114]⟩ (bt e 0) w1
  have ki' : ∀ w1, Calls Tryd.prog 43 #[.string ⟨#[97, 98, 116, 110, 118, 102, 114]⟩, .int .u8 (bt e 0)] w1 fun r w' => r = .returned (.int .i64 (idx7 (bt e 0))) ∧ w' = w1 := fun w1 => by
    have := ki w1
    rw [show (ByteArray.mk #[97, 98, 116, 110, 118, 102, 114]).data.toList = [97, 98, 116, 110, 118, 102, 114] from rfl, idx7_eq _ hbd.1 hbd.2] at this
    exact this
  clear ki
  unfold escS at h
  by_cases h1 : bt e 0 = 92 ∨ bt e 0 = q
  · rw [if_pos h1] at h; cases h
  · rw [if_neg h1] at h
    have t1 : (bt e 0 == 92) = false := by rw [beq_eq_false_iff_ne]; omega
    have t2 : (bt e 0 == q) = false := by rw [beq_eq_false_iff_ne]; omega
    by_cases h2 : 0 ≤ idx7 (bt e 0)
    · rw [if_pos h2] at h; cases h
    · rw [if_neg h2] at h
      have kb1 := fun w1 => readByte_none v e 1 2 16 w1 (Or.inr rfl) (by omega) hp
      have kb2 := fun w1 => readByte_none v e 0 3 8 w1 (Or.inl rfl) (by omega) (by omega)
      have kr4 := fun w1 => readRune_none v e 4 w1 (by omega) hp
      have kr8 := fun w1 => readRune_none v e 8 w1 (by omega) hp
      generalize idx7 (bt e 0) = ix at *
      generalize bt e 0 = c at *
      have hix : ix < 0 := by omega
      by_cases h3 : c = 120
      · rw [if_pos h3] at h
        subst h3
        have k := kb1 w h
        clear kb1 kb2 kr4 kr8 h h1 h2
        go_enter Tryd.func38, Tryd.ntmps38
        go_wp2_with (first | (go_at_call 43; go_fit (ki' _); rintro x w1 ⟨rfl, rfl⟩) | (go_at_call 58; go_fit k; rintro x w2 ⟨rfl, hb⟩))
        go_ret2
        exact ⟨rfl, hb⟩
      · rw [if_neg h3] at h
        have t3 : (c == 120) = false := by rw [beq_eq_false_iff_ne]; exact h3
        by_cases h4 : c = 117
        · rw [if_pos h4] at h
          subst h4
          have k := kr4 w h
          clear kb1 kb2 kr4 kr8 h h1 h2 h3
          go_enter Tryd.func38, Tryd.ntmps38
          go_wp2_with (first | (go_at_call 43; go_fit (ki' _); rintro x w1 ⟨rfl, rfl⟩) | (go_at_call 59; go_fit k; rintro x w2 ⟨rfl, hb⟩))
          go_ret2
          exact ⟨rfl, hb⟩
        · rw [if_neg h4] at h
          have t4 : (c == 117) = false := by rw [beq_eq_false_iff_ne]; exact h4
          by_cases h5 : c = 85
          · rw [if_pos h5] at h
            subst h5
            have k := kr8 w h
            clear kb1 kb2 kr4 kr8 h h1 h2 h3 h4
            go_enter Tryd.func38, Tryd.ntmps38
            go_wp2_with (first | (go_at_call 43; go_fit (ki' _); rintro x w1 ⟨rfl, rfl⟩) | (go_at_call 59; go_fit k; rintro x w2 ⟨rfl, hb⟩))
            go_ret2
            exact ⟨rfl, hb⟩
          · rw [if_neg h5] at h
            have t5 : (c == 85) = false := by rw [beq_eq_false_iff_ne]; exact h5
            have k := kb2 w h
            clear kb1 kb2 kr4 kr8 h h1 h2 h3 h4 h5
            go_enter Tryd.func38, Tryd.ntmps38
            go_wp2_with (first | (go_at_call 43; go_fit (ki' _); rintro x w1 ⟨rfl, rfl⟩) | (go_at_call 58; go_fit k; rintro x w2 ⟨rfl, hb⟩))
            go_ret2
            exact ⟨rfl, hb⟩

set_option maxHeartbeats 2000000 in
set_option maxRecDepth 100000 in
theorem readEscape_some (S : Nat) (v : Value) (l xs : List Int) (n : Nat) (e : ByteArray) (q : Int) (w : World) (hp : 1 ≤ e.size)
    (hS : S ≤ w.heap.size) (hn : l.length + 4 ≤ 140737488355328) (o : w.ownsRow S 5 1 v l.length (bc l)) (h : escS e q = some (xs, n)) :
    Calls Tryd.prog 38 #[v, .string e, .int .u8 q] w fun r w' => ∃ v', r = .returned (.tuple #[v', .int .i64 n]) ∧ w'.ownsRow S 5 1 v' (l ++ xs).length (bc (l ++ xs)) ∧ Below S w w' := by
  have hpi : (0 : Int) < e.size := by omega
  have hx := bt_at e 0 (by omega)
  have hbd := bt_bd e 0
  have ki := fun w1 => Tryd.strings_IndexByte ⟨#[97, 98, 116, 110, 118, 102, 114]⟩ (bt e 0) w1
  have ki' : ∀ w1, Calls Tryd.prog 43 #[.string ⟨#[97, 98, 116, 110, 118, 102, 114]⟩, .int .u8 (bt e 0)] w1 fun r w' => r = .returned (.int .i64 (idx7 (bt e 0))) ∧ w' = w1 := fun w1 => by
    have := ki w1
    rw [show (ByteArray.mk #[97, 98, 116, 110, 118, 102, 114]).data.toList = [97, 98, 116, 110, 118, 102, 114] from rfl, idx7_eq _ hbd.1 hbd.2] at this
    exact this
  clear ki
  unfold escS at h
  by_cases h1 : bt e 0 = 92 ∨ bt e 0 = q
  · rw [if_pos h1] at h
    simp only [Option.some.injEq, Prod.mk.injEq] at h
    obtain ⟨rfl, rfl⟩ := h
    obtain ⟨v', w', r1, o1, b1⟩ := append_one w S v l (bt e 0) hS (by omega) o
    generalize bt e 0 = c at *
    clear o ki'
    by_cases h92 : c = 92
    · have t1 : (c == 92) = true := by rw [beq_iff_eq]; exact h92
      clear h92 h1
      go_enter Tryd.func38, Tryd.ntmps38
      go_wp2_with (at_builtin; refine wpList_append_run rfl (.tmp 19) (.tmp 21) 29 29 rfl _ _ rfl rfl r1 ?_)
      go_ret2
      exact ⟨v', rfl, o1, b1⟩
    · have t1 : (c == 92) = false := by rw [beq_eq_false_iff_ne]; exact h92
      have t2 : (c == q) = true := by rw [beq_iff_eq]; omega
      clear h92 h1
      go_enter Tryd.func38, Tryd.ntmps38
      go_wp2_with (at_builtin; refine wpList_append_run rfl (.tmp 19) (.tmp 21) 29 29 rfl _ _ rfl rfl r1 ?_)
      go_ret2
      exact ⟨v', rfl, o1, b1⟩
  · rw [if_neg h1] at h
    have t1 : (bt e 0 == 92) = false := by rw [beq_eq_false_iff_ne]; omega
    have t2 : (bt e 0 == q) = false := by rw [beq_eq_false_iff_ne]; omega
    by_cases h2 : 0 ≤ idx7 (bt e 0)
    · rw [if_pos h2] at h
      simp only [Option.some.injEq, Prod.mk.injEq] at h
      obtain ⟨rfl, rfl⟩ := h
      have hib := idx7_bd (bt e 0)
      obtain ⟨v', w', r1, o1, b1⟩ := append_one w S v l (7 + idx7 (bt e 0)) hS (by omega) o
      generalize idx7 (bt e 0) = ix at *
      generalize bt e 0 = c at *
      clear o h1
      have hcs : ix = 0 ∨ ix = 1 ∨ ix = 2 ∨ ix = 3 ∨ ix = 4 ∨ ix = 5 ∨ ix = 6 := by omega
      clear hib h2
      rcases hcs with rfl | rfl | rfl | rfl | rfl | rfl | rfl
      all_goals
        go_enter Tryd.func38, Tryd.ntmps38
        go_wp2_with (first | (go_at_call 43; go_fit (ki' _); rintro x w1 ⟨rfl, rfl⟩) | (at_builtin; refine wpList_append_run rfl (.tmp 27) (.tmp 30) 29 29 rfl _ _ rfl rfl r1 ?_))
        go_ret2
        exact ⟨v', rfl, o1, b1⟩
    · rw [if_neg h2] at h
      have kb1 := fun w1 => readByte_some S v l xs n e 1 2 16 w1 (Or.inr rfl) (by omega) (by omega) hp
      have kb2 := fun w1 => readByte_some S v l xs n e 0 3 8 w1 (Or.inl rfl) (by omega) (by omega) (by omega)
      have kr4 := fun w1 => readRune_some S v l xs n e 4 w1 (by omega) hp
      have kr8 := fun w1 => readRune_some S v l xs n e 8 w1 (by omega) hp
      generalize idx7 (bt e 0) = ix at *
      generalize bt e 0 = c at *
      have hix : ix < 0 := by omega
      by_cases h3 : c = 120
      · rw [if_pos h3] at h
        subst h3
        have k := kb1 w hS (by omega) o h
        clear kb1 kb2 kr4 kr8 h h1 h2 o
        go_enter Tryd.func38, Tryd.ntmps38
        go_wp2_with (first | (go_at_call 43; go_fit (ki' _); rintro x w1 ⟨rfl, rfl⟩) | (go_at_call 58; go_fit k; rintro x w2 ⟨v', rfl, o1, hb⟩))
        go_ret2
        exact ⟨v', rfl, o1, hb⟩
      · rw [if_neg h3] at h
        have t3 : (c == 120) = false := by rw [beq_eq_false_iff_ne]; exact h3
        by_cases h4 : c = 117
        · rw [if_pos h4] at h
          subst h4
          have k := kr4 w hS (by omega) o h
          clear kb1 kb2 kr4 kr8 h h1 h2 h3 o
          go_enter Tryd.func38, Tryd.ntmps38
          go_wp2_with (first | (go_at_call 43; go_fit (ki' _); rintro x w1 ⟨rfl, rfl⟩) | (go_at_call 59; go_fit k; rintro x w2 ⟨v', rfl, o1, hb⟩))
          go_ret2
          exact ⟨v', rfl, o1, hb⟩
        · rw [if_neg h4] at h
          have t4 : (c == 117) = false := by rw [beq_eq_false_iff_ne]; exact h4
          by_cases h5 : c = 85
          · rw [if_pos h5] at h
            subst h5
            have k := kr8 w hS (by omega) o h
            clear kb1 kb2 kr4 kr8 h h1 h2 h3 h4 o
            go_enter Tryd.func38, Tryd.ntmps38
            go_wp2_with (first | (go_at_call 43; go_fit (ki' _); rintro x w1 ⟨rfl, rfl⟩) | (go_at_call 59; go_fit k; rintro x w2 ⟨v', rfl, o1, hb⟩))
            go_ret2
            exact ⟨v', rfl, o1, hb⟩
          · rw [if_neg h5] at h
            have t5 : (c == 85) = false := by rw [beq_eq_false_iff_ne]; exact h5
            have k := kb2 w hS (by omega) o h
            clear kb1 kb2 kr4 kr8 h h1 h2 h3 h4 h5 o
            go_enter Tryd.func38, Tryd.ntmps38
            go_wp2_with (first | (go_at_call 43; go_fit (ki' _); rintro x w1 ⟨rfl, rfl⟩) | (go_at_call 58; go_fit k; rintro x w2 ⟨v', rfl, o1, hb⟩))
            go_ret2
            exact ⟨v', rfl, o1, hb⟩
end Go.Proofs.YtdnbkgbgpfmipabDoor
