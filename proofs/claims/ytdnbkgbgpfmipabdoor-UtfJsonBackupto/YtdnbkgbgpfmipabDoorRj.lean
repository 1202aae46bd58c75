/- The walks of readJsonEscape. -/
import Derived.Test.YtdnbkgbgpfmipabDoorJesc
namespace Go.Proofs.YtdnbkgbgpfmipabDoor
open Go.RowKit Go.Lib

abbrev jl : ByteArray := ⟨#[98, 116, 110, 102, 114]⟩
abbrev jm : ByteArray := ⟨#[8, 9, 10, 12, 13]⟩
def jidx (c : Int) : Int := if c = 98 then 0 else if c = 116 then 1 else if c = 110 then 2 else if c = 102 then 3 else if c = 114 then 4 else -1
theorem jidx_fin : ∀ x : Fin 256, Lib.indexByte jl.data.toList (UInt8.ofNat x.val) = jidx (x.val : Int) := by decide +kernel
theorem jidx_eq (c : Int) (h0 : 0 ≤ c) (h1 : c ≤ 255) : Lib.indexByte jl.data.toList c.toNat.toUInt8 = jidx c := by
  have := jidx_fin ⟨c.toNat, by omega⟩
  simp only [Int.toNat_of_nonneg h0] at this
  exact this
theorem jm_at (c : Int) (h : 0 ≤ jidx c) : jidx c < 5 ∧ 0 ≤ jmeans c ∧ ∀ hh : (jidx c).toNat < 5, ((jm[(jidx c).toNat]'hh).toNat : Int) = jmeans c := by
  obtain rfl | rfl | rfl | rfl | rfl : c = 98 ∨ c = 116 ∨ c = 110 ∨ c = 102 ∨ c = 114 := by
    unfold jidx at h
    repeat' split at h
    all_goals omega
  all_goals exact ⟨by decide, by decide, fun _ => rfl⟩
theorem jidx_neg (c : Int) (h : ¬ 0 ≤ jidx c) : jidx c = -1 ∧ ¬ 0 ≤ jmeans c := by
  unfold jidx at h ⊢
  unfold jmeans
  by_cases h1 : c = 98
  · rw [if_pos h1] at h; omega
  · rw [if_neg h1] at h ⊢; rw [if_neg h1]
    by_cases h2 : c = 116
    · rw [if_pos h2] at h; omega
    · rw [if_neg h2] at h ⊢; rw [if_neg h2]
      by_cases h3 : c = 110
      · rw [if_pos h3] at h; omega
      · rw [if_neg h3] at h ⊢; rw [if_neg h3]
        by_cases h4 : c = 102
        · rw [if_pos h4] at h; omega
        · rw [if_neg h4] at h ⊢; rw [if_neg h4]
          by_cases h5 : c = 114
          · rw [if_pos h5] at h; omega
          · rw [if_neg h5, if_neg h5]; exact ⟨rfl, by omega⟩

set_option maxHeartbeats 4000000 in
set_option maxRecDepth 100000 in
theorem readJ_none (v : Value) (e : ByteArray) (w : World) (hp : 1 ≤ e.size) (h : jescS e = none) :
    Calls Tryd.prog 34 #[v, .string e] w fun r w' => r = .returned (.tuple #[v, .int .i64 0]) ∧ Below w.heap.size w w' := by
  have hpi : (0 : Int) < e.size := by omega
  have hx := bt_at e 0 (by omega)
  have hbd := bt_bd e 0
  have ki := fun w1 => Tryd.strings_IndexByte jl (bt e 0) w1
  rw [jidx_eq _ hbd.1 hbd.2] at ki
  unfold jescS at h
  by_cases h1 : bt e 0 = 117
  · rw [if_pos h1] at h
    have k := fun w1 => readUnits_none v e w1 hp h
    rw [h1] at hx
    clear h ki hbd
    go_enter Tryd.func34, Tryd.ntmps34
    go_wp2_with (go_at_call 56; go_fit (k _); rintro x w1 ⟨rfl, hb⟩)
    go_ret2
    exact ⟨rfl, hb⟩
  · rw [if_neg h1] at h
    by_cases h2 : bt e 0 = 34 ∨ bt e 0 = 92 ∨ bt e 0 = 47
    · rw [if_pos h2] at h; cases h
    · rw [if_neg h2] at h
      by_cases h3 : 0 ≤ jidx (bt e 0)
      · have := jm_at _ h3
        rw [if_pos this.2.1] at h; cases h
      · have hj := jidx_neg _ h3
        rw [hj.1] at ki
        generalize bt e 0 = c at *
        have t1 : (c == 117) = false := by rw [beq_eq_false_iff_ne]; exact h1
        have t2 : (c == 34) = false := by rw [beq_eq_false_iff_ne]; omega
        have t3 : (c == 92) = false := by rw [beq_eq_false_iff_ne]; omega
        have t4 : (c == 47) = false := by rw [beq_eq_false_iff_ne]; omega
        clear h h1 h2 h3 hj
        go_enter Tryd.func34, Tryd.ntmps34
        go_wp2_with (go_at_call 43; go_fit (ki _); rintro x w1 ⟨rfl, rfl⟩)
        go_ret2
        exact ⟨rfl, Below.refl _ _⟩

set_option maxHeartbeats 4000000 in
set_option maxRecDepth 100000 in
theorem readJ_some (S : Nat) (v : Value) (l xs : List Int) (n : Nat) (e : ByteArray) (w : World) (hp : 1 ≤ e.size)
    (hS : S ≤ w.heap.size) (hn : l.length + 4 ≤ 140737488355328) (o : w.ownsRow S 5 1 v l.length (bc l)) (h : jescS e = some (xs, n)) :
    Calls Tryd.prog 34 #[v, .string e] w fun r w' => ∃ v', r = .returned (.tuple #[v', .int .i64 n]) ∧ w'.ownsRow S 5 1 v' (l ++ xs).length (bc (l ++ xs)) ∧ Below S w w' := by
  have hpi : (0 : Int) < e.size := by omega
  have hx := bt_at e 0 (by omega)
  have hbd := bt_bd e 0
  have ki := fun w1 => Tryd.strings_IndexByte jl (bt e 0) w1
  rw [jidx_eq _ hbd.1 hbd.2] at ki
  unfold jescS at h
  by_cases h1 : bt e 0 = 117
  · rw [if_pos h1] at h
    have k := readUnits_some S v l xs n e w hp hS hn o h
    rw [h1] at hx
    clear h ki hbd o
    go_enter Tryd.func34, Tryd.ntmps34
    go_wp2_with (go_at_call 56; go_fit k; rintro x w1 ⟨v', rfl, o1, hb⟩)
    go_ret2
    exact ⟨v', rfl, o1, hb⟩
  · rw [if_neg h1] at h
    by_cases h2 : bt e 0 = 34 ∨ bt e 0 = 92 ∨ bt e 0 = 47
    · rw [if_pos h2] at h
      simp only [Option.some.injEq, Prod.mk.injEq] at h
      obtain ⟨rfl, rfl⟩ := h
      obtain ⟨v', w', r1, o1, b1⟩ := append_one w S v l (bt e 0) hS (by omega) o
      have HO : Hid (w'.ownsRow S 5 1 v' (l ++ [bt e 0]).length (bc (l ++ [bt e 0]))) := o1
      generalize bt e 0 = c at *
      have t1 : (c == 117) = false := by rw [beq_eq_false_iff_ne]; exact h1
      clear o1 o ki h1
      by_cases a1 : c = 34
      · have t2 : (c == 34) = true := by rw [beq_iff_eq]; exact a1
        clear h2 a1
        go_enter Tryd.func34, Tryd.ntmps34
        go_wp2_with (at_builtin; refine wpList_append_run rfl (.tmp 27) (.tmp 29) 29 29 rfl _ _ rfl rfl r1 ?_)
        go_ret2
        exact ⟨v', rfl, HO.out, b1⟩
      · have t2 : (c == 34) = false := by rw [beq_eq_false_iff_ne]; exact a1
        by_cases a2 : c = 92
        · have t3 : (c == 92) = true := by rw [beq_iff_eq]; exact a2
          clear h2 a1 a2
          go_enter Tryd.func34, Tryd.ntmps34
          go_wp2_with (at_builtin; refine wpList_append_run rfl (.tmp 27) (.tmp 29) 29 29 rfl _ _ rfl rfl r1 ?_)
          go_ret2
          exact ⟨v', rfl, HO.out, b1⟩
        · have t3 : (c == 92) = false := by rw [beq_eq_false_iff_ne]; exact a2
          have t4 : (c == 47) = true := by rw [beq_iff_eq]; omega
          clear h2 a1 a2
          go_enter Tryd.func34, Tryd.ntmps34
          go_wp2_with (at_builtin; refine wpList_append_run rfl (.tmp 27) (.tmp 29) 29 29 rfl _ _ rfl rfl r1 ?_)
          go_ret2
          exact ⟨v', rfl, HO.out, b1⟩
    · rw [if_neg h2] at h
      by_cases h3 : 0 ≤ jidx (bt e 0)
      · obtain ⟨j1, j2, j3⟩ := jm_at _ h3
        rw [if_pos j2] at h
        simp only [Option.some.injEq, Prod.mk.injEq] at h
        obtain ⟨rfl, rfl⟩ := h
        obtain ⟨v', w', r1, o1, b1⟩ := append_one w S v l (jmeans (bt e 0)) hS (by omega) o
        have HO : Hid (w'.ownsRow S 5 1 v' (l ++ [jmeans (bt e 0)]).length (bc (l ++ [jmeans (bt e 0)]))) := o1
        clear o1 o
        generalize bt e 0 = c at *
        have hjm := j3 (by omega)
        clear j3
        have t1 : (c == 117) = false := by rw [beq_eq_false_iff_ne]; exact h1
        have t2 : (c == 34) = false := by rw [beq_eq_false_iff_ne]; omega
        have t3 : (c == 92) = false := by rw [beq_eq_false_iff_ne]; omega
        have t4 : (c == 47) = false := by rw [beq_eq_false_iff_ne]; omega
        clear h1 h2
        go_enter Tryd.func34, Tryd.ntmps34
        go_wp2_with (first | (go_at_call 43; go_fit (ki _); rintro x w1 ⟨rfl, rfl⟩) | (at_builtin; refine wpList_append_run rfl (.tmp 35) (.tmp 38) 29 29 rfl _ _ rfl rfl r1 ?_))
        go_ret2
        exact ⟨v', rfl, HO.out, b1⟩
      · have hj := jidx_neg _ h3
        rw [if_neg hj.2] at h; cases h

/-- What an escape of JSON takes up, and that no backslash dangles behind it. -/
theorem jesc_takes (s : ByteArray) (p : Nat) (xs : List Int) (c : Nat) (h : p < s.size) (hb : bt s p = 92) (hr : rd s p = true) (he : jescS (s.extract (p + 1) s.size) = some (xs, c)) :
    p + 1 + c ≤ s.size ∧ 1 ≤ c ∧ xs.length ≤ c + 1 ∧ rd s (p + 1 + c) = true := by
  obtain ⟨h1, h2⟩ := (rd_bs s p h hb).1 hr
  have hbx : ∀ i, bt (s.extract (p + 1) s.size) i = bt s (p + 1 + i) := fun i => bt_extract s (p + 1) i
  have hsz : (s.extract (p + 1) s.size).size = s.size - (p + 1) := by simp
  have hrun : ∀ k, p + 2 + k ≤ s.size → (∀ j, p + 2 ≤ j → j < p + 2 + k → dg (bt s j) < 16) → rd s (p + 2 + k) = true := fun k hk hd => by
    rw [← rd_run s k (p + 2) hk (fun j a b => (dg_not _ (hd j a b)).1)]; exact h2
  have hone : xs.length = 1 → c = 1 → p + 1 + c ≤ s.size ∧ 1 ≤ c ∧ xs.length ≤ c + 1 ∧ rd s (p + 1 + c) = true := fun e1 e2 => by
    subst e2
    exact ⟨by omega, by omega, by omega, h2⟩
  unfold jescS at he
  split at he
  · unfold unitsS at he
    split at he
    · rename_i n hn
      rw [suffix_suffix s (p + 1) 1 (by omega)] at hn
      have hd := num_digits s (p + 1 + 1) 4 16 n (by omega) (by omega) hn
      have hr4 := hrun 4 (by omega) (fun j a b => hd.2 j (by omega) (by omega))
      split at he
      · split at he
        · rename_i m hm
          simp only [Option.some.injEq, Prod.mk.injEq] at he
          obtain ⟨rfl, rfl⟩ := he
          unfold halfS at hm
          split at hm
          · rename_i hq
            rw [hbx, hbx] at hq
            split at hm
            · rename_i m2 hm2
              rw [suffix_suffix s (p + 1) 7 (by omega)] at hm2
              have hd2 := num_digits s (p + 1 + 7) 4 16 m2 (by omega) (by omega) hm2
              have hbs : bt s (p + 6) = 92 := by rw [show p + 6 = p + 1 + 5 by omega]; exact hq.2.1
              obtain ⟨g1, g2⟩ := (rd_bs s (p + 6) (by omega) hbs).1 (by rw [show p + 6 = p + 2 + 4 by omega]; exact hr4)
              have g3 := rd_run s 4 (p + 8) (by omega) (fun j a b => (dg_not _ (hd2.2 j (by omega) (by omega))).1)
              have hfl := formL_len (65536 + (n - 55296) * 1024 + (m - 56320))
              refine ⟨by omega, by omega, by omega, ?_⟩
              rw [show p + 1 + 11 = p + 8 + 4 by omega, ← g3]
              exact g2
            · cases hm
          · cases hm
        · cases he
      · unfold runeS at he
        split at he
        · split at he
          · simp only [Option.some.injEq, Prod.mk.injEq] at he
            obtain ⟨rfl, rfl⟩ := he
            rename_i n2 _ _
            have hfl := formL_len n2
            refine ⟨by omega, by omega, by omega, ?_⟩
            rw [show p + 1 + (1 + 4) = p + 2 + 4 by omega]; exact hr4
          · cases he
        · cases he
    · cases he
  · split at he
    · simp only [Option.some.injEq, Prod.mk.injEq] at he
      obtain ⟨rfl, rfl⟩ := he
      exact hone rfl rfl
    · split at he
      · simp only [Option.some.injEq, Prod.mk.injEq] at he
        obtain ⟨rfl, rfl⟩ := he
        exact hone rfl rfl
      · cases he
end Go.Proofs.YtdnbkgbgpfmipabDoor
