/- The walks of the reference's closed and Unjson. -/
import Derived.Test.YtdnbkgbgpfmipabDoorRefJ
namespace Go.Proofs.YtdnbkgbgpfmipabDoor
open Go.RowKit Go.Lib

theorem bts_mem (s : ByteArray) : ∀ (k i : Nat) (x : Int), x ∈ bts s k i ↔ ∃ j, i ≤ j ∧ j < i + k ∧ x = bt s j
  | 0, i, x => by simp [bts]; omega
  | k + 1, i, x => by
    rw [bts, List.mem_cons, bts_mem s k (i + 1) x]
    constructor
    · rintro (rfl | ⟨j, a, b, rfl⟩)
      · exact ⟨i, by omega, by omega, rfl⟩
      · exact ⟨j, by omega, by omega, rfl⟩
    · rintro ⟨j, a, b, rfl⟩
      by_cases h : j = i
      · left; rw [h]
      · right; exact ⟨j, by omega, by omega, rfl⟩
theorem ctl_iff (s : ByteArray) (hv : vld s s.size 0 = true) : ctF s s.size 0 = false ↔ ∀ i, i < s.size → 32 ≤ bt s i := by
  rw [ctF_bytes s s.size 0 (by omega) (by omega) hv, Nat.sub_zero, List.any_eq_false]
  constructor
  · intro h i hi
    have := h (bt s i) ((bts_mem s s.size 0 _).2 ⟨i, by omega, by omega, rfl⟩)
    simp at this
    exact this
  · intro h x hx
    obtain ⟨j, _, b, rfl⟩ := (bts_mem s s.size 0 x).1 hx
    have := h j (by omega)
    simp; omega
theorem litZ_iff (s : ByteArray) (h : 0 < s.size) (hq : bt s 0 = 34) : litZ s 0 = ((s.size : Int), 0) ↔ litF s 34 true s.size 1 = some s.size := by
  constructor
  · intro hl
    have := (lit_parts s hl).2.2
    rw [hq] at this
    exact this
  · intro hl
    unfold litZ litR
    rw [if_pos (by omega)]
    simp only [Int.toNat_zero, Nat.zero_add]
    rw [if_pos ⟨h, Or.inl hq⟩]
    have e : litF s (bt s 0) (decide (bt s 0 ≠ 96)) s.size 1 = some s.size := by simp only [hq]; exact hl
    rw [e]; rfl

set_option maxHeartbeats 4000000 in
theorem rclosed_any (s : ByteArray) (w : World) (hs : s.size ≤ 140737488351232) (hv : vld s s.size 0 = true) :
    Calls Tryd.prog 48 #[.string s] w fun e w' => e = .returned (.bool (decide (ujC s))) ∧ w' = w := by
  by_cases h2 : s.size < 2
  · rw [show decide (ujC s) = false from decide_eq_false (fun hh => by have := (lit_parts s hh.2.2).1; omega)]
    have h2i : (s.size : Int) < 2 := by omega
    clear hv
    go_enter Tryd.func48, Tryd.ntmps48
    go_wp2
    go_ret
    exact ⟨rfl, rfl⟩
  · have h2i : ¬ (s.size : Int) < 2 := by omega
    have h0i : (0 : Int) < s.size := by omega
    have hx0 := bt_at s 0 (by omega)
    by_cases hq : bt s 0 = 34
    · rw [hq] at hx0
      generalize hO : decide (ujC s) = O
      have HO : Hid (decide (ujC s) = O) := hO
      have HC : Hid (ctF s s.size 0 = false ↔ ∀ i, i < s.size → 32 ≤ bt s i) := ctl_iff s hv
      have HZ : Hid (litZ s 0 = ((s.size : Int), 0) ↔ litF s 34 true s.size 1 = some s.size) := litZ_iff s (by omega) hq
      have HQ : Hid (bt s 0 = 34) := hq
      clear hO hv hq
      go_enter Tryd.func48, Tryd.ntmps48
      go_wp2
      go_loopw [3] (fun t w' => ∃ i : Nat, t = .int .i64 (i : Int) ∧ i ≤ s.size ∧ Hid (∀ k, k < i → 32 ≤ bt s k) ∧ w' = w) (fun t _ => s.size - (RowKit.intOf t).toNat)
      case atStart => exact ⟨0, rfl, by omega, (fun k hk => by omega : ∀ k, k < 0 → 32 ≤ bt s k), rfl⟩
      case round =>
        obtain ⟨i, rfl, hi, hh, rfl⟩ := hrel
        by_cases hlt : i < s.size
        · have hx := bt_at s i hlt
          have hii : (i : Int) < s.size := by omega
          by_cases hc : bt s i < 32
          · have HE : Hid (O = false) := by
              show _ = _
              rw [← HO.out]
              refine decide_eq_false ?_
              rintro ⟨_, h, _⟩
              have := HC.out.1 h i hlt
              omega
            generalize bt s i = c at *
            clear hh
            go_wp2
            go_ret
            exact ⟨by rw [HE.out]; rfl, rfl⟩
          · have HN : Hid (∀ k, k < i + 1 → 32 ≤ bt s k) := (fun k hk => by
              by_cases h : k < i
              · exact hh.out k h
              · have : k = i := by omega
                subst this; omega : ∀ k, k < i + 1 → 32 ≤ bt s k)
            generalize bt s i = c at *
            clear hh
            go_wp2
            go_roundw
            case rel => exact ⟨i + 1, rfl, by omega, HN, trivial⟩
            case measure => simp [RowKit.intOf]; omega
        · have hii : ¬ (i : Int) < s.size := by omega
          have HN : Hid (∀ k, k < s.size → 32 ≤ bt s k) := (fun k hk => hh.out k (by omega) : ∀ k, k < s.size → 32 ≤ bt s k)
          have HE : Hid (O = decide (litF s 34 true s.size 1 = some s.size)) := by
            show _ = _
            rw [← HO.out]
            have e : ujC s ↔ litF s 34 true s.size 1 = some s.size := ⟨fun h => HZ.out.1 h.2.2, fun h => ⟨HQ.out, HC.out.2 HN.out, HZ.out.2 h⟩⟩
            simp [e]
          clear hh
          go_wp2
          go_loopw [4] (fun t w' => ∃ i : Nat, t = .int .i64 (i : Int) ∧ i ≤ s.size + 1 ∧ Hid (O = decide (litF s 34 true s.size i = some s.size)) ∧ w' = wr) (fun t _ => s.size + 1 - (RowKit.intOf t).toNat)
          case atStart => exact ⟨1, rfl, by omega, HE, rfl⟩
          case round =>
            obtain ⟨i, rfl, hi, hh, rfl⟩ := hrel
            by_cases hlt : i < s.size
            · have hx := bt_at s i hlt
              have hii : (i : Int) < s.size := by omega
              have h32 := HN.out i hlt
              by_cases hc : bt s i = 34
              · have HR : Hid (O = decide (i + 1 = s.size)) := by
                  show _ = _
                  rw [hh.out, litF_q s 34 true s.size i hlt (by omega) hc]
                  simp
                rw [hc] at hx
                clear hh
                by_cases hl : i + 1 = s.size
                · have hli : ((i : Int) == (s.size : Int) - 1) = true := by rw [beq_iff_eq]; omega
                  go_wp2
                  go_ret
                  exact ⟨by rw [HR.out]; simp [hl], rfl⟩
                · have hli : ((i : Int) == (s.size : Int) - 1) = false := by rw [beq_eq_false_iff_ne]; omega
                  go_wp2
                  go_ret
                  exact ⟨by rw [HR.out]; simp [hl], rfl⟩
              · by_cases hb : bt s i = 92
                · have HR : Hid (O = decide (litF s 34 true s.size (i + 2) = some s.size)) := by
                    show _ = _
                    rw [hh.out, litF_bs s 34 s.size i hlt (by omega) hc hb (fun h => by have := HN.out (i + 1) h.1; omega), litF_fuel s 34 true (s.size - 1) s.size (i + 2) (by omega) (by omega)]
                  rw [hb] at hx
                  clear hh
                  go_wp2
                  go_roundw
                  case rel => exact ⟨i + 2, rfl, by omega, HR, trivial⟩
                  case measure => simp [RowKit.intOf]; omega
                · have HR : Hid (O = decide (litF s 34 true s.size (i + 1) = some s.size)) := by
                    show _ = _
                    rw [hh.out, litF_go s 34 true s.size i hlt (by omega) hc (fun h => by omega) (fun h => hb h.2), litF_fuel s 34 true (s.size - 1) s.size (i + 1) (by omega) (by omega)]
                  generalize bt s i = c at *
                  have tc : (c == 34) = false := by rw [beq_eq_false_iff_ne]; exact hc
                  have tb : (c == 92) = false := by rw [beq_eq_false_iff_ne]; exact hb
                  clear hh
                  go_wp2
                  go_roundw
                  case rel => exact ⟨i + 1, rfl, by omega, HR, trivial⟩
                  case measure => simp [RowKit.intOf]; omega
            · have hii : ¬ (i : Int) < s.size := by omega
              have HR : Hid (O = false) := by
                show _ = _
                rw [hh.out, litF_end s 34 true s.size i hlt]; simp
              clear hh
              go_wp2
              go_ret
              exact ⟨by rw [HR.out]; rfl, rfl⟩
    · rw [show decide (ujC s) = false from decide_eq_false (fun h => hq h.1)]
      generalize bt s 0 = c at *
      have tc : (c == 34) = false := by rw [beq_eq_false_iff_ne]; exact hq
      clear hv hq
      go_enter Tryd.func48, Tryd.ntmps48
      go_wp2
      go_ret
      exact ⟨rfl, rfl⟩

theorem jesc_bd (e : ByteArray) (xs : List Int) (c : Nat) (h : jescS e = some (xs, c)) : ∀ x ∈ xs, 0 ≤ x ∧ x ≤ 255 := by
  have hbd := bt_bd e 0
  have hjb := jmeans_bd (bt e 0)
  unfold jescS at h
  split at h
  · unfold unitsS at h
    split at h
    · split at h
      · split at h
        · simp only [Option.some.injEq, Prod.mk.injEq] at h
          obtain ⟨rfl, rfl⟩ := h
          exact formL_bd _
        · cases h
      · unfold runeS at h
        split at h
        · split at h
          · simp only [Option.some.injEq, Prod.mk.injEq] at h
            obtain ⟨rfl, rfl⟩ := h
            exact formL_bd _
          · cases h
        · cases h
    · cases h
  · split at h
    · simp only [Option.some.injEq, Prod.mk.injEq] at h
      obtain ⟨rfl, rfl⟩ := h
      intro x hx
      simp at hx
      omega
    · split at h
      · simp only [Option.some.injEq, Prod.mk.injEq] at h
        obtain ⟨rfl, rfl⟩ := h
        intro x hx
        simp at hx
        omega
      · cases h

set_option maxHeartbeats 4000000 in
set_option maxRecDepth 100000 in
theorem runj_esc (s : ByteArray) (w : World) (hs : s.size ≤ 140737488351232) (hv : vld s s.size 0 = true) (hl : ujC s) :
    Calls Tryd.prog 26 #[.string s] w fun r w' => r = .returned (.tuple #[.string (ujV (mg jescS (s.extract 1 (s.size - 1)) 0)).1, .int .i64 (ujV (mg jescS (s.extract 1 (s.size - 1)) 0)).2]) ∧ Below w.heap.size w w' := by
  have kv := rvalid_any s w (by unfold maxLen; omega)
  have kl := fun w' => rclosed_any s w' hs hv
  rw [hv] at kv
  rw [show decide (ujC s) = true by simpa using hl] at kl
  have h2 := (lit_parts s hl.2.2).1
  have hr := lit_body s hl.2.2 (by have := hl.1; omega)
  clear hv hl
  have hbz : (s.extract 1 (s.size - 1)).size = s.size - 2 := by simp; omega
  have hbt : Hid (∀ i, 1 ≤ i → i < s.size - 1 → bt (s.extract 1 (s.size - 1)) (i - 1) = bt s i) := fun i h1 hi => by rw [bt_ext s 1 (s.size - 1) (i - 1) (by omega) (by omega), show 1 + (i - 1) = i by omega]
  have hes : Hid (∀ i, 1 ≤ i → i < s.size - 1 → (s.extract 1 (s.size - 1)).extract (i - 1 + 1) (s.extract 1 (s.size - 1)).size = s.extract (i + 1) (s.size - 1)) := fun i h1 hi => by
    rw [hbz, ByteArray.extract_extract]; congr 1 <;> omega
  generalize hO : mg jescS (s.extract 1 (s.size - 1)) 0 = O
  have HO : Hid (mg jescS (s.extract 1 (s.size - 1)) 0 = O) := hO
  have HR : Hid (rd (s.extract 1 (s.size - 1)) 0 = true) := hr
  clear hO hr
  generalize hB : s.extract 1 (s.size - 1) = B at *
  clear hB
  have hsi : (2 : Int) ≤ s.size := by omega
  go_enter Tryd.func26, Tryd.ntmps26
  go_wp2_with (first | (go_at_call 40; go_fit kv; rintro x w1 ⟨rfl, hb1⟩) | (go_at_call 48; go_fit (kl _); rintro x w2 ⟨rfl, rfl⟩))
  go_loopw [4, 5] (fun b t w' => ∃ (i : Nat) (l : List Int), w'.ownsRow w.heap.size 5 1 b l.length (bc l) ∧ t = .int .i64 (i : Int) ∧ 1 ≤ i ∧ i ≤ s.size - 1 ∧ rd B (i - 1) = true ∧ (mg jescS B (i - 1)).map (l ++ ·) = O ∧ l.length ≤ i ∧ Below w.heap.size w w') (fun _ t _ => s.size - (RowKit.intOf t).toNat)
  case atStart => exact ⟨1, [], World.ownsRow_nil _ _ _ _, rfl, by omega, by omega, HR.out, by rw [show 1 - 1 = 0 from rfl, HO.out]; cases O <;> rfl, by simp, hb1⟩
  case round =>
    obtain ⟨i, l, hown, rfl, hi1, hi2, hrd, hm, hlp, hbw⟩ := hrel
    by_cases hie : i < s.size - 1
    · have hx := bt_at s i (by omega)
      have hii : (i : Int) < (s.size : Int) - 1 := by omega
      have hbe := hbt.out i hi1 hie
      by_cases h92 : bt s i = 92
      · have hpl : i - 1 < B.size := by omega
        have hat : bt B (i - 1) = 92 := by rw [hbe]; exact h92
        obtain ⟨hb1', hr2⟩ := (rd_bs B _ hpl hat).1 hrd
        have ke := fun w' => rjesc_any s i (s.size - 1) w' (by omega) (by omega) (by omega)
        rw [← hes.out i hi1 hie] at ke
        rw [show ((s.size - 1 : Nat) : Int) = (s.size : Int) - 1 by omega] at ke
        rw [h92] at hx
        cases hesc : jescS (B.extract (i - 1 + 1) B.size) with
        | none =>
          rw [hesc] at ke
          have ke' : ∀ w', Calls Tryd.prog 49 #[.string s, .int .i64 i, .int .i64 ((s.size : Int) - 1)] w' fun r w'' => r = .returned (.tuple #[.string ⟨#[]⟩, .int .i64 0]) ∧ Below w'.heap.size w' w'' := ke
          have HE : Hid (O = none) := by
            show _ = _
            rw [← hm, mg_none jescS B _ hpl hat hesc]; rfl
          clear hesc hm hrd hown hat hb1' hr2 hpl hbe ke
          go_wp2_with (go_at_call 49; go_fit (ke' _); rintro x w2 ⟨rfl, hb2⟩)
          go_ret2
          exact ⟨by rw [HE.out]; rfl, hbw.trans (hb2.mono hbw.size)⟩
        | some xc =>
          obtain ⟨xs, c⟩ := xc
          rw [hesc] at ke
          have ke' : ∀ w', Calls Tryd.prog 49 #[.string s, .int .i64 i, .int .i64 ((s.size : Int) - 1)] w' fun r w'' => r = .returned (.tuple #[.string (strOfNums xs), .int .i64 ((c : Int) + 1)]) ∧ Below w'.heap.size w' w'' := ke
          obtain ⟨t1, t2, t3, hre⟩ := jesc_takes B _ xs c hpl hat hrd hesc
          have HE : Hid ((mg jescS B (i - 1 + 1 + c)).map ((l ++ xs) ++ ·) = O) := by
            show _ = _
            rw [← hm, mg_some jescS B _ xs c hpl hat hesc]
            cases mg jescS B (i - 1 + 1 + c) <;> simp
          have HRE : Hid (rd B (i - 1 + 1 + c) = true) := hre
          have hxb := jesc_bd _ xs c hesc
          have HA : Hid (∀ w1, Below wr.heap.size wr w1 → ∃ v' w', (Builtin.append_ #[29, 9] 29 #[u4, .string (strOfNums xs)]).run Tryd.prog w1 = .ok v' w' ∧ w'.ownsRow w.heap.size 5 1 v' (l ++ xs).length (bc (l ++ xs)) ∧ Below w.heap.size w1 w') :=
            fun w1 hb1 => append_str w1 w.heap.size u4 l xs hxb (Nat.le_trans hbw.size hb1.size) (by omega) (owns_below hown hb1)
          have HL : Hid ((l ++ xs).length ≤ i + (c + 1)) := by
            show _ ≤ _
            rw [List.length_append]; omega
          have hcz : ¬ (c : Int) + 1 = 0 := by omega
          have hcb : (c : Int) ≤ 140737488351232 := by omega
          clear hesc hm hrd hown hat hr2 hpl hbe ke hre hxb
          go_wp2_with fail
          go_fit (ke' _)
          rintro x w2 ⟨rfl, hb2⟩
          obtain ⟨v', w3, r1, o1, b1⟩ := HA.out w2 hb2
          have HO1 : Hid (w3.ownsRow w.heap.size 5 1 v' (l ++ xs).length (bc (l ++ xs))) := o1
          clear o1
          go_wp2_with (at_builtin; refine wpList_append_run rfl (.tmp 42) (.tmp 43) 29 9 rfl _ _ rfl rfl r1 ?_)
          refine ⟨⟨i + (c + 1), _, HO1.out, rfl, by omega, by omega, by rw [show i + (c + 1) - 1 = i - 1 + 1 + c by omega]; exact HRE.out, by rw [show i + (c + 1) - 1 = i - 1 + 1 + c by omega]; exact HE.out, HL.out, (hbw.trans (hb2.mono hbw.size)).trans b1⟩, ?_⟩
          simp only [RowKit.intOf]
          omega
      · have HA : Hid (∃ v' w', (Builtin.append_ #[29, 29] 29 #[u4, .slice (some ⟨wr.heap.size, 0, none⟩) 1 1]).run Tryd.prog (wr.alloc (.cells #[.int .u8 (bt s i)] 5)) = .ok v' w' ∧ w'.ownsRow w.heap.size 5 1 v' (l ++ [bt s i]).length (bc (l ++ [bt s i])) ∧ Below w.heap.size wr w') :=
          append_one wr w.heap.size u4 l (bt s i) hbw.size (by omega) hown
        have HE : Hid ((mg jescS B (i - 1 + 1)).map ((l ++ [bt s i]) ++ ·) = O) := by
          show _ = _
          rw [← hm, mg_plain jescS B (i - 1) (by omega) (by rw [hbe]; exact h92), hbe]
          cases mg jescS B (i - 1 + 1) <;> simp
        have HRE : Hid (rd B (i - 1 + 1) = true) := by
          show _ = _
          rw [← rd_plain B (i - 1) (by omega) (by rw [hbe]; exact h92)]; exact hrd
        have HL : Hid ((l ++ [bt s i]).length ≤ i + 1) := by
          show _ ≤ _
          rw [List.length_append]; simp; omega
        generalize bt s i = c at *
        have t92 : (c == 92) = false := by rw [beq_eq_false_iff_ne]; exact h92
        clear hm hrd hown hbe h92
        obtain ⟨v', w3, r1, o1, b1⟩ := HA.out
        have HO1 : Hid (w3.ownsRow w.heap.size 5 1 v' (l ++ [c]).length (bc (l ++ [c]))) := o1
        clear o1
        go_wp2_with (at_builtin; refine wpList_append_run rfl (.tmp 23) (.tmp 27) 29 29 rfl _ _ rfl rfl r1 ?_)
        refine ⟨⟨i + 1, _, HO1.out, rfl, by omega, by omega, by rw [show i + 1 - 1 = i - 1 + 1 by omega]; exact HRE.out, by rw [show i + 1 - 1 = i - 1 + 1 by omega]; exact HE.out, HL.out, hbw.trans b1⟩, ?_⟩
        simp only [RowKit.intOf]
        omega
    · have hpe : ¬ (i - 1) < B.size := by omega
      have hii : ¬ (i : Int) < (s.size : Int) - 1 := by omega
      have HE : Hid (O = some l) := by
        show _ = _
        rw [← hm, mg_end jescS B _ hpe]; simp
      have hcv := conv_owned wr w.heap.size u4 l hown
      clear hm hrd hown hpe
      go_wp2
      go_ret2
      exact ⟨by rw [HE.out]; rfl, hbw⟩

set_option maxHeartbeats 2000000 in
theorem runj_any (s : ByteArray) (w : World) (hs : s.size ≤ 140737488351232) :
    Calls Tryd.prog 26 #[.string s] w fun r w' => r = .returned (.tuple #[.string (ujR s).1, .int .i64 (ujR s).2]) ∧ Below w.heap.size w w' := by
  have kv := rvalid_any s w (by unfold maxLen; omega)
  unfold ujR
  cases hv : vld s s.size 0 with
  | false =>
    rw [hv] at kv
    rw [if_neg (by simp)]
    clear hv
    go_enter Tryd.func26, Tryd.ntmps26
    go_wp2_with (go_at_call 40; go_fit kv; rintro x w1 ⟨rfl, hb1⟩)
    go_ret2
    exact ⟨rfl, hb1⟩
  | true =>
    rw [if_pos rfl]
    by_cases hl : ujC s
    · rw [if_pos hl]
      exact runj_esc s w hs hv hl
    · rw [if_neg hl]
      have kl := fun w' => rclosed_any s w' hs hv
      rw [show decide (ujC s) = false by simpa using hl] at kl
      rw [hv] at kv
      clear hv hl
      go_enter Tryd.func26, Tryd.ntmps26
      go_wp2_with (first | (go_at_call 40; go_fit kv; rintro x w1 ⟨rfl, hb1⟩) | (go_at_call 48; go_fit (kl _); rintro x w2 ⟨rfl, rfl⟩))
      go_ret2
      exact ⟨rfl, hb1⟩
end Go.Proofs.YtdnbkgbgpfmipabDoor
