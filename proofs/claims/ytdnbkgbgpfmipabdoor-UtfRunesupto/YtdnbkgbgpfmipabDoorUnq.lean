/- What Unquote answers, and the walk of the reference's Unquote. -/
import Derived.Test.YtdnbkgbgpfmipabDoorRefEsc
import Derived.Test.YtdnbkgbgpfmipabDoorRefLit
import Derived.Test.YtdnbkgbgpfmipabDoorRefNext
namespace Go.Proofs.YtdnbkgbgpfmipabDoor
open Go.RowKit Go.Lib

/-- A literal that closes at its end has no dangling backslash between its quotes. -/
theorem lit_rd (s : ByteArray) (q : Int) (hq : q ≠ 92) : ∀ (f p : Nat), litF s q true f (1 + p) = some s.size → rd (s.extract 1 (s.size - 1)) p = true
  | 0, _, h => by cases h
  | f + 1, p, h => by
    have hz : (s.extract 1 (s.size - 1)).size = s.size - 2 := by simp; omega
    have hle := litF_le s q true (f + 1) (1 + p) s.size h
    unfold litF at h
    rw [if_pos hle.1] at h
    by_cases h1 : bt s (1 + p) = q
    · rw [if_pos h1] at h
      simp at h
      exact rdF_end _ _ p (by omega)
    · rw [if_neg h1] at h
      by_cases h2 : bt s (1 + p) = 10
      · rw [if_pos ⟨rfl, h2⟩] at h; cases h
      · rw [if_neg (fun x => h2 x.2)] at h
        by_cases h3 : bt s (1 + p) = 92
        · rw [if_pos ⟨rfl, h3⟩] at h
          split at h
          · cases h
          · have l2 := litF_le s q true f _ s.size h
            have ih := lit_rd s q hq f (p + 2) (by rw [show 1 + (p + 2) = 1 + p + 2 by omega]; exact h)
            exact (rd_bs _ p (by omega) (by rw [bt_ext s 1 (s.size - 1) p (by omega) (by omega)]; exact h3)).2 ⟨by omega, ih⟩
        · rw [if_neg (fun x => h3 x.2)] at h
          have l2 := litF_le s q true f _ s.size h
          have ih := lit_rd s q hq f (p + 1) (by rw [show 1 + (p + 1) = 1 + p + 1 by omega]; exact h)
          rw [rd_plain _ p (by omega) (by rw [bt_ext s 1 (s.size - 1) p (by omega) (by omega)]; exact h3)]
          exact ih

theorem strCells_nums (xs : List Int) (h : ∀ x ∈ xs, 0 ≤ x ∧ x ≤ 255) : strCells (strOfNums xs) = bc xs := by
  unfold strCells bc
  rw [strOfNums_data, List.map_map]
  apply List.map_congr_left
  intro x hx
  have := h x hx
  have e : ((UInt8.ofNat x.toNat).toNat : Int) = x := by simp; omega
  show Value.int .u8 ((UInt8.ofNat x.toNat).toNat : Int) = _
  rw [e]
theorem append_str (w : World) (S : Nat) (v : Value) (l xs : List Int) (hx : ∀ x ∈ xs, 0 ≤ x ∧ x ≤ 255) (hS : S ≤ w.heap.size) (hn : l.length + xs.length ≤ 140737488355328) (o : w.ownsRow S 5 1 v l.length (bc l)) :
    ∃ v' w', (Builtin.append_ #[29, 9] 29 #[v, .string (strOfNums xs)]).run Tryd.prog w = .ok v' w' ∧ w'.ownsRow S 5 1 v' (l ++ xs).length (bc (l ++ xs)) ∧ Below S w w' := by
  obtain ⟨i0, hi, hz0, hz1, hz2⟩ := info_parts info5
  have hsz : (strOfNums xs).size = xs.length := strOfNums_size xs
  obtain ⟨v', w', r, o', g, _⟩ := run_append_own_string (P := Tryd.prog) w S 29 9 29 5 i0 Tryd.underlying29 Tryd.underlying9 hi hz0 hz1 hz2 v l.length (bc l) o (strOfNums xs) (by unfold maxLen; omega) (by omega) hS
  refine ⟨v', w', r, ?_, ?_⟩
  · rw [List.length_append, bc_app, ← strCells_nums xs hx, ← hsz]; exact o'
  · exact (Below.refl S w).grown g hS (fun k hk => (o.lt k hk).1)
theorem escS_bd (e : ByteArray) (q : Int) (xs : List Int) (c : Nat) (h : escS e q = some (xs, c)) : ∀ x ∈ xs, 0 ≤ x ∧ x ≤ 255 := by
  have hB : ∀ (p k : Nat) (base : Int), (base = 8 ∨ base = 16) → k ≤ 8 → byteS e p k base = some (xs, c) → ∀ x ∈ xs, 0 ≤ x ∧ x ≤ 255 := by
    intro p k base hb hk h
    unfold byteS at h
    split at h
    · rename_i n hn
      have := num_bd _ k base hb hk n hn
      split at h
      · simp only [Option.some.injEq, Prod.mk.injEq] at h
        obtain ⟨rfl, rfl⟩ := h
        intro x hx
        simp at hx
        omega
      · cases h
    · cases h
  have hR : ∀ k : Nat, runeS e k = some (xs, c) → ∀ x ∈ xs, 0 ≤ x ∧ x ≤ 255 := by
    intro k h
    unfold runeS at h
    split at h
    · rename_i n hn
      split at h
      · simp only [Option.some.injEq, Prod.mk.injEq] at h
        obtain ⟨rfl, rfl⟩ := h
        exact formL_bd n
      · cases h
    · cases h
  have hbd := bt_bd e 0
  have hid := idx7_bd (bt e 0)
  unfold escS at h
  split at h
  · simp only [Option.some.injEq, Prod.mk.injEq] at h
    obtain ⟨rfl, rfl⟩ := h
    intro x hx
    simp at hx
    omega
  · split at h
    · simp only [Option.some.injEq, Prod.mk.injEq] at h
      obtain ⟨rfl, rfl⟩ := h
      intro x hx
      simp at hx
      omega
    · split at h
      · exact hB _ _ _ (Or.inr rfl) (by omega) h
      · split at h
        · exact hR _ h
        · split at h
          · exact hR _ h
          · exact hB _ _ _ (Or.inl rfl) (by omega) h

/-- What Unquote answers of what the escapes mean. -/
def unqV (o : Option (List Int)) : ByteArray × Int := match o with | some l => if vld (strOfNums l) (strOfNums l).size 0 = true then (strOfNums l, 0) else (⟨#[]⟩, 13) | none => (⟨#[]⟩, 11)
/-- What Unquote answers. -/
def unqR (s : ByteArray) : ByteArray × Int :=
  if vld s s.size 0 = true then (if litZ s 0 = ((s.size : Int), 0) then (if bt s 0 = 96 then (s.extract 1 (s.size - 1), 0) else unqV (mn (s.extract 1 (s.size - 1)) (bt s 0) 0)) else (⟨#[]⟩, 10)) else (⟨#[]⟩, 4)

set_option maxHeartbeats 4000000 in
set_option maxRecDepth 100000 in
theorem runq_esc (s : ByteArray) (q : Int) (w : World) (hs : s.size ≤ 140737488351232) (h2 : 2 ≤ s.size) (hq : bt s 0 = q) (hq9 : q ≠ 96) (hv : vld s s.size 0 = true) (hl : litZ s 0 = ((s.size : Int), 0)) (hr : rd (s.extract 1 (s.size - 1)) 0 = true) :
    Calls Tryd.prog 22 #[.string s] w fun r w' => r = .returned (.tuple #[.string (unqV (mn (s.extract 1 (s.size - 1)) q 0)).1, .int .i64 (unqV (mn (s.extract 1 (s.size - 1)) q 0)).2]) ∧ Below w.heap.size w w' := by
  have kv := rvalid_any s w (by unfold maxLen; omega)
  have kl := fun w' => rliteral_any s 0 w' (by omega)
  rw [hv] at kv
  rw [hl] at kl
  clear hv hl
  have hx0 := bt_at s 0 (by omega)
  have hqb := bt_bd s 0
  rw [hq] at hx0 hqb
  obtain ⟨hqb0, hqb1⟩ := hqb
  have hbz : (s.extract 1 (s.size - 1)).size = s.size - 2 := by simp; omega
  have hbt : Hid (∀ i, 1 ≤ i → i < s.size - 1 → bt (s.extract 1 (s.size - 1)) (i - 1) = bt s i) := fun i h1 hi => by rw [bt_ext s 1 (s.size - 1) (i - 1) (by omega) (by omega), show 1 + (i - 1) = i by omega]
  have hes : Hid (∀ i, 1 ≤ i → i < s.size - 1 → (s.extract 1 (s.size - 1)).extract (i - 1 + 1) (s.extract 1 (s.size - 1)).size = s.extract (i + 1) (s.size - 1)) := fun i h1 hi => by
    rw [hbz, ByteArray.extract_extract]; congr 1 <;> omega
  generalize hO : mn (s.extract 1 (s.size - 1)) q 0 = O
  have HO : Hid (mn (s.extract 1 (s.size - 1)) q 0 = O) := hO
  have HR : Hid (rd (s.extract 1 (s.size - 1)) 0 = true) := hr
  clear hO hr hq
  generalize hB : s.extract 1 (s.size - 1) = B at *
  clear hB
  have hsi : (2 : Int) ≤ s.size := by omega
  have t9 : (q == 96) = false := by rw [beq_eq_false_iff_ne]; exact hq9
  clear hq9
  go_enter Tryd.func22, Tryd.ntmps22
  go_wp2_with (first | (go_at_call 40; go_fit kv; rintro x w1 ⟨rfl, hb1⟩) | (go_at_call 21; go_fit (kl _); rintro x w2 ⟨rfl, rfl⟩))
  go_loopw [7, 8] (fun b t w' => ∃ (i : Nat) (l : List Int), w'.ownsRow w.heap.size 5 1 b l.length (bc l) ∧ t = .int .i64 (i : Int) ∧ 1 ≤ i ∧ i ≤ s.size - 1 ∧ rd B (i - 1) = true ∧ (mn B q (i - 1)).map (l ++ ·) = O ∧ l.length ≤ i ∧ Below w.heap.size w w') (fun _ t _ => s.size - (RowKit.intOf t).toNat)
  case atStart => exact ⟨1, [], World.ownsRow_nil _ _ _ _, rfl, by omega, by omega, HR.out, by rw [show 1 - 1 = 0 from rfl, HO.out]; cases O <;> rfl, by simp, hb1⟩
  case round =>
    obtain ⟨i, l, hown, rfl, hi1, hi2, hrd, hm, hlp, hbw⟩ := hrel
    by_cases hie : i < s.size - 1
    · have hx := bt_at s i (by omega)
      have hii : (i : Int) < (s.size : Int) - 1 := by omega
      have hbe := hbt.out i hi1 hie
      by_cases h92 : bt s i = 92
      · have hpl : i - 1 < B.size := by omega
        have hat : bt B (i - 1) = 92 := by rw [hbe]; exact h92
        obtain ⟨hb1', hr2⟩ := (rd_bs B _ hpl hat).1 hrd
        have ke := fun w' => rescape_any s i (s.size - 1) q w' (by omega) (by omega) (by omega)
        rw [← hes.out i hi1 hie] at ke
        rw [show ((s.size - 1 : Nat) : Int) = (s.size : Int) - 1 by omega] at ke
        rw [h92] at hx
        cases hesc : escS (B.extract (i - 1 + 1) B.size) q with
        | none =>
          rw [hesc] at ke
          have ke' : ∀ w', Calls Tryd.prog 45 #[.string s, .int .i64 i, .int .i64 ((s.size : Int) - 1), .int .u8 q] w' fun r w'' => r = .returned (.tuple #[.string ⟨#[]⟩, .int .i64 0]) ∧ Below w'.heap.size w' w'' := ke
          have HE : Hid (O = none) := by
            show _ = _
            rw [← hm, mn_none B q _ hpl hat hesc]; rfl
          clear hesc hm hrd hown hat hb1' hr2 hpl hbe ke
          go_wp2_with (go_at_call 45; go_fit (ke' _); rintro x w2 ⟨rfl, hb2⟩)
          go_ret2
          exact ⟨by rw [HE.out]; rfl, hbw.trans (hb2.mono hbw.size)⟩
        | some xc =>
          obtain ⟨xs, c⟩ := xc
          rw [hesc] at ke
          have ke' : ∀ w', Calls Tryd.prog 45 #[.string s, .int .i64 i, .int .i64 ((s.size : Int) - 1), .int .u8 q] w' fun r w'' => r = .returned (.tuple #[.string (strOfNums xs), .int .i64 ((c : Int) + 1)]) ∧ Below w'.heap.size w' w'' := ke
          have hre := rd_esc B q _ xs c hpl hat hrd hesc
          obtain ⟨t1, t2, t3, _⟩ := esc_takes B q _ xs c hb1' hesc
          have HE : Hid ((mn B q (i - 1 + 1 + c)).map ((l ++ xs) ++ ·) = O) := by
            show _ = _
            rw [← hm, mn_some B q _ xs c hpl hat hesc]
            cases mn B q (i - 1 + 1 + c) <;> simp
          have HRE : Hid (rd B (i - 1 + 1 + c) = true) := hre
          have hxb := escS_bd _ q xs c hesc
          have HA : Hid (∀ w1, Below wr.heap.size wr w1 → ∃ v' w', (Builtin.append_ #[29, 9] 29 #[u7, .string (strOfNums xs)]).run Tryd.prog w1 = .ok v' w' ∧ w'.ownsRow w.heap.size 5 1 v' (l ++ xs).length (bc (l ++ xs)) ∧ Below w.heap.size w1 w') :=
            fun w1 hb1 => append_str w1 w.heap.size u7 l xs hxb (Nat.le_trans hbw.size hb1.size) (by omega) (owns_below hown hb1)
          have HL : Hid ((l ++ xs).length ≤ i + (c + 1)) := by
            show _ ≤ _
            rw [List.length_append]; omega
          have hcz : ¬ (c : Int) + 1 = 0 := by omega
          have hcb : (c : Int) ≤ 140737488351232 := by omega
          clear hesc hm hrd hown hat hr2 hpl hbe ke hre hxb
          go_wp2_with fail
          go_fit (ke' _)
          rintro x w2 ⟨rfl, hb2⟩
          obtain ⟨v', w3, r1, o1, b1⟩ := HA.out w2 hb2
          have HO1 : Hid (w3.ownsRow w.heap.size 5 1 v' (l ++ xs).length (bc (l ++ xs))) := o1
          clear o1
          go_wp2_with (at_builtin; refine wpList_append_run rfl (.tmp 61) (.tmp 62) 29 9 rfl _ _ rfl rfl r1 ?_)
          refine ⟨⟨i + (c + 1), _, HO1.out, rfl, by omega, by omega, by rw [show i + (c + 1) - 1 = i - 1 + 1 + c by omega]; exact HRE.out, by rw [show i + (c + 1) - 1 = i - 1 + 1 + c by omega]; exact HE.out, HL.out, (hbw.trans (hb2.mono hbw.size)).trans b1⟩, ?_⟩
          simp only [RowKit.intOf]
          omega
      · have HA : Hid (∃ v' w', (Builtin.append_ #[29, 29] 29 #[u7, .slice (some ⟨wr.heap.size, 0, none⟩) 1 1]).run Tryd.prog (wr.alloc (.cells #[.int .u8 (bt s i)] 5)) = .ok v' w' ∧ w'.ownsRow w.heap.size 5 1 v' (l ++ [bt s i]).length (bc (l ++ [bt s i])) ∧ Below w.heap.size wr w') :=
          append_one wr w.heap.size u7 l (bt s i) hbw.size (by omega) hown
        have HE : Hid ((mn B q (i - 1 + 1)).map ((l ++ [bt s i]) ++ ·) = O) := by
          show _ = _
          rw [← hm, mn_plain B q (i - 1) (by omega) (by rw [hbe]; exact h92), hbe]
          cases mn B q (i - 1 + 1) <;> simp
        have HRE : Hid (rd B (i - 1 + 1) = true) := by
          show _ = _
          rw [← rd_plain B (i - 1) (by omega) (by rw [hbe]; exact h92)]; exact hrd
        have HL : Hid ((l ++ [bt s i]).length ≤ i + 1) := by
          show _ ≤ _
          rw [List.length_append]; simp; omega
        generalize bt s i = c at *
        have t92 : (c == 92) = false := by rw [beq_eq_false_iff_ne]; exact h92
        clear hm hrd hown hbe h92
        obtain ⟨v', w3, r1, o1, b1⟩ := HA.out
        have HO1 : Hid (w3.ownsRow w.heap.size 5 1 v' (l ++ [c]).length (bc (l ++ [c]))) := o1
        clear o1
        go_wp2_with (at_builtin; refine wpList_append_run rfl (.tmp 42) (.tmp 46) 29 29 rfl _ _ rfl rfl r1 ?_)
        refine ⟨⟨i + 1, _, HO1.out, rfl, by omega, by omega, by rw [show i + 1 - 1 = i - 1 + 1 by omega]; exact HRE.out, by rw [show i + 1 - 1 = i - 1 + 1 by omega]; exact HE.out, HL.out, hbw.trans b1⟩, ?_⟩
        simp only [RowKit.intOf]
        omega
    · have hpe : ¬ (i - 1) < B.size := by omega
      have hii : ¬ (i : Int) < (s.size : Int) - 1 := by omega
      have HE : Hid (O = some l) := by
        show _ = _
        rw [← hm, mn_end B q _ hpe]; simp
      have hcv := conv_owned wr w.heap.size u7 l hown
      have kv2 := rvalid_any (strOfNums l) wr (by rw [strOfNums_size]; unfold maxLen; omega)
      have HC : Hid (∀ w2, Below wr.heap.size wr w2 → (convert 29 9 u7).run Tryd.prog w2 = .ok (.string (strOfNums l)) w2) := fun w2 hb2 => conv_owned w2 w.heap.size u7 l (owns_below hown hb2)
      clear hm hrd hown hpe
      cases hvv : vld (strOfNums l) (strOfNums l).size 0 with
      | false =>
        rw [hvv] at kv2
        have HV : Hid (vld (strOfNums l) (strOfNums l).size 0 = false) := hvv
        clear hvv
        go_wp2_with (go_at_call 40; go_fit kv2; rintro x w2 ⟨rfl, hb2⟩)
        go_ret2
        exact ⟨by rw [HE.out]; unfold unqV; simp only [HV.out]; rfl, hbw.trans (hb2.mono hbw.size)⟩
      | true =>
        rw [hvv] at kv2
        have HV : Hid (vld (strOfNums l) (strOfNums l).size 0 = true) := hvv
        clear hvv
        go_wp2_with fail
        go_fit kv2
        rintro x w2 ⟨rfl, hb2⟩
        have hcv2 := HC.out w2 hb2
        go_wp2
        go_ret2
        exact ⟨by rw [HE.out]; unfold unqV; simp only [HV.out]; rfl, hbw.trans (hb2.mono hbw.size)⟩

/-- What is known of a text that is one literal. -/
theorem lit_parts (s : ByteArray) (h : litZ s 0 = ((s.size : Int), 0)) : 2 ≤ s.size ∧ (bt s 0 = 34 ∨ bt s 0 = 39 ∨ bt s 0 = 96) ∧ litF s (bt s 0) (decide (bt s 0 ≠ 96)) s.size 1 = some s.size := by
  unfold litZ litR at h
  rw [if_pos (by omega)] at h
  simp only [Int.toNat_zero, Nat.zero_add] at h
  split at h
  · rename_i hc
    cases hl : litF s (bt s 0) (decide (bt s 0 ≠ 96)) s.size 1 with
    | none => rw [hl] at h; simp [litO] at h
    | some j =>
      rw [hl] at h
      simp [litO] at h
      have hj : j = s.size := by omega
      have hle := litF_le _ _ _ _ _ _ hl
      exact ⟨by omega, hc.2, by rw [hj]⟩
  · simp at h
theorem lit_body (s : ByteArray) (h : litZ s 0 = ((s.size : Int), 0)) (h9 : bt s 0 ≠ 96) : rd (s.extract 1 (s.size - 1)) 0 = true := by
  obtain ⟨_, h2, h3⟩ := lit_parts s h
  rw [show decide (bt s 0 ≠ 96) = true by simpa using h9] at h3
  exact lit_rd s (bt s 0) (by omega) s.size 0 h3

set_option maxHeartbeats 2000000 in
theorem runq_any (s : ByteArray) (w : World) (hs : s.size ≤ 140737488351232) :
    Calls Tryd.prog 22 #[.string s] w fun r w' => r = .returned (.tuple #[.string (unqR s).1, .int .i64 (unqR s).2]) ∧ Below w.heap.size w w' := by
  have kv := rvalid_any s w (by unfold maxLen; omega)
  have kl := fun w' => rliteral_any s 0 w' (by omega)
  unfold unqR
  cases hv : vld s s.size 0 with
  | false =>
    rw [hv] at kv
    rw [if_neg (by simp)]
    clear hv kl
    go_enter Tryd.func22, Tryd.ntmps22
    go_wp2_with (go_at_call 40; go_fit kv; rintro x w1 ⟨rfl, hb1⟩)
    go_ret2
    exact ⟨rfl, hb1⟩
  | true =>
    rw [if_pos rfl]
    by_cases hl : litZ s 0 = ((s.size : Int), 0)
    · rw [if_pos hl]
      obtain ⟨h2, h3, h4⟩ := lit_parts s hl
      by_cases h9 : bt s 0 = 96
      · rw [if_pos h9]
        rw [hv] at kv
        rw [hl] at kl
        have hx0 := bt_at s 0 (by omega)
        rw [h9] at hx0
        have hsi : (2 : Int) ≤ s.size := by omega
        have hse : ((s.size : Int) - 1).toNat = s.size - 1 := by omega
        clear hv hl h3 h4 h9
        go_enter Tryd.func22, Tryd.ntmps22
        go_wp2_with (first | (go_at_call 40; go_fit kv; rintro x w1 ⟨rfl, hb1⟩) | (go_at_call 21; go_fit (kl _); rintro x w2 ⟨rfl, rfl⟩))
        go_ret2
        exact ⟨rfl, hb1⟩
      · rw [if_neg h9]
        exact runq_esc s (bt s 0) w hs h2 rfl h9 hv hl (lit_body s hl h9)
    · rw [if_neg hl]
      rw [hv] at kv
      clear hv
      by_cases hz : (litZ s 0).2 = 0
      · have hn : ¬ (litZ s 0).1 = (s.size : Int) := fun h => hl (Prod.ext h hz)
        rw [hz] at kl
        generalize (litZ s 0).1 = n at *
        have hn' : (n == (s.size : Int)) = false := by rw [beq_eq_false_iff_ne]; exact hn
        clear hl hz
        go_enter Tryd.func22, Tryd.ntmps22
        go_wp2_with (first | (go_at_call 40; go_fit kv; rintro x w1 ⟨rfl, hb1⟩) | (go_at_call 21; go_fit (kl _); rintro x w2 ⟨rfl, rfl⟩))
        go_ret2
        exact ⟨rfl, hb1⟩
      · generalize (litZ s 0).1 = n at *
        generalize (litZ s 0).2 = m at *
        have hz' : (m == 0) = false := by rw [beq_eq_false_iff_ne]; exact hz
        clear hl
        go_enter Tryd.func22, Tryd.ntmps22
        go_wp2_with (first | (go_at_call 40; go_fit kv; rintro x w1 ⟨rfl, hb1⟩) | (go_at_call 21; go_fit (kl _); rintro x w2 ⟨rfl, rfl⟩))
        go_ret2
        exact ⟨rfl, hb1⟩
end Go.Proofs.YtdnbkgbgpfmipabDoor
