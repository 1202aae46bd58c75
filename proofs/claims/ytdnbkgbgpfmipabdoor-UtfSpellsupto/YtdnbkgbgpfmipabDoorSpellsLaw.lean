/- UtfSpells: the walk of the law itself. -/
import Derived.Test.YtdnbkgbgpfmipabDoorSpellsWalk
namespace Go.Proofs.YtdnbkgbgpfmipabDoor
open Go.RowKit Go.Lib

theorem ownsB_built (w : World) (B : Nat) (xs : List Int) (hB : B ≤ w.heap.size) (hm : xs.length ≤ maxLen) :
    (w.alloc (.cells (bc xs).toArray 5)).ownsRow B 5 1 (.slice (some ⟨w.heap.size, 0, none⟩) xs.length xs.length) xs.length (bc xs) :=
  ⟨by simp [bc], .inr ⟨w.heap.size, xs.length, _, rfl, hB, heap_alloc_new w _, Nat.le_refl _, hm, by simp [bc], by rw [Nat.mul_one]; exact List.take_of_length_le (by simp [bc])⟩⟩

/-- The way that is asked for of the j-th rune. -/
def hw (hs : List Int) (j : Nat) : Int := if j < hs.length then hs.getD j 0 else 0
/-- The first runes with their ways. -/
def pr (xs hs : List Int) (k : Nat) : List (Int × Int) := (List.range k).map (fun j => (xs.getD j 0, hw hs j))
theorem pr_next (xs hs : List Int) (k : Nat) : pr xs hs (k + 1) = pr xs hs k ++ [(xs.getD k 0, hw hs k)] := by unfold pr; rw [List.range_succ, List.map_append]; rfl
theorem pr_len (xs hs : List Int) (k : Nat) : (pr xs hs k).length = k := by simp [pr]
theorem pr_fst (xs hs : List Int) : (pr xs hs xs.length).map (·.1) = xs := by
  apply List.ext_getElem
  · simp [pr]
  · intro j h1 h2
    simp [pr, List.getD, h2]
theorem pr_all (xs hs : List Int) (h : ∀ x ∈ xs, isRune x = true) (k : Nat) (hk : k ≤ xs.length) : ∀ x ∈ pr xs hs k, isRune x.1 = true := by
  intro x hx
  obtain ⟨j, hj, rfl⟩ := List.mem_map.1 hx
  have : j < xs.length := by have := List.mem_range.1 hj; omega
  exact h _ (by simp [List.getD, this])
/-- The text between the quotes, of the first runes. -/
def sbT (q : Int) (xs hs : List Int) (k : Nat) : List Int := (spAll q (pr xs hs k)).flatMap (·.1)
theorem sbT_next (q : Int) (xs hs : List Int) (k : Nat) : sbT q xs hs (k + 1) = sbT q xs hs k ++ (sp (xs.getD k 0) (hw hs k) q).flatMap (·.1) := by
  unfold sbT
  rw [pr_next]
  unfold spAll
  rw [List.flatMap_append, List.flatMap_append]
  simp
/-- A list of ways that came in. -/
def HowsIn (w : World) (a : Option Addr) (hs : List Int) : Prop := ∀ j, j < hs.length → ∃ b off, a = some ⟨b, off, none⟩ ∧ b < w.heap.size ∧ w.cell? ⟨b, off + j, none⟩ = some (.int .i64 (hs.getD j 0))

set_option maxHeartbeats 8000000 in
set_option maxRecDepth 100000 in
theorem spells_walkfalse (a0 a1 : Option Addr) (c0 c1 : Nat) (ns hs : List Int) (w : World) (hn : ns.length ≤ 1048576) (hhn : hs.length ≤ 1048576) (hT : Lib.Utf8Tabs 1 2 w) (h : NumsIn w a0 ns) (hh : HowsIn w a1 hs) :
    Calls Tryd.prog 4 #[.slice a0 ns.length c0, .slice a1 hs.length c1, .bool false] w fun e w' => e = .returned (.bool true) ∧ Below w.heap.size w w' := by
  have hsz := tabs_size hT
  have HT : Hid (Lib.Utf8Tabs 1 2 w) := hT
  have HH : Hid (HowsIn w a1 hs) := hh
  obtain ⟨v1, w1, r1, o1, b1⟩ := append_in w [97] ns a0 c0 (by simp; omega) h
  obtain ⟨g1, c2, rfl, ra1, _, _⟩ := owned_at o1 (by simp)
  have k2 := right_any g1 0 c2 ([97] ++ ns) w1 (by rw [List.length_append]; simp; omega) ra1
  rw [rts_a'] at k2
  have hall : ∀ x ∈ [97] ++ rts ns, isRune x = true := by rw [← rts_a']; exact rts_all _
  have hxl : ([97] ++ rts ns).length ≤ 1 + ns.length := by
    rw [List.length_append]
    have := rts_len ns
    have h2 : [(97 : Int)].length = 1 := rfl
    omega
  have hx0 : 0 < ([97] ++ rts ns).length := by simp
  generalize [97] ++ rts ns = xs at *
  have hr1 : (Builtin.append_ #[22, 22] 22 #[.slice (some ⟨w.heap.size, 0, none⟩) 1 1, .slice a0 ns.length c0]).run Tryd.prog (w.alloc (.cells #[.int .i32 97] 21)) = .ok (.slice (some ⟨g1, 0, none⟩) ([97] ++ ns).length c2) w1 := r1
  clear r1 h hT o1 ra1 hh
  generalize ([97] ++ ns).length = n1 at *
  go_enter Tryd.func4, Tryd.ntmps4
  go_wp2_with (first | (at_builtin; refine wpList_append_run rfl (.tmp 15) (.tmp 16) 22 22 rfl _ _ rfl rfl hr1 ?_) | fail)
  go_fit k2
  clear k2 hr1
  rintro e w2 ⟨v2, rfl, o2, b2⟩
  obtain ⟨g2, c3, rfl, ra2, _, hg2⟩ := owned_at o2 hx0
  have hB2 : Below w.heap.size w w2 := b1.trans (b2.mono b1.size)
  have ob : (w2.alloc (.cells #[.int .u8 34] 5)).ownsRow w2.heap.size 5 1 (.slice (some ⟨w2.heap.size, 0, none⟩) 1 1) 1 (bc [34]) := ownsB_built w2 w2.heap.size [34] (Nat.le_refl _) (by unfold maxLen; simp)
  have HO : Hid ((w2.alloc (.cells #[.int .u8 34] 5)).ownsRow w2.heap.size 5 1 (.slice (some ⟨w2.heap.size, 0, none⟩) 1 1) 1 (bc [34])) := ob
  have HR : Hid (RunesAt w2 g2 0 xs) := ra2
  have HA : Hid (∀ x ∈ xs, isRune x = true) := hall
  have HW0 : Hid (Below w2.heap.size w2 (w2.alloc (.cells #[.int .u8 34] 5))) := (Below.refl _ _).alloc (Nat.le_refl _) _
  have hxb : xs.length ≤ 1048577 := by omega
  clear ob ra2 hall b1 b2 o2 hx0 hxl
  generalize hn' : xs.length = n at *
  have HN : Hid (xs.length = n) := hn'
  clear hn'
  go_wp2_with fail
  go_loopw [9, 24] (fun b t w' => ∃ j : Nat, t = .int .i64 j ∧ j ≤ n ∧ w'.ownsRow w2.heap.size 5 1 b ([34] ++ sbT 34 xs hs j).length (bc ([34] ++ sbT 34 xs hs j)) ∧ Below w2.heap.size w2 w') (fun _ t _ => n - (RowKit.intOf t).toNat)
  case atStart => exact ⟨0, rfl, by omega, HO.out, HW0.out⟩
  case round =>
    obtain ⟨j, rfl, hj, hown, hbw⟩ := hrel
    have hpl := (spAll_runes 34 (by omega) (pr xs hs j) (pr_all xs hs HA.out j (by rw [HN.out]; exact hj))).2.2
    rw [pr_len] at hpl
    have hll : ([34] ++ sbT 34 xs hs j).length ≤ 16 * j + 1 := by rw [List.length_append]; unfold sbT; simp only [List.length_cons, List.length_nil]; omega
    by_cases hlt : j < n
    · have hjx : j < xs.length := by rw [HN.out]; exact hlt
      have d0 : wr.cell? ⟨g2, j, none⟩ = some (.int .i32 (xs.getD j 0)) := by
        have q := HR.out j hjx
        rw [Nat.zero_add] at q
        rw [hbw.cell (lt_of_cell q)]; exact q
      have hra := HA.out (xs.getD j 0) (by simp [List.getD, hjx])
      have ks := fun w' => spelled_any (xs.getD j 0) (hw hs j) 34 w' hra (by omega)
      obtain ⟨⟨R, _, hR⟩, _, hsl⟩ := sp_runes (xs.getD j 0) (hw hs j) 34 hra (by omega)
      have hbyt : ∀ x ∈ (sp (xs.getD j 0) (hw hs j) 34).flatMap (·.1), 0 ≤ x ∧ x ≤ 255 := by
        intro x hx
        obtain ⟨c, hc, hx⟩ := List.mem_flatMap.1 hx
        exact (sp_ok _ _ _ hra (by omega) c hc).2.1 x hx
      have HX : Hid (∀ w', Below wr.heap.size wr w' → ∃ v' w'', (Builtin.append_ #[29, 9] 29 #[u9, .string (spT (xs.getD j 0) (hw hs j) 34)]).run Tryd.prog w' = .ok v' w'' ∧ w''.ownsRow w2.heap.size 5 1 v' ([34] ++ sbT 34 xs hs (j + 1)).length (bc ([34] ++ sbT 34 xs hs (j + 1))) ∧ Below w2.heap.size w' w'') := fun w' hb => by
        have := append_str w' w2.heap.size u9 ([34] ++ sbT 34 xs hs j) ((sp (xs.getD j 0) (hw hs j) 34).flatMap (·.1)) hbyt (Nat.le_trans hbw.size hb.size) (by omega) (owns_below hown hb)
        rw [List.append_assoc, ← sbT_next] at this
        exact this
      by_cases hjh : j < hs.length
      · obtain ⟨b, off, rfl, hb0, hc0⟩ := HH.out j hjh
        have e0 : hw hs j = hs.getD j 0 := by unfold hw; rw [if_pos hjh]
        have d1 : wr.cell? ⟨b, off + j, none⟩ = some (.int .i64 (hw hs j)) := by
          rw [e0, hbw.cell (p := ⟨b, off + j, none⟩) (Nat.lt_of_lt_of_le hb0 hB2.size), hB2.cell (p := ⟨b, off + j, none⟩) hb0]
          exact hc0
        have hjh' : (j : Int) < hs.length := by omega
        clear hra hR hsl hbyt hown hjx hll hpl hc0 e0
        generalize hw hs j = H at *
        generalize xs.getD j 0 = x at *
        generalize spT x H 34 = S at *
        go_wp2_with fail
        go_fit (ks _)
        clear ks
        rintro e w3 ⟨rfl, b3⟩
        obtain ⟨v4, w4, r4, o4, b4⟩ := HX.out w3 b3
        clear HX
        go_wp2_with (at_builtin; refine wpList_append_run rfl (.tmp 37) (.tmp 41) 29 9 rfl _ _ rfl rfl r4 ?_)
        go_roundw
        case rel => exact ⟨j + 1, by go_num, by omega, o4, (hbw.trans (b3.mono hbw.size)).trans b4⟩
        case measure => simp [RowKit.intOf]; omega
      · have e0 : hw hs j = 0 := by unfold hw; rw [if_neg hjh]
        rw [e0] at ks HX
        have hjh' : ¬ (j : Int) < hs.length := by omega
        clear hra hR hsl hbyt hown hjx hll hpl e0
        generalize xs.getD j 0 = x at *
        generalize spT x 0 34 = S at *
        go_wp2_with fail
        go_fit (ks _)
        clear ks
        rintro e w3 ⟨rfl, b3⟩
        obtain ⟨v4, w4, r4, o4, b4⟩ := HX.out w3 b3
        clear HX
        go_wp2_with (at_builtin; refine wpList_append_run rfl (.tmp 37) (.tmp 41) 29 9 rfl _ _ rfl rfl r4 ?_)
        go_roundw
        case rel => exact ⟨j + 1, by go_num, by omega, o4, (hbw.trans (b3.mono hbw.size)).trans b4⟩
        case measure => simp [RowKit.intOf]; omega
    · obtain rfl : j = n := by omega
      obtain ⟨v3, w3, r3, o3, b3⟩ := append_one wr w2.heap.size u9 ([34] ++ sbT 34 xs hs j) 34 hbw.size (by omega) hown
      have hcv := conv_owned w3 w2.heap.size v3 _ o3
      have hb3 : Below w2.heap.size w2 w3 := hbw.trans b3
      have hB3 : Below w.heap.size w w3 := hB2.trans (hb3.mono hB2.size)
      have hun : unqR (strOfNums ([34] ++ sbT 34 xs hs j ++ [34])) = (runesBytes xs, 0) := by
        have := spells_back 34 (by omega) (pr xs hs xs.length) (pr_all xs hs HA.out xs.length (Nat.le_refl _))
        rw [pr_fst, HN.out] at this
        exact this
      have hTs : (strOfNums ([34] ++ sbT 34 xs hs j ++ [34])).size ≤ 33554432 := by
        rw [nums_size, List.length_append]
        simp only [List.length_cons, List.length_nil]
        omega
      have kq := unq_any (strOfNums ([34] ++ sbT 34 xs hs j ++ [34])) w3 (by omega) (tabs_below HT.out hsz hB3)
      rw [hun] at kq
      have HCR : Hid (∀ w', Below w3.heap.size w3 w' → (convert 22 9 (.slice (some ⟨g2, 0, none⟩) j c3)).run Tryd.prog w' = .ok (.string (runesBytes xs)) w') := fun w' hb => by
        have := conv_runes w' g2 0 c3 xs (fun i hi => by
          have q := HR.out i hi
          have hl : g2 < w3.heap.size := Nat.lt_of_lt_of_le hg2 hb3.size
          rw [hb.cell (p := ⟨g2, 0 + i, none⟩) hl, hb3.cell (p := ⟨g2, 0 + i, none⟩) hg2]
          exact q)
        rw [HN.out] at this
        exact this
      clear hown hun hTs hll hpl o3 b3 hb3
      generalize strOfNums ([34] ++ sbT 34 xs hs j ++ [34]) = T at *
      generalize runesBytes xs = S at *
      go_wp2_with (first | (at_builtin; refine wpList_append_run rfl (.tmp 44) (.tmp 46) 29 29 rfl _ _ rfl rfl r3 ?_) | fail)
      go_fit kq
      clear kq
      rintro e w4 ⟨rfl, b4⟩
      have hcr := HCR.out w4 b4
      go_wp2
      go_ret
      exact ⟨rfl, hB3.trans (b4.mono hB3.size)⟩

set_option maxHeartbeats 8000000 in
set_option maxRecDepth 100000 in
theorem spells_walktrue (a0 a1 : Option Addr) (c0 c1 : Nat) (ns hs : List Int) (w : World) (hn : ns.length ≤ 1048576) (hhn : hs.length ≤ 1048576) (hT : Lib.Utf8Tabs 1 2 w) (h : NumsIn w a0 ns) (hh : HowsIn w a1 hs) :
    Calls Tryd.prog 4 #[.slice a0 ns.length c0, .slice a1 hs.length c1, .bool true] w fun e w' => e = .returned (.bool true) ∧ Below w.heap.size w w' := by
  have hsz := tabs_size hT
  have HT : Hid (Lib.Utf8Tabs 1 2 w) := hT
  have HH : Hid (HowsIn w a1 hs) := hh
  obtain ⟨v1, w1, r1, o1, b1⟩ := append_in w [97] ns a0 c0 (by simp; omega) h
  obtain ⟨g1, c2, rfl, ra1, _, _⟩ := owned_at o1 (by simp)
  have k2 := right_any g1 0 c2 ([97] ++ ns) w1 (by rw [List.length_append]; simp; omega) ra1
  rw [rts_a'] at k2
  have hall : ∀ x ∈ [97] ++ rts ns, isRune x = true := by rw [← rts_a']; exact rts_all _
  have hxl : ([97] ++ rts ns).length ≤ 1 + ns.length := by
    rw [List.length_append]
    have := rts_len ns
    have h2 : [(97 : Int)].length = 1 := rfl
    omega
  have hx0 : 0 < ([97] ++ rts ns).length := by simp
  generalize [97] ++ rts ns = xs at *
  have hr1 : (Builtin.append_ #[22, 22] 22 #[.slice (some ⟨w.heap.size, 0, none⟩) 1 1, .slice a0 ns.length c0]).run Tryd.prog (w.alloc (.cells #[.int .i32 97] 21)) = .ok (.slice (some ⟨g1, 0, none⟩) ([97] ++ ns).length c2) w1 := r1
  clear r1 h hT o1 ra1 hh
  generalize ([97] ++ ns).length = n1 at *
  go_enter Tryd.func4, Tryd.ntmps4
  go_wp2_with (first | (at_builtin; refine wpList_append_run rfl (.tmp 15) (.tmp 16) 22 22 rfl _ _ rfl rfl hr1 ?_) | fail)
  go_fit k2
  clear k2 hr1
  rintro e w2 ⟨v2, rfl, o2, b2⟩
  obtain ⟨g2, c3, rfl, ra2, _, hg2⟩ := owned_at o2 hx0
  have hB2 : Below w.heap.size w w2 := b1.trans (b2.mono b1.size)
  have ob : (w2.alloc (.cells #[.int .u8 39] 5)).ownsRow w2.heap.size 5 1 (.slice (some ⟨w2.heap.size, 0, none⟩) 1 1) 1 (bc [39]) := ownsB_built w2 w2.heap.size [39] (Nat.le_refl _) (by unfold maxLen; simp)
  have HO : Hid ((w2.alloc (.cells #[.int .u8 39] 5)).ownsRow w2.heap.size 5 1 (.slice (some ⟨w2.heap.size, 0, none⟩) 1 1) 1 (bc [39])) := ob
  have HR : Hid (RunesAt w2 g2 0 xs) := ra2
  have HA : Hid (∀ x ∈ xs, isRune x = true) := hall
  have HW0 : Hid (Below w2.heap.size w2 (w2.alloc (.cells #[.int .u8 39] 5))) := (Below.refl _ _).alloc (Nat.le_refl _) _
  have hxb : xs.length ≤ 1048577 := by omega
  clear ob ra2 hall b1 b2 o2 hx0 hxl
  generalize hn' : xs.length = n at *
  have HN : Hid (xs.length = n) := hn'
  clear hn'
  go_wp2_with fail
  go_loopw [9, 24] (fun b t w' => ∃ j : Nat, t = .int .i64 j ∧ j ≤ n ∧ w'.ownsRow w2.heap.size 5 1 b ([39] ++ sbT 39 xs hs j).length (bc ([39] ++ sbT 39 xs hs j)) ∧ Below w2.heap.size w2 w') (fun _ t _ => n - (RowKit.intOf t).toNat)
  case atStart => exact ⟨0, rfl, by omega, HO.out, HW0.out⟩
  case round =>
    obtain ⟨j, rfl, hj, hown, hbw⟩ := hrel
    have hpl := (spAll_runes 39 (by omega) (pr xs hs j) (pr_all xs hs HA.out j (by rw [HN.out]; exact hj))).2.2
    rw [pr_len] at hpl
    have hll : ([39] ++ sbT 39 xs hs j).length ≤ 16 * j + 1 := by rw [List.length_append]; unfold sbT; simp only [List.length_cons, List.length_nil]; omega
    by_cases hlt : j < n
    · have hjx : j < xs.length := by rw [HN.out]; exact hlt
      have d0 : wr.cell? ⟨g2, j, none⟩ = some (.int .i32 (xs.getD j 0)) := by
        have q := HR.out j hjx
        rw [Nat.zero_add] at q
        rw [hbw.cell (lt_of_cell q)]; exact q
      have hra := HA.out (xs.getD j 0) (by simp [List.getD, hjx])
      have ks := fun w' => spelled_any (xs.getD j 0) (hw hs j) 39 w' hra (by omega)
      obtain ⟨⟨R, _, hR⟩, _, hsl⟩ := sp_runes (xs.getD j 0) (hw hs j) 39 hra (by omega)
      have hbyt : ∀ x ∈ (sp (xs.getD j 0) (hw hs j) 39).flatMap (·.1), 0 ≤ x ∧ x ≤ 255 := by
        intro x hx
        obtain ⟨c, hc, hx⟩ := List.mem_flatMap.1 hx
        exact (sp_ok _ _ _ hra (by omega) c hc).2.1 x hx
      have HX : Hid (∀ w', Below wr.heap.size wr w' → ∃ v' w'', (Builtin.append_ #[29, 9] 29 #[u9, .string (spT (xs.getD j 0) (hw hs j) 39)]).run Tryd.prog w' = .ok v' w'' ∧ w''.ownsRow w2.heap.size 5 1 v' ([39] ++ sbT 39 xs hs (j + 1)).length (bc ([39] ++ sbT 39 xs hs (j + 1))) ∧ Below w2.heap.size w' w'') := fun w' hb => by
        have := append_str w' w2.heap.size u9 ([39] ++ sbT 39 xs hs j) ((sp (xs.getD j 0) (hw hs j) 39).flatMap (·.1)) hbyt (Nat.le_trans hbw.size hb.size) (by omega) (owns_below hown hb)
        rw [List.append_assoc, ← sbT_next] at this
        exact this
      by_cases hjh : j < hs.length
      · obtain ⟨b, off, rfl, hb0, hc0⟩ := HH.out j hjh
        have e0 : hw hs j = hs.getD j 0 := by unfold hw; rw [if_pos hjh]
        have d1 : wr.cell? ⟨b, off + j, none⟩ = some (.int .i64 (hw hs j)) := by
          rw [e0, hbw.cell (p := ⟨b, off + j, none⟩) (Nat.lt_of_lt_of_le hb0 hB2.size), hB2.cell (p := ⟨b, off + j, none⟩) hb0]
          exact hc0
        have hjh' : (j : Int) < hs.length := by omega
        clear hra hR hsl hbyt hown hjx hll hpl hc0 e0
        generalize hw hs j = H at *
        generalize xs.getD j 0 = x at *
        generalize spT x H 39 = S at *
        go_wp2_with fail
        go_fit (ks _)
        clear ks
        rintro e w3 ⟨rfl, b3⟩
        obtain ⟨v4, w4, r4, o4, b4⟩ := HX.out w3 b3
        clear HX
        go_wp2_with (at_builtin; refine wpList_append_run rfl (.tmp 37) (.tmp 41) 29 9 rfl _ _ rfl rfl r4 ?_)
        go_roundw
        case rel => exact ⟨j + 1, by go_num, by omega, o4, (hbw.trans (b3.mono hbw.size)).trans b4⟩
        case measure => simp [RowKit.intOf]; omega
      · have e0 : hw hs j = 0 := by unfold hw; rw [if_neg hjh]
        rw [e0] at ks HX
        have hjh' : ¬ (j : Int) < hs.length := by omega
        clear hra hR hsl hbyt hown hjx hll hpl e0
        generalize xs.getD j 0 = x at *
        generalize spT x 0 39 = S at *
        go_wp2_with fail
        go_fit (ks _)
        clear ks
        rintro e w3 ⟨rfl, b3⟩
        obtain ⟨v4, w4, r4, o4, b4⟩ := HX.out w3 b3
        clear HX
        go_wp2_with (at_builtin; refine wpList_append_run rfl (.tmp 37) (.tmp 41) 29 9 rfl _ _ rfl rfl r4 ?_)
        go_roundw
        case rel => exact ⟨j + 1, by go_num, by omega, o4, (hbw.trans (b3.mono hbw.size)).trans b4⟩
        case measure => simp [RowKit.intOf]; omega
    · obtain rfl : j = n := by omega
      obtain ⟨v3, w3, r3, o3, b3⟩ := append_one wr w2.heap.size u9 ([39] ++ sbT 39 xs hs j) 39 hbw.size (by omega) hown
      have hcv := conv_owned w3 w2.heap.size v3 _ o3
      have hb3 : Below w2.heap.size w2 w3 := hbw.trans b3
      have hB3 : Below w.heap.size w w3 := hB2.trans (hb3.mono hB2.size)
      have hun : unqR (strOfNums ([39] ++ sbT 39 xs hs j ++ [39])) = (runesBytes xs, 0) := by
        have := spells_back 39 (by omega) (pr xs hs xs.length) (pr_all xs hs HA.out xs.length (Nat.le_refl _))
        rw [pr_fst, HN.out] at this
        exact this
      have hTs : (strOfNums ([39] ++ sbT 39 xs hs j ++ [39])).size ≤ 33554432 := by
        rw [nums_size, List.length_append]
        simp only [List.length_cons, List.length_nil]
        omega
      have kq := unq_any (strOfNums ([39] ++ sbT 39 xs hs j ++ [39])) w3 (by omega) (tabs_below HT.out hsz hB3)
      rw [hun] at kq
      have HCR : Hid (∀ w', Below w3.heap.size w3 w' → (convert 22 9 (.slice (some ⟨g2, 0, none⟩) j c3)).run Tryd.prog w' = .ok (.string (runesBytes xs)) w') := fun w' hb => by
        have := conv_runes w' g2 0 c3 xs (fun i hi => by
          have q := HR.out i hi
          have hl : g2 < w3.heap.size := Nat.lt_of_lt_of_le hg2 hb3.size
          rw [hb.cell (p := ⟨g2, 0 + i, none⟩) hl, hb3.cell (p := ⟨g2, 0 + i, none⟩) hg2]
          exact q)
        rw [HN.out] at this
        exact this
      clear hown hun hTs hll hpl o3 b3 hb3
      generalize strOfNums ([39] ++ sbT 39 xs hs j ++ [39]) = T at *
      generalize runesBytes xs = S at *
      go_wp2_with (first | (at_builtin; refine wpList_append_run rfl (.tmp 44) (.tmp 46) 29 29 rfl _ _ rfl rfl r3 ?_) | fail)
      go_fit kq
      clear kq
      rintro e w4 ⟨rfl, b4⟩
      have hcr := HCR.out w4 b4
      go_wp2
      go_ret
      exact ⟨rfl, hB3.trans (b4.mono hB3.size)⟩
end Go.Proofs.YtdnbkgbgpfmipabDoor
