/- Lists of runes: the law's own right, and a list as a text. -/
import Derived.Test.YtdnbkgbgpfmipabDoorChunk
import Derived.Test.YtdnbkgbgpfmipabDoorWritten
import Derived.Deep.AppendSrc
namespace Go.Proofs.YtdnbkgbgpfmipabDoor
open Go.RowKit Go.Lib

def rcells (xs : List Int) : List Value := xs.map (Value.int .i32)
theorem info21 : (Tryd.prog.info? 21).map (fun i => (i.zero, i.size, i.bytes)) = some (some (.int .i32 0), 1, 4) := by kernel_rfl
theorem rcells_one (xs : List Int) : ∀ u ∈ rcells xs, u.oneCell' = true := by
  intro u hu
  obtain ⟨x, _, rfl⟩ := List.mem_map.1 hu
  rfl

theorem ownsR_below {w w' : World} {B : Nat} {v : Value} {n : Nat} {xs : List Value} (h : w.ownsRow B 21 1 v n xs) (hb : Below w.heap.size w w') : w'.ownsRow B 21 1 v n xs := by
  refine ⟨h.1, ?_⟩
  rcases h.2 with h0 | ⟨g, cap, cur, hv, hB, hg, r⟩
  · exact .inl h0
  · exact .inr ⟨g, cap, cur, hv, hB, (hb.block g (Array.getElem?_eq_some_iff.1 hg).1).trans hg, r⟩

/-- A list of runes that lies in memory. -/
def RunesAt (w : World) (g o : Nat) (xs : List Int) : Prop := ∀ j, j < xs.length → w.cell? ⟨g, o + j, none⟩ = some (.int .i32 (xs.getD j 0))

theorem conv_runes (w : World) (g o c : Nat) (xs : List Int) (h : RunesAt w g o xs) :
    (convert 22 9 (.slice (some ⟨g, o, none⟩) xs.length c)).run Tryd.prog w = .ok (.string (runesBytes xs)) w := by
  have := run_convert_runes (P := Tryd.prog) w 22 9 21 ⟨g, o, none⟩ xs.length c xs (Nat.le_refl _) Tryd.underlying22 Tryd.underlying21 Tryd.underlying9 (fun j hj => by rw [Go.WideShapes.add_plain]; exact h j hj)
  rw [List.take_length] at this
  exact this

/-- The runes among numbers. -/
def rts (zs : List Int) : List Int := zs.filter isRune
theorem rts_len (zs : List Int) : (rts zs).length ≤ zs.length := List.length_filter_le _ _
theorem rts_all (zs : List Int) : ∀ x ∈ rts zs, isRune x = true := fun _ hx => (List.mem_filter.1 hx).2
theorem rts_yes (zs : List Int) (j : Nat) (h : j < zs.length) (hr : isRune (zs.getD j 0) = true) : rts (zs.take (j + 1)) = rts (zs.take j) ++ [zs.getD j 0] := by
  rw [take_succ' zs j h]; unfold rts; rw [List.filter_append]; generalize zs.getD j 0 = x at *; simp [hr]
theorem rts_no (zs : List Int) (j : Nat) (h : j < zs.length) (hr : isRune (zs.getD j 0) = false) : rts (zs.take (j + 1)) = rts (zs.take j) := by
  rw [take_succ' zs j h]; unfold rts; rw [List.filter_append]; generalize zs.getD j 0 = x at *; simp [hr]

/-- One rune more behind a list of the call's own. -/
theorem append_rune (w : World) (B : Nat) (v : Value) (xs : List Int) (x : Int) (hB : B ≤ w.heap.size) (hn : (xs.length + 1) * 4 ≤ 140737488355328) (o : w.ownsRow B 21 1 v xs.length (rcells xs)) :
    ∃ v' w', (Builtin.append_ #[22, 22] 22 #[v, .slice (some ⟨w.heap.size, 0, none⟩) 1 1]).run Tryd.prog (w.alloc (.cells #[.int .i32 x] 21)) = .ok v' w' ∧
      w'.ownsRow B 21 1 v' (xs ++ [x]).length (rcells (xs ++ [x])) ∧ Below B w w' := by
  obtain ⟨i0, hi, hz0, hz1, hz2⟩ := info_parts info21
  have o0 := o.alloc (.cells #[.int .i32 x] 21)
  obtain ⟨v', w', r, o', g, _⟩ := run_append_own (P := Tryd.prog) (w.alloc (.cells #[.int .i32 x] 21)) B 22 22 21 i0 (.int .i32 0) 1 4 Tryd.underlying22 hi hz0 hz1 hz2 rfl (by decide) _ xs.length (rcells xs) o0 ⟨w.heap.size, 0, none⟩ 1 1 [.int .i32 x] rfl
    (fun j u hj => by
      match j, hj with
      | 0, hj =>
        have hx : u = .int .i32 x := by simpa using hj.symm
        subst hx
        rw [Go.WideShapes.add_plain]
        unfold World.cell?
        rw [show (w.alloc (.cells #[.int .i32 x] 21)).heap[w.heap.size]? = some (.cells #[.int .i32 x] 21) from heap_alloc_new w _]
        simp) (fun u hu => by
      have hx : u = .int .i32 x := by simpa using hu
      subst hx; rfl) (by unfold maxLen; omega) hn (by simp; omega)
  refine ⟨v', w', r, ?_, ?_⟩
  · rw [List.length_append]
    have : rcells (xs ++ [x]) = rcells xs ++ [.int .i32 x] := by simp [rcells]
    rw [this]; exact o'
  · exact ((Below.refl B w).alloc hB _).grown g (by simp; omega) (fun k hk => (o.lt k hk).1)

set_option maxHeartbeats 2000000 in
theorem right_any (g o c : Nat) (zs : List Int) (w : World) (hn : zs.length * 4 ≤ 140737488355328) (h : RunesAt w g o zs) :
    Calls Tryd.prog 8 #[.slice (some ⟨g, o, none⟩) zs.length c] w fun e w' => ∃ v, e = .returned v ∧ w'.ownsRow w.heap.size 21 1 v (rts zs).length (rcells (rts zs)) ∧ Below w.heap.size w w' := by
  have H : Hid (RunesAt w g o zs) := h
  clear h
  generalize hn' : zs.length = n at *
  have HN : Hid (zs.length = n) := hn'
  clear hn'
  go_enter Tryd.func8, Tryd.ntmps8
  go_wp2
  go_loopw [3, 8] (fun l t w' => ∃ j : Nat, t = .int .i64 j ∧ j ≤ n ∧ w'.ownsRow w.heap.size 21 1 l (rts (zs.take j)).length (rcells (rts (zs.take j))) ∧ Below w.heap.size w w') (fun _ t _ => n - (RowKit.intOf t).toNat)
  case atStart => exact ⟨0, rfl, by omega, World.ownsRow_nil _ _ _ _, Below.refl _ _⟩
  case round =>
    obtain ⟨j, rfl, hj, hown, hbw⟩ := hrel
    by_cases hlt : j < n
    · have hjx : j < zs.length := by rw [HN.out]; exact hlt
      have d0 : wr.cell? ⟨g, o + j, none⟩ = some (.int .i32 (zs.getD j 0)) := by
        have q := H.out j hjx
        rw [hbw.cell (lt_of_cell q)]; exact q
      have hle := rts_len (zs.take j)
      have htl : (zs.take j).length ≤ j := List.length_take_le _ _
      have iff := isRune_iff (zs.getD j 0)
      by_cases hr : isRune (zs.getD j 0) = true
      · obtain ⟨q0, q1, q2⟩ := iff.1 hr
        have HE : Hid (rts (zs.take (j + 1)) = rts (zs.take j) ++ [zs.getD j 0]) := rts_yes zs j hjx hr
        obtain ⟨v', w', r1, o1, b1⟩ := append_rune wr w.heap.size u3 (rts (zs.take j)) (zs.getD j 0) hbw.size (by omega) hown
        clear hr iff hown hle htl hjx
        generalize zs.getD j 0 = x at *
        by_cases q3 : x < 55296
        · clear q2
          go_wp2_with (at_builtin; refine wpList_append_run rfl (.tmp 26) (.tmp 28) 22 22 rfl _ _ rfl rfl r1 ?_)
          go_roundw
          case rel => exact ⟨j + 1, by go_num, by omega, by rw [HE.out]; exact o1, hbw.trans b1⟩
          case measure => simp [RowKit.intOf]; omega
        · have q4 : 57343 < x := by omega
          clear q2
          go_wp2_with (at_builtin; refine wpList_append_run rfl (.tmp 26) (.tmp 28) 22 22 rfl _ _ rfl rfl r1 ?_)
          go_roundw
          case rel => exact ⟨j + 1, by go_num, by omega, by rw [HE.out]; exact o1, hbw.trans b1⟩
          case measure => simp [RowKit.intOf]; omega
      · have hr' : isRune (zs.getD j 0) = false := by simpa using hr
        have hq := mt iff.2 hr
        have HE : Hid (rts (zs.take (j + 1)) = rts (zs.take j)) := rts_no zs j hjx hr'
        have HO : Hid (wr.ownsRow w.heap.size 21 1 u3 (rts (zs.take j)).length (rcells (rts (zs.take j)))) := hown
        clear hr hr' iff hown hle htl hjx
        generalize zs.getD j 0 = x at *
        by_cases q0 : 0 ≤ x
        · by_cases q1 : x ≤ 1114111
          · have q3 : ¬ x < 55296 := by omega
            have q4 : ¬ 57343 < x := by omega
            clear hq
            go_wp2
            go_roundw
            case rel => exact ⟨j + 1, by go_num, by omega, by rw [HE.out]; exact HO.out, hbw⟩
            case measure => simp [RowKit.intOf]; omega
          · clear hq
            go_wp2
            go_roundw
            case rel => exact ⟨j + 1, by go_num, by omega, by rw [HE.out]; exact HO.out, hbw⟩
            case measure => simp [RowKit.intOf]; omega
        · clear hq
          go_wp2
          go_roundw
          case rel => exact ⟨j + 1, by go_num, by omega, by rw [HE.out]; exact HO.out, hbw⟩
          case measure => simp [RowKit.intOf]; omega
    · have HO : Hid (wr.ownsRow w.heap.size 21 1 u3 (rts (zs.take j)).length (rcells (rts (zs.take j)))) := hown
      clear hown
      have HT : Hid (zs.take j = zs) := List.take_of_length_le (by rw [HN.out]; omega)
      go_wp2
      go_ret
      have q := HO.out
      rw [HT.out] at q
      exact ⟨_, rfl, q, hbw⟩
/-- A row that was just built, owned. -/
theorem owns_built (w : World) (B : Nat) (xs : List Int) (hB : B ≤ w.heap.size) (hm : xs.length ≤ maxLen) :
    (w.alloc (.cells (rcells xs).toArray 21)).ownsRow B 21 1 (.slice (some ⟨w.heap.size, 0, none⟩) xs.length xs.length) xs.length (rcells xs) :=
  ⟨by simp [rcells], .inr ⟨w.heap.size, xs.length, _, rfl, hB, heap_alloc_new w _, Nat.le_refl _, hm, by simp [rcells], by rw [Nat.mul_one]; exact List.take_of_length_le (by simp [rcells])⟩⟩

/-- What a slice of runes that came in yields. -/
def NumsIn (w : World) (a : Option Addr) (ns : List Int) : Prop := (a = none ∧ ns = []) ∨ ∃ x, a = some x ∧ ∀ j u, (rcells ns)[j]? = some u → w.cell? (x.add j) = some u

/-- A list that came in put behind a new one. -/
theorem append_in (w : World) (pre ns : List Int) (a : Option Addr) (c : Nat) (hn : (pre.length + ns.length) * 4 ≤ 140737488355328) (h : NumsIn w a ns) :
    ∃ v' w', (Builtin.append_ #[22, 22] 22 #[.slice (some ⟨w.heap.size, 0, none⟩) pre.length pre.length, .slice a ns.length c]).run Tryd.prog (w.alloc (.cells (rcells pre).toArray 21)) = .ok v' w' ∧
      w'.ownsRow w.heap.size 21 1 v' (pre ++ ns).length (rcells (pre ++ ns)) ∧ Below w.heap.size w w' := by
  obtain ⟨i0, hi, hz0, hz1, hz2⟩ := info_parts info21
  have o0 := owns_built w w.heap.size pre (Nat.le_refl _) (by unfold maxLen; omega)
  rcases h with ⟨rfl, rfl⟩ | ⟨x, rfl, hc⟩
  · refine ⟨.slice (some ⟨w.heap.size, 0, none⟩) pre.length pre.length, w.alloc (.cells (rcells pre).toArray 21), ?_, by rw [List.append_nil]; exact o0, (Below.refl _ _).alloc (Nat.le_refl _) _⟩
    have hr := run_append_room_src (P := Tryd.prog) (w.alloc (.cells (rcells pre).toArray 21)) 22 22 22 21 i0 Tryd.underlying22 hi w.heap.size 0 pre.length pre.length (.slice none 0 c) 0 [] (hz1 ▸ Src.ofNil _ Tryd.underlying22 c) (by omega) (fun j hj => by cases hj) (fun j hj => by cases hj)
    exact hr
  · obtain ⟨v', w', r, o', g, _⟩ := run_append_own (P := Tryd.prog) (w.alloc (.cells (rcells pre).toArray 21)) w.heap.size 22 22 21 i0 (.int .i32 0) 1 4 Tryd.underlying22 hi hz0 hz1 hz2 rfl (by decide) _ pre.length (rcells pre) o0 x ns.length c (rcells ns) (by simp [rcells])
      (fun j u hj => by
        have q := hc j u hj
        rw [((Below.refl w.heap.size w).alloc (Nat.le_refl _) _).cell (World.block_lt_of_cell? w _ q)]
        exact q) (rcells_one ns) (by unfold maxLen; omega) hn (by simp)
    refine ⟨v', w', r, ?_, ?_⟩
    · rw [List.length_append]
      have : rcells (pre ++ ns) = rcells pre ++ rcells ns := by simp [rcells]
      rw [this]; exact o'
    · exact ((Below.refl w.heap.size w).alloc (Nat.le_refl _) _).grown g (by simp) (fun k hk => by simp [Value.ownBlock] at hk; omega)

/-- An owned row that is not empty has an address. -/
theorem owned_at {w : World} {B : Nat} {v : Value} {xs : List Int} (o : w.ownsRow B 21 1 v xs.length (rcells xs)) (hp : 0 < xs.length) :
    ∃ g c, v = .slice (some ⟨g, 0, none⟩) xs.length c ∧ RunesAt w g 0 xs ∧ B ≤ g ∧ g < w.heap.size := by
  have hl := o.lt
  have hc := fun g => o.cells (g := g)
  rcases o.2 with ⟨_, h⟩ | ⟨g, c, cur, rfl, _⟩
  · omega
  · refine ⟨g, c, rfl, fun j hj => ?_, (hl g rfl).1, (hl g rfl).2⟩
    have := hc g rfl j (.int .i32 (xs.getD j 0)) (by simp [rcells, List.getD, hj])
    rw [Go.WideShapes.add_plain] at this
    exact this

end Go.Proofs.YtdnbkgbgpfmipabDoor
