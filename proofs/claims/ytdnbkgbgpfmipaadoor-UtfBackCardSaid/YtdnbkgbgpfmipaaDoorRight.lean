/- The walk of the law's own right. -/
import Derived.Test.YtdnbkgbgpfmipaaDoorText
namespace Go.Proofs.YtdnbkgbgpfmipaaDoor
open Go.RowKit Go.Lib

/-- The runes among numbers. -/
def rts (zs : List Int) : List Int := zs.filter isRune
theorem rts_len (zs : List Int) : (rts zs).length ≤ zs.length := List.length_filter_le _ _
theorem rts_all (zs : List Int) : ∀ x ∈ rts zs, isRune x = true := fun _ hx => (List.mem_filter.1 hx).2
theorem rts_yes (zs : List Int) (j : Nat) (h : j < zs.length) (hr : isRune (zs.getD j 0) = true) : rts (zs.take (j + 1)) = rts (zs.take j) ++ [zs.getD j 0] := by
  rw [take_succ' zs j h]; unfold rts; rw [List.filter_append]; generalize zs.getD j 0 = x at *; simp [hr]
theorem rts_no (zs : List Int) (j : Nat) (h : j < zs.length) (hr : isRune (zs.getD j 0) = false) : rts (zs.take (j + 1)) = rts (zs.take j) := by
  rw [take_succ' zs j h]; unfold rts; rw [List.filter_append]; generalize zs.getD j 0 = x at *; simp [hr]

/-- One rune more behind a list of the call's own. -/
theorem append_one (w : World) (B : Nat) (v : Value) (xs : List Int) (x : Int) (hB : B ≤ w.heap.size) (hn : (xs.length + 1) * 4 ≤ 140737488355328) (o : w.ownsRow B 21 1 v xs.length (rcells xs)) :
    ∃ v' w', (Builtin.append_ #[25, 25] 25 #[v, .slice (some ⟨w.heap.size, 0, none⟩) 1 1]).run Tryd.prog (w.alloc (.cells #[.int .i32 x] 21)) = .ok v' w' ∧
      w'.ownsRow B 21 1 v' (xs ++ [x]).length (rcells (xs ++ [x])) ∧ Below B w w' := by
  obtain ⟨i0, hi, hz0, hz1, hz2⟩ := info_parts info21
  have o0 := o.alloc (.cells #[.int .i32 x] 21)
  obtain ⟨v', w', r, o', g, _⟩ := run_append_own (P := Tryd.prog) (w.alloc (.cells #[.int .i32 x] 21)) B 25 25 21 i0 (.int .i32 0) 1 4 Tryd.underlying25 hi hz0 hz1 hz2 rfl (by decide) _ xs.length (rcells xs) o0 ⟨w.heap.size, 0, none⟩ 1 1 [.int .i32 x] rfl
    (fun j u hj => by
      match j, hj with
      | 0, hj =>
        have hx : u = .int .i32 x := by simpa using hj.symm
        subst hx
        rw [Go.WideShapes.add_plain]
        unfold World.cell?
        rw [show (w.alloc (.cells #[.int .i32 x] 21)).heap[w.heap.size]? = some (.cells #[.int .i32 x] 21) from heap_alloc_new w _]
        simp) (fun u hu => by
      have hx : u = .int .i32 x := by simpa using hu
      subst hx; rfl) (by unfold maxLen; omega) hn (by simp; omega)
  refine ⟨v', w', r, ?_, ?_⟩
  · rw [List.length_append]
    have : rcells (xs ++ [x]) = rcells xs ++ [.int .i32 x] := by simp [rcells]
    rw [this]; exact o'
  · exact ((Below.refl B w).alloc hB _).grown g (by simp; omega) (fun k hk => (o.lt k hk).1)

set_option maxHeartbeats 2000000 in
theorem right_any (g o c : Nat) (zs : List Int) (w : World) (hn : zs.length * 4 ≤ 140737488355328) (h : RunesAt w g o zs) :
    Calls Tryd.prog 20 #[.slice (some ⟨g, o, none⟩) zs.length c] w fun e w' => ∃ v, e = .returned v ∧ w'.ownsRow w.heap.size 21 1 v (rts zs).length (rcells (rts zs)) ∧ Below w.heap.size w w' := by
  have H : Hid (RunesAt w g o zs) := h
  clear h
  generalize hn' : zs.length = n at *
  have HN : Hid (zs.length = n) := hn'
  clear hn'
  go_enter Tryd.func20, Tryd.ntmps20
  go_wp2
  go_loopw [3, 8] (fun l t w' => ∃ j : Nat, t = .int .i64 j ∧ j ≤ n ∧ w'.ownsRow w.heap.size 21 1 l (rts (zs.take j)).length (rcells (rts (zs.take j))) ∧ Below w.heap.size w w') (fun _ t _ => n - (RowKit.intOf t).toNat)
  case atStart => exact ⟨0, rfl, by omega, World.ownsRow_nil _ _ _ _, Below.refl _ _⟩
  case round =>
    obtain ⟨j, rfl, hj, hown, hbw⟩ := hrel
    by_cases hlt : j < n
    · have hjx : j < zs.length := by rw [HN.out]; exact hlt
      have d0 : wr.cell? ⟨g, o + j, none⟩ = some (.int .i32 (zs.getD j 0)) := by
        have q := H.out j hjx
        rw [hbw.cell (lt_of_cell q)]; exact q
      have hle := rts_len (zs.take j)
      have htl : (zs.take j).length ≤ j := List.length_take_le _ _
      have iff := isRune_iff (zs.getD j 0)
      by_cases hr : isRune (zs.getD j 0) = true
      · obtain ⟨q0, q1, q2⟩ := iff.1 hr
        have HE : Hid (rts (zs.take (j + 1)) = rts (zs.take j) ++ [zs.getD j 0]) := rts_yes zs j hjx hr
        obtain ⟨v', w', r1, o1, b1⟩ := append_one wr w.heap.size u3 (rts (zs.take j)) (zs.getD j 0) hbw.size (by omega) hown
        clear hr iff hown hle htl hjx
        generalize zs.getD j 0 = x at *
        by_cases q3 : x < 55296
        · clear q2
          go_wp2_with (at_builtin; refine wpList_append_run rfl (.tmp 26) (.tmp 28) 25 rfl _ _ rfl rfl r1 ?_)
          go_roundw
          case rel => exact ⟨j + 1, by go_num, by omega, by rw [HE.out]; exact o1, hbw.trans b1⟩
          case measure => simp [RowKit.intOf]; omega
        · have q4 : 57343 < x := by omega
          clear q2
          go_wp2_with (at_builtin; refine wpList_append_run rfl (.tmp 26) (.tmp 28) 25 rfl _ _ rfl rfl r1 ?_)
          go_roundw
          case rel => exact ⟨j + 1, by go_num, by omega, by rw [HE.out]; exact o1, hbw.trans b1⟩
          case measure => simp [RowKit.intOf]; omega
      · have hr' : isRune (zs.getD j 0) = false := by simpa using hr
        have hq := mt iff.2 hr
        have HE : Hid (rts (zs.take (j + 1)) = rts (zs.take j)) := rts_no zs j hjx hr'
        have HO : Hid (wr.ownsRow w.heap.size 21 1 u3 (rts (zs.take j)).length (rcells (rts (zs.take j)))) := hown
        clear hr hr' iff hown hle htl hjx
        generalize zs.getD j 0 = x at *
        by_cases q0 : 0 ≤ x
        · by_cases q1 : x ≤ 1114111
          · have q3 : ¬ x < 55296 := by omega
            have q4 : ¬ 57343 < x := by omega
            clear hq
            go_wp2
            go_roundw
            case rel => exact ⟨j + 1, by go_num, by omega, by rw [HE.out]; exact HO.out, hbw⟩
            case measure => simp [RowKit.intOf]; omega
          · clear hq
            go_wp2
            go_roundw
            case rel => exact ⟨j + 1, by go_num, by omega, by rw [HE.out]; exact HO.out, hbw⟩
            case measure => simp [RowKit.intOf]; omega
        · clear hq
          go_wp2
          go_roundw
          case rel => exact ⟨j + 1, by go_num, by omega, by rw [HE.out]; exact HO.out, hbw⟩
          case measure => simp [RowKit.intOf]; omega
    · have HO : Hid (wr.ownsRow w.heap.size 21 1 u3 (rts (zs.take j)).length (rcells (rts (zs.take j)))) := hown
      clear hown
      have HT : Hid (zs.take j = zs) := List.take_of_length_le (by rw [HN.out]; omega)
      go_wp2
      go_ret
      have q := HO.out
      rw [HT.out] at q
      exact ⟨_, rfl, q, hbw⟩
end Go.Proofs.YtdnbkgbgpfmipaaDoor
