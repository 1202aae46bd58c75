/- UtfRunes: the walk of the law's own texts1. -/
import Derived.Test.YtdnbkgbgpfmipabDoorRunesC
namespace Go.Proofs.YtdnbkgbgpfmipabDoor
open Go.RowKit Go.Lib

theorem tx98 (n : Nat) : (tx (List.replicate n 98)).2 = 0 := by
  rw [tx_ok _ (fun x hx => by rw [List.eq_of_mem_replicate hx]; rfl)]

theorem ov_runes {w : World} {B G c : Nat} {xs : List Int} {n : Nat} (hL : xs.length = n) (o : w.ownsRow B 21 1 (.slice (some ⟨G, 0, none⟩) (n + 8) c) (n + 8) (rcells (ov xs n))) : RunesAt w G 0 (List.replicate n 98) := fun j hj => by
  rw [List.length_replicate] at hj
  rw [Nat.zero_add, row_cell o j (by rw [ov_len xs n (by omega), hL]; omega)]
  have e : (ov xs n).getD j 0 = (List.replicate n (98 : Int)).getD j 0 := by
    unfold ov
    simp only [List.getD]
    rw [List.getElem?_append_left (by simp; omega)]
  rw [e]

set_option maxHeartbeats 8000000 in
set_option maxRecDepth 100000 in
theorem texts1_gen (a : Option Addr) (c : Nat) (xs : List Int) (w : World) (hn : xs.length ≤ 1048576) (h : NumsIn w a xs)
    (kr : Calls Tryd.prog 42 #[.slice a xs.length c] w fun e w' => e = .returned (.tuple #[.string (tx xs).1, .int .i64 (tx xs).2]) ∧ Below w.heap.size w w')
    (ks : ∀ (w' : World) (G : Nat), Below w.heap.size w w' → RunesAt w' G 0 xs → Calls Tryd.prog 17 #[.slice (some ⟨G, 0, none⟩) xs.length (xs.length + 8), .slice a xs.length c] w' fun e w'' => e = .returned (.bool true) ∧ Below w'.heap.size w' w'') :
    Calls Tryd.prog 19 #[.slice a xs.length c] w fun e w' => e = .returned (.bool true) ∧ Below w.heap.size w w' := by
  obtain ⟨i0, hi, hz0, hz1, hz2⟩ := info_parts info21
  have HM : Hid (∀ w1, Below w.heap.size w w1 → ∃ w', (Instr.makeSlice 22 (.int .i64 ((xs.length + 8 : Nat) : Int)) (.int .i64 ((xs.length + 8 : Nat) : Int))).run Tryd.prog w1 = .ok (.slice (some ⟨w1.heap.size, 0, none⟩) (xs.length + 8) (xs.length + 8)) w' ∧
      w'.ownsRow w.heap.size 21 1 (.slice (some ⟨w1.heap.size, 0, none⟩) (xs.length + 8) (xs.length + 8)) (xs.length + 8) (rcells (List.replicate (xs.length + 8) 0)) ∧ w1.grownBy w' none) := fun w1 hb => by
    have := run_make_full (P := Tryd.prog) w1 w.heap.size 22 21 i0 _ 1 Tryd.underlying22 hi hz0 hz1 .i64 .i64 (xs.length + 8) (by rw [hz2]; omega) (by unfold maxLen; omega) hb.size
    have e : (madeCells (Value.int IntKind.i32 0).cells ((xs.length + 8) * 1)).toList = rcells (List.replicate (xs.length + 8) 0) := by
      rw [Nat.mul_one]
      have := toList_madeCells_one (.int .i32 0) (xs.length + 8)
      simp only [rcells, List.map_replicate]
      exact this
    rw [e] at this
    exact this
  have HI : Hid (NumsIn w a xs) := h
  have HKS : Hid (∀ (w' : World) (G : Nat), Below w.heap.size w w' → RunesAt w' G 0 xs → Calls Tryd.prog 17 #[.slice (some ⟨G, 0, none⟩) xs.length (xs.length + 8), .slice a xs.length c] w' fun e w'' => e = .returned (.bool true) ∧ Below w'.heap.size w' w'') := ks
  have kt := fun G w' => text_any G 0 (xs.length + 8) xs w' (by omega)
  have HT98 : Hid ((tx (List.replicate xs.length 98)).2 = 0) := tx98 xs.length
  have kt8 := fun G w' => text_any G 0 (xs.length + 8) (List.replicate xs.length 98) w' (by simp; omega)
  have kr8 := fun G w' => rtext_any G 0 (xs.length + 8) (List.replicate xs.length 98) w' (by simp; omega) (fun j hj => by simp at hj; simp [List.getD, hj])
  simp only [List.length_replicate] at kt8 kr8
  have HK8 : Hid (∀ G w', RunesAt w' G 0 (List.replicate xs.length 98) → Calls Tryd.prog 13 #[.slice (some ⟨G, 0, none⟩) xs.length (xs.length + 8)] w' fun e w'' => e = .returned (.tuple #[.string (tx (List.replicate xs.length 98)).1, .int .i64 (tx (List.replicate xs.length 98)).2]) ∧ w'' = w') := kt8
  have HR8 : Hid (∀ G w', RunesAt w' G 0 (List.replicate xs.length 98) → Calls Tryd.prog 42 #[.slice (some ⟨G, 0, none⟩) xs.length (xs.length + 8)] w' fun e w'' => e = .returned (.tuple #[.string (tx (List.replicate xs.length 98)).1, .int .i64 (tx (List.replicate xs.length 98)).2]) ∧ Below w'.heap.size w' w'') := kr8
  have HKT : Hid (∀ G w', RunesAt w' G 0 xs → Calls Tryd.prog 13 #[.slice (some ⟨G, 0, none⟩) xs.length (xs.length + 8)] w' fun e w'' => e = .returned (.tuple #[.string (tx xs).1, .int .i64 (tx xs).2]) ∧ w'' = w') := kt
  generalize htx : tx xs = T at *
  generalize ht8 : tx (List.replicate xs.length 98) = T8 at *
  clear htx ht8 h ks kt kt8 kr8
  generalize hL : xs.length = n at *
  have HL : Hid (xs.length = n) := hL
  have hni : (n : Int) ≤ 1048576 := by omega
  clear hL
  have hcast : ((n : Int) + 8) = ((n + 8 : Nat) : Int) := by omega
  go_enter Tryd.func19, Tryd.ntmps19
  go_wp2_with fail
  go_fit kr
  clear kr
  rintro e w1 ⟨rfl, b1⟩
  obtain ⟨w2, r2, o2, g2⟩ := HM.out w1 b1
  have hb2 : Below w.heap.size w w2 := b1.grown g2 b1.size (fun k hk => by cases hk)
  obtain ⟨v3, w3, r3, o3, b3⟩ := copy_in w2 w.heap.size w1.heap.size xs a c 3 (by
    rcases HI.out with h0 | ⟨x, rfl, hc⟩
    · exact .inl h0
    · exact .inr ⟨x, rfl, fun j u hj => by
        have q := hc j u hj
        rw [hb2.cell (World.block_lt_of_cell? w _ q)]
        exact q⟩) (by rw [HL.out]; exact o2)
  rw [HL.out] at r3 o3
  have hb3 : Below w.heap.size w w3 := hb2.trans b3
  have r2' : (Instr.makeSlice 22 (.int .i64 ((n : Int) + 8)) (.int .i64 ((n : Int) + 8))).run Tryd.prog w1 = .ok (.slice (some ⟨w1.heap.size, 0, none⟩) (n + 8) (n + 8)) w2 := by rw [hcast]; exact r2
  have HO3 : Hid (w3.ownsRow w.heap.size 21 1 (.slice (some ⟨w1.heap.size, 0, none⟩) (n + 8) (n + 8)) (n + 8) (rcells (fl xs 0))) := o3
  generalize w1.heap.size = G at *
  clear HM r2 o2 g2 o3 hb2 b1 b3 hcast hi hz0 hz1 hz2
  go_wp2_with (first | (at_builtin; refine wp_copy_run rfl (.tmp 27) (.tmp 28) 22 22 rfl _ _ rfl rfl r3 ?_) | fail)
  clear r3 r2'
  have hGb : w.heap.size ≤ G := (HO3.out.lt G rfl).1
  go_loopw [6] (fun t w' => ∃ k J : Nat, t = .int .i64 (J : Int) ∧ Hid (J = n + k) ∧ k ≤ 8 ∧ Hid (w'.ownsRow w.heap.size 21 1 (.slice (some ⟨G, 0, none⟩) (n + 8) (n + 8)) (n + 8) (rcells (fl xs k))) ∧ Below w.heap.size w w') (fun t _ => n + 8 - (RowKit.intOf t).toNat)
  case atStart => exact ⟨0, n, rfl, rfl, by omega, HO3, hb3⟩
  case round =>
    obtain ⟨k, J, rfl, hJ, hk, ho, hbw⟩ := hrel
    have hJe := hJ.out
    by_cases hlt : k < 8
    · have hc := row_cell ho.out J (by rw [fl_len xs k hk, HL.out]; omega)
      have hf : wr.frozen? ⟨G, J, none⟩ = false := ho.out.frozenAt J
      have HS : Hid ((wr.setCell ⟨G, J, none⟩ (.int .i32 77)).ownsRow w.heap.size 21 1 (.slice (some ⟨G, 0, none⟩) (n + 8) (n + 8)) (n + 8) (rcells (fl xs (k + 1)))) := by
        have := (ho.out.stored J (.int .i32 77)).1
        rw [hJe, ← HL.out, fl_set xs k hlt, HL.out, ← hJe] at this
        exact this
      have hJl : (J : Int) < (n : Int) + 8 := by omega
      have hJn : (J : Int) ≤ 1048600 := by omega
      clear hJe
      generalize (fl xs k).getD J 0 = old at *
      go_wp2
      go_roundw
      case rel => exact ⟨k + 1, J + 1, by go_num, (by have := hJ.out; omega : _ = _), by omega, HS, hbw.setCell (p := ⟨G, J, none⟩) hGb _⟩
      case measure => simp [RowKit.intOf]; have := hJ.out; omega
    · obtain rfl : k = 8 := by omega
      have hJl : ¬ (J : Int) < (n : Int) + 8 := by omega
      clear hJe
      have HO4 : Hid (wr.ownsRow w.heap.size 21 1 (.slice (some ⟨G, 0, none⟩) (n + 8) (n + 8)) (n + 8) (rcells (ov xs 0))) := ho
      have HRA : Hid (RunesAt wr G 0 xs) := fun j hj => by
        rw [Nat.zero_add]
        have := row_cell HO4.out j (by rw [ov_len xs 0 (by omega)]; omega)
        rw [this]
        simp [ov, List.getD, List.getElem?_append_left hj]
      have H77 : Hid (∀ j, n ≤ j → j < n + 8 → wr.cell? ⟨G, j, none⟩ = some (.int .i32 77)) := fun j h1 h2 => by
        have := row_cell HO4.out j (by rw [ov_len xs 0 (by omega), HL.out]; omega)
        rw [this]
        have e : (ov xs 0).getD j 0 = 77 := by
          unfold ov
          simp only [List.replicate_zero, List.nil_append, List.drop_zero, List.getD]
          rw [List.getElem?_append_right (by rw [HL.out]; exact h1), HL.out, List.getElem?_replicate]
          rw [if_pos (by omega)]
          rfl
        rw [e]
      have kt1 := HKT.out G wr HRA.out
      have ks1 := HKS.out wr G hbw HRA.out
      have hni' : (n : Int) ≤ (n : Int) + 8 := by omega
      go_wp2_with fail
      go_fit kt1
      clear kt1
      rintro e w5 ⟨rfl, rfl⟩
      go_wp2_with (first | (go_at_call 16; go_fit (num_any _ _); rintro e w6 ⟨rfl, rfl⟩) | fail)
      go_fit ks1
      clear ks1
      rintro e w7 ⟨rfl, b7⟩
      have hGl := (HO4.out.lt G rfl).2
      have HO7 : Hid (w7.ownsRow w.heap.size 21 1 (.slice (some ⟨G, 0, none⟩) (n + 8) (n + 8)) (n + 8) (rcells (ov xs 0))) := ownsR_below HO4.out b7
      have HC7 : Hid (∀ j, n ≤ j → j < n + 8 → w7.cell? ⟨G, j, none⟩ = some (.int .i32 77)) := fun j h1 h2 => (b7.cell (p := ⟨G, j, none⟩) hGl).trans (H77.out j h1 h2)
      have HRA7 : Hid (RunesAt w7 G 0 xs) := fun j hj => (b7.cell (p := ⟨G, 0 + j, none⟩) hGl).trans (HRA.out j hj)
      have hb7 : Below w.heap.size w w7 := hbw.trans (b7.mono hbw.size)
      have kt2 := HKT.out G w7 HRA7.out
      clear HKT HKS HO4 HO3 H77 HRA ho
      go_wp2_with fail
      go_loopw [10] (fun t w' => ∃ J : Nat, t = .int .i64 (J : Int) ∧ n ≤ J ∧ J ≤ n + 8 ∧ w' = w7) (fun t _ => n + 8 - (RowKit.intOf t).toNat)
      case atStart => exact ⟨n, rfl, by omega, by omega, rfl⟩
      case round =>
        obtain ⟨I, rfl, hI0, hI1, rfl⟩ := hrel
        by_cases hIl : I < n + 8
        · have d0 := HC7.out I hI0 hIl
          have hIi : (I : Int) < (n : Int) + 8 := by omega
          go_wp2
          exact ⟨⟨I + 1, by go_num, by omega, by omega, trivial⟩, by simp [RowKit.intOf]; omega⟩
        · have hIi : ¬ (I : Int) < (n : Int) + 8 := by omega
          go_wp2_with fail
          go_fit kt2
          clear kt2
          rintro e w8 ⟨rfl, rfl⟩
          go_wp2_with fail
          go_loopw [85] (fun t w' => ∃ k : Nat, t = .int .i64 (k : Int) ∧ k ≤ n ∧ Hid (w'.ownsRow w.heap.size 21 1 (.slice (some ⟨G, 0, none⟩) (n + 8) (n + 8)) (n + 8) (rcells (ov xs k))) ∧ Below w.heap.size w w') (fun t _ => n - (RowKit.intOf t).toNat)
          case atStart => exact ⟨0, rfl, by omega, HO7, hb7⟩
          case round =>
            obtain ⟨k, rfl, hk, ho, hbk⟩ := hrel
            by_cases hkl : k < n
            · have hc := row_cell ho.out k (by rw [ov_len xs k (by rw [HL.out]; exact hk), HL.out]; omega)
              have hf := ho.out.frozenAt k
              have HS := (ho.out.stored k (.int .i32 98)).1
              rw [ov_set xs k (by rw [HL.out]; exact hkl)] at HS
              have hki : (k : Int) < n := by omega
              generalize (ov xs k).getD k 0 = old at *
              go_wp2
              exact ⟨⟨k + 1, by go_num, by omega, HS, hbk.setCell (p := ⟨G, k, none⟩) hGb _⟩, by simp [RowKit.intOf]; omega⟩
            · have hki : ¬ (k : Int) < n := by omega
              obtain rfl : k = n := by omega
              have hra := ov_runes HL.out ho.out
              have hgl := (ho.out.lt G rfl).2
              have kr8 := HR8.out G _ hra
              have HRA8 := hra
              have H8 : Hid _ := hra
              clear hra HRA8
              go_wp2_with fail
              go_fit kr8
              clear kr8
              rintro e w9 ⟨rfl, b9⟩
              have kt8 := HK8.out G w9 (fun j hj => (b9.cell (p := ⟨G, 0 + j, none⟩) hgl).trans (H8.out j hj))
              go_wp2_with fail
              go_fit kt8
              clear kt8
              rintro e w10 ⟨rfl, rfl⟩
              have h98 := HT98.out
              go_wp2_with (go_at_call 16; go_fit (num_any _ _); rintro e w11 ⟨rfl, rfl⟩)
              go_ret
              exact ⟨rfl, hbk.trans (b9.mono hbk.size)⟩

set_option maxHeartbeats 1000000 in
theorem rtext_none (a : Option Addr) (c : Nat) (w : World) :
    Calls Tryd.prog 42 #[.slice a 0 c] w fun e w' => e = .returned (.tuple #[.string ⟨#[]⟩, .int .i64 0]) ∧ w' = w := by
  have hcv := conv_owned w w.heap.size (.slice none 0 0) [] (World.ownsRow_nil _ _ _ _)
  go_enter Tryd.func42, Tryd.ntmps42
  go_wp2
  go_loopw [4, 5] (fun b t w' => b = .slice none 0 0 ∧ t = .int .i64 0 ∧ w' = w) (fun _ _ _ => 0)
  case atStart => exact ⟨rfl, rfl, rfl⟩
  case round =>
    obtain ⟨rfl, rfl, rfl⟩ := hrel
    go_wp2
    go_ret2
    exact ⟨rfl, rfl⟩

theorem texts1_any (a : Option Addr) (c : Nat) (xs : List Int) (w : World) (hn : xs.length ≤ 1048576) (h32 : ∀ j, j < xs.length → -2147483648 ≤ xs.getD j 0 ∧ xs.getD j 0 ≤ 2147483647)
    (h : (xs = [] ∧ a = none) ∨ ∃ g o, a = some ⟨g, o, none⟩ ∧ RunesAt w g o xs) : Calls Tryd.prog 19 #[.slice a xs.length c] w fun e w' => e = .returned (.bool true) ∧ Below w.heap.size w w' := by
  rcases h with ⟨rfl, rfl⟩ | ⟨g, o, rfl, hr⟩
  · refine texts1_gen none c [] w hn (.inl ⟨rfl, rfl⟩) ?_ (fun w' G _ _ => same_none _ _ _ _ w')
    refine (rtext_none none c w).mono ?_
    rintro e w' ⟨rfl, rfl⟩
    exact ⟨rfl, Below.refl _ _⟩
  · refine texts1_gen (some ⟨g, o, none⟩) c xs w hn (.inr ⟨_, rfl, fun j u hj => ?_⟩) (rtext_any g o c xs w (by omega) h32 hr) (fun w' G hb hG => ?_)
    · have hjl : j < xs.length := by have := (List.getElem?_eq_some_iff.1 hj).1; simpa [rcells] using this
      rw [Go.WideShapes.add_plain, hr j hjl]
      simp only [rcells, List.getElem?_map, List.getElem?_eq_getElem hjl, Option.map_some, Option.some.injEq] at hj
      rw [← hj]
      simp [List.getD, hjl]
    · exact same_eq G 0 g o xs.length _ c (fun j => xs.getD j 0) w' (by unfold maxLen; omega) hG (fun j hj => by
        have q := hr j hj
        exact (hb.cell (p := ⟨g, o + j, none⟩) (lt_of_cell q)).trans q)
end Go.Proofs.YtdnbkgbgpfmipabDoor
