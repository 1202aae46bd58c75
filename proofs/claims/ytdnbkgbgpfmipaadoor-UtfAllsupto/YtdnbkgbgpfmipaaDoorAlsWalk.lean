/- UtfAlls: the walk of the law. -/
import Derived.Test.YtdnbkgbgpfmipaaDoorAlsF
namespace Go.Proofs.YtdnbkgbgpfmipaaDoor
open Go.RowKit Go.Lib

/-- The j-th place and rune. -/
def aj (A : List (Int × Int)) (j : Nat) : Int × Int := A.getD j (0, 0)
theorem aj_at (A : List (Int × Int)) (j : Nat) (h : j < A.length) : A[j]? = some (aj A j) := by simp [aj, List.getD, h]
theorem pc_at (A : List (Int × Int)) (stop : Int) (j : Nat) (h : j < (gn stop A).length) : (pcells (gn stop A))[j]? = some (.int .i64 (aj A j).1) := by
  have hl := gn_le stop A
  rw [pcells, List.getElem?_map, gn_at stop A j h, aj_at A j (by omega)]; rfl
theorem qc_at (A : List (Int × Int)) (stop : Int) (j : Nat) (h : j < (gn stop A).length) : (qcells (gn stop A))[j]? = some (.int .i32 (aj A j).2) := by
  have hl := gn_le stop A
  rw [qcells, List.getElem?_map, gn_at stop A j h, aj_at A j (by omega)]; rfl
theorem pc_all (A : List (Int × Int)) (j : Nat) (h : j < A.length) : (pcells A)[j]? = some (.int .i64 (aj A j).1) := by
  rw [pcells, List.getElem?_map, aj_at A j h]; rfl
theorem qc_all (A : List (Int × Int)) (j : Nat) (h : j < A.length) : (qcells A)[j]? = some (.int .i32 (aj A j).2) := by
  rw [qcells, List.getElem?_map, aj_at A j h]; rfl

theorem row_zero {w : World} {B e : Nat} {v : Value} {xs : List Value} (h : w.ownsRow B e 1 v 0 xs) : ∃ a c, v = .slice a 0 c := by
  rcases row_none h with rfl | ⟨g, c, rfl⟩
  · exact ⟨_, _, rfl⟩
  · exact ⟨_, _, rfl⟩

set_option maxHeartbeats 8000000 in
set_option maxRecDepth 100000 in
theorem alls_walk (s : ByteArray) (a0 : Option Addr) (c0 : Nat) (ns : List Int) (w : World) (hs : s.size ≤ 1048576) (hn : ns.length ≤ 1048576) (hT : Lib.Utf8Tabs 0 1 w) (h : StopsIn w a0 ns) :
    Calls Tryd.prog 5 #[.string s, .slice a0 ns.length c0] w fun e w' => e = .returned (.bool true) ∧ Below w.heap.size w w' := by
  have hsz := tabs_size hT
  have HT : Hid (Lib.Utf8Tabs 0 1 w) := hT
  have HI : Hid (StopsIn w a0 ns) := h
  have HSS : Hid (s.size ≤ 1048576) := hs
  have ka := all_any ⟨#[97, 195, 169]⟩ w
  have hB1 : Below w.heap.size w (w.alloc (.cells #[.string ⟨#[97, 195, 169]⟩] 9)) := (Below.refl _ _).alloc (Nat.le_refl _) _
  have kg := gone_any w.heap.size ⟨#[97, 195, 169]⟩ (by decide) (-1) (w.alloc (.cells #[.string ⟨#[97, 195, 169]⟩] 9)) (by
    unfold World.cell?
    rw [show (w.alloc (.cells #[.string ⟨#[97, 195, 169]⟩] 9)).heap[w.heap.size]? = some (.cells #[.string ⟨#[97, 195, 169]⟩] 9) from heap_alloc_new w _]
    rfl) (tabs_below hT hsz hB1)
  rw [al_const] at kg
  clear h hT hs
  go_enter Tryd.func5, Tryd.ntmps5
  go_wp2_with fail
  go_fit ka
  clear ka
  rintro e w1 ⟨rfl, rfl⟩
  go_wp2_with fail
  go_fit kg
  clear kg
  rintro e w2 ⟨v1, v2, rfl, o1, o2, b2⟩
  have hB2 : Below w.heap.size w w2 := hB1.trans (b2.mono hB1.size)
  obtain ⟨g1, c1, rfl, x1, _, _⟩ := row_at o1 (by decide)
  obtain ⟨g2, c2, rfl, x2, _, _⟩ := row_at o2 (by decide)
  have y1 : w2.cell? ⟨g1, 1, none⟩ = some (.int .i64 1) := x1 1 _ rfl
  have y2 : w2.cell? ⟨g2, 1, none⟩ = some (.int .i32 233) := x2 1 _ rfl
  have kr := rall_any s w2 HSS.out
  have e2 : (gn (-1) [((0 : Int), (97 : Int)), (1, 233)]).length = 2 := rfl
  rw [e2]
  clear o1 o2 x1 x2 hB1 b2 e2
  go_wp2_with fail
  go_fit kr
  clear kr y1 y2
  rintro e w3 ⟨vp, vl, rfl, o3, o4, b3⟩
  have hB3 : Below w.heap.size w w3 := hB2.trans (b3.mono hB2.size)
  have ka := all_any s w3
  have hB4 : Below w3.heap.size w3 (w3.alloc (.cells #[.string s] 9)) := (Below.refl _ _).alloc (Nat.le_refl _) _
  have hbx : (w3.alloc (.cells #[.string s] 9)).cell? ⟨w3.heap.size, 0, none⟩ = some (.string s) := by
    unfold World.cell?
    rw [show (w3.alloc (.cells #[.string s] 9)).heap[w3.heap.size]? = some (.cells #[.string s] 9) from heap_alloc_new w3 _]
    rfl
  have HB4 : Hid (Below w3.heap.size w3 (w3.alloc (.cells #[.string s] 9))) := hB4
  have hstp : StopsIn (w3.alloc (.cells #[.string s] 9)) a0 ns := by
    rcases HI.out with h0 | ⟨x, rfl, hc⟩
    · exact .inl h0
    · refine .inr ⟨x, rfl, fun j u hj => ?_⟩
      have q := hc j u hj
      have hlt := World.block_lt_of_cell? w _ q
      rw [hB4.cell (Nat.lt_of_lt_of_le hlt hB3.size), hB3.cell hlt]
      exact q
  obtain ⟨v5, w5, v6, w6, r5, r6, o6, b6⟩ := app_stops (w3.alloc (.cells #[.string s] 9)) ns a0 c0 hn hstp
  rw [World.size_alloc] at r5
  have hb36 : Below w3.heap.size w3 w6 := hB4.trans (b6.mono hB4.size)
  have hB6 : Below w.heap.size w w6 := hB3.trans (hb36.mono hB3.size)
  obtain ⟨g6, c6, rfl, x6, hg6, _⟩ := row_at o6 (by simp)
  have HST : Hid (∀ j, j < ([-1] ++ ns ++ [-1]).length → w6.cell? ⟨g6, j, none⟩ = some (.int .i64 (([-1] ++ ns ++ [-1]).getD j 0))) := fun j hj => x6 j _ (by rw [List.getElem?_map]; simp only [List.getD]; rw [List.getElem?_eq_getElem hj]; rfl)
  have HBX : Hid (w6.cell? ⟨w3.heap.size, 0, none⟩ = some (.string s)) := (b6.cell (p := ⟨w3.heap.size, 0, none⟩) (by simp)).trans hbx
  have hbs6 : w3.heap.size < w6.heap.size := by have := b6.size; simp at this; omega
  have HT6 : Hid (Lib.Utf8Tabs 0 1 w6) := tabs_below HT.out hsz hB6
  have hsz6 : 1 < w6.heap.size := Nat.lt_of_lt_of_le hsz hB6.size
  have HO3 : Hid (w6.ownsRow w2.heap.size 3 1 vp (al s).length (pcells (al s))) := o3.kept (grown_below hb36) (by cases vp.ownBlock <;> simp)
  have HO4 : Hid (w6.ownsRow w2.heap.size 21 1 vl (al s).length (qcells (al s))) := o4.kept (grown_below hb36) (by cases vl.ownBlock <;> simp)
  have hAl : (al s).length ≤ 1048576 := by have := alF_len s s.size 0; have := HSS.out; unfold al; omega
  have hml : ([-1] ++ ns ++ [-1]).length ≤ 1048578 := by simp; omega
  clear o3 o4 o6 x6 hstp hbx hB2 hB4 b3 b6 hb36
  generalize hst : [-1] ++ ns ++ [-1] = st at *
  have KG : Hid (∀ (stop : Int) (w' : World), Below w6.heap.size w6 w' → Calls Tryd.prog 15 #[.func (.func 30) #[] #[.pointer (some ⟨w3.heap.size, 0, none⟩)], .int .i64 stop] w' fun e w'' => ∃ v1 v2, e = .returned (.tuple #[v1, v2]) ∧
      w''.ownsRow w'.heap.size 3 1 v1 (gn stop (al s)).length (pcells (gn stop (al s))) ∧ w''.ownsRow w'.heap.size 21 1 v2 (gn stop (al s)).length (qcells (gn stop (al s))) ∧ Below w'.heap.size w' w'') := fun stop w' hb =>
    gone_any w3.heap.size s HSS.out stop w' ((hb.cell (p := ⟨w3.heap.size, 0, none⟩) hbs6).trans HBX.out) (tabs_below HT6.out hsz6 hb)
  generalize hA : al s = A at *
  clear hst hA
  generalize hm : st.length = m at *
  clear hm
  have hmi : (m : Int) ≤ 1048578 := by omega
  go_wp2_with fail
  go_fit ka
  clear ka
  rintro e w4 ⟨rfl, rfl⟩
  go_wp2_with (first | (at_builtin; refine wp_append_run rfl (.tmp 41) (.tmp 42) 35 35 rfl _ _ rfl rfl r5 ?_) | (at_builtin; refine wp_append_run rfl (.tmp 43) (.tmp 44) 35 35 rfl _ _ rfl rfl r6 ?_) | fail)
  clear r5 r6
  go_loopw [47] (fun t w' => ∃ j : Nat, t = .int .i64 j ∧ j ≤ m ∧ Below w6.heap.size w6 w') (fun t _ => m - (RowKit.intOf t).toNat)
  case atStart => exact ⟨0, rfl, by omega, Below.refl _ _⟩
  case round =>
    obtain ⟨j, rfl, hj, hbw⟩ := hrel
    by_cases hlt : j < m
    · have d0 : wr.cell? ⟨g6, j, none⟩ = some (.int .i64 (st.getD j 0)) := (hbw.cell (p := ⟨g6, j, none⟩) hg6).trans (HST.out j hlt)
      have kg := KG.out (st.getD j 0) wr hbw
      have hji : (j : Int) < m := by omega
      generalize st.getD j 0 = stop at *
      clear KG
      go_wp2_with fail
      go_fit kg
      clear kg d0
      rintro e w7 ⟨vq, vr, rfl, o7, o8, b7⟩
      have hb7 : Below w6.heap.size w6 w7 := hbw.trans (b7.mono hbw.size)
      have o3 := HO3.out.kept (grown_below hb7) (by cases vp.ownBlock <;> simp)
      have o4 := HO4.out.kept (grown_below hb7) (by cases vl.ownBlock <;> simp)
      have hgl := gn_len stop A
      have hle := gn_le stop A
      by_cases hA0 : A.length = 0
      · have hL0 : (gn stop A).length = 0 := by omega
        rw [hL0] at o7 o8
        rw [hA0] at o3 o4
        obtain ⟨ap, cp, rfl⟩ := row_zero o7
        obtain ⟨ar, cr, rfl⟩ := row_zero o8
        obtain ⟨aw, cw, rfl⟩ := row_zero o3
        have ks := fun a c => same_none ar a cr c w7
        have hv4 := row_none o4
        clear o7 o8 o3 o4 hL0 hgl hle
        rcases hv4 with rfl | ⟨gv, cv, rfl⟩
        · skip
          by_cases hs0 : 0 < stop
          · have hs1 : ¬ stop < 0 := by omega
            go_wp2_with fail
            go_fit (ks _ _)
            clear ks
            rintro e w8 ⟨rfl, b8⟩
            have hb8 : Below w6.heap.size w6 w8 := hb7.trans (b8.mono hb7.size)
            go_wp2_with fail
            go_loopw [81] (fun t w' => t = .int .i64 0 ∧ w' = w8) (fun _ _ => 0)
            case atStart => exact ⟨rfl, rfl⟩
            case round =>
              obtain ⟨rfl, rfl⟩ := hrel
              go_wp2
              exact ⟨⟨j + 1, by go_num, by omega, hb8⟩, by simp [RowKit.intOf]; omega⟩
          · skip
            go_wp2_with fail
            go_fit (ks _ _)
            clear ks
            rintro e w8 ⟨rfl, b8⟩
            have hb8 : Below w6.heap.size w6 w8 := hb7.trans (b8.mono hb7.size)
            go_wp2_with fail
            go_loopw [81] (fun t w' => t = .int .i64 0 ∧ w' = w8) (fun _ _ => 0)
            case atStart => exact ⟨rfl, rfl⟩
            case round =>
              obtain ⟨rfl, rfl⟩ := hrel
              go_wp2
              exact ⟨⟨j + 1, by go_num, by omega, hb8⟩, by simp [RowKit.intOf]; omega⟩
        · skip
          by_cases hs0 : 0 < stop
          · have hs1 : ¬ stop < 0 := by omega
            go_wp2_with fail
            go_fit (ks _ _)
            clear ks
            rintro e w8 ⟨rfl, b8⟩
            have hb8 : Below w6.heap.size w6 w8 := hb7.trans (b8.mono hb7.size)
            go_wp2_with fail
            go_loopw [81] (fun t w' => t = .int .i64 0 ∧ w' = w8) (fun _ _ => 0)
            case atStart => exact ⟨rfl, rfl⟩
            case round =>
              obtain ⟨rfl, rfl⟩ := hrel
              go_wp2
              exact ⟨⟨j + 1, by go_num, by omega, hb8⟩, by simp [RowKit.intOf]; omega⟩
          · skip
            go_wp2_with fail
            go_fit (ks _ _)
            clear ks
            rintro e w8 ⟨rfl, b8⟩
            have hb8 : Below w6.heap.size w6 w8 := hb7.trans (b8.mono hb7.size)
            go_wp2_with fail
            go_loopw [81] (fun t w' => t = .int .i64 0 ∧ w' = w8) (fun _ _ => 0)
            case atStart => exact ⟨rfl, rfl⟩
            case round =>
              obtain ⟨rfl, rfl⟩ := hrel
              go_wp2
              exact ⟨⟨j + 1, by go_num, by omega, hb8⟩, by simp [RowKit.intOf]; omega⟩
      · have hgp0 := gn_pos stop A (by omega)
        have HPC := pc_at A stop
        have HQC := qc_at A stop
        generalize hL : (gn stop A).length = L at *
        obtain ⟨gp, cp, rfl, xp, hgp, _⟩ := row_at o7 hgp0
        obtain ⟨gl, cl, rfl, xl, _, _⟩ := row_at o8 hgp0
        obtain ⟨gw, cw, rfl, xw, hgw, _⟩ := row_at o3 (by omega)
        obtain ⟨gv, cv, rfl, xv, _, hcv⟩ := row_at o4 (by omega)
        have HP : Hid (∀ i, i < L → w7.cell? ⟨gp, i, none⟩ = some (.int .i64 (aj A i).1)) := fun i hi => xp i _ (HPC i hi)
        have HW : Hid (∀ i, i < L → w7.cell? ⟨gw, i, none⟩ = some (.int .i64 (aj A i).1)) := fun i hi => xw i _ (pc_all A i (by omega))
        have ks := same_eq gl 0 gv 0 L cl cv (fun i => (aj A i).2) w7 (by unfold maxLen; omega) (fun i hi => by rw [Nat.zero_add]; exact xl i _ (HQC i hi)) (fun i hi => by rw [Nat.zero_add]; exact xv i _ (qc_all A i (by omega)))
        clear HPC HQC xp xl xw xv o7 o8 o3 o4 hL hgp0
        have hcvi : (A.length : Int) ≤ cv := by omega
        have hleI : (L : Int) ≤ A.length := by omega
        have hAi : (A.length : Int) ≤ 1048576 := by omega
        by_cases hsp : 0 < stop ∧ stop < A.length
        · rw [if_pos hsp] at hgl
          obtain ⟨hs0, hs1⟩ := hsp
          subst hgl
          go_wp2_with fail
          go_fit ks
          clear ks
          rintro e w8 ⟨rfl, b8⟩
          have hb8 : Below w6.heap.size w6 w8 := hb7.trans (b8.mono hb7.size)
          have HCP : Hid (∀ i, i < L → w8.cell? ⟨gp, i, none⟩ = some (.int .i64 (aj A i).1)) := fun i hi => (b8.cell (p := ⟨gp, i, none⟩) hgp).trans (HP.out i hi)
          have HCW : Hid (∀ i, i < L → w8.cell? ⟨gw, i, none⟩ = some (.int .i64 (aj A i).1)) := fun i hi => (b8.cell (p := ⟨gw, i, none⟩) hgw).trans (HW.out i hi)
          have hgp8 : gp < w8.heap.size := Nat.lt_of_lt_of_le hgp b8.size
          have hgw8 : gw < w8.heap.size := Nat.lt_of_lt_of_le hgw b8.size
          go_wp2_with fail
          go_loopw [81] (fun t w' => ∃ i : Nat, t = .int .i64 i ∧ i ≤ L ∧ Below w8.heap.size w8 w') (fun t _ => L - (RowKit.intOf t).toNat)
          case atStart => exact ⟨0, rfl, by omega, Below.refl _ _⟩
          case round =>
            obtain ⟨i, rfl, hi, hbi⟩ := hrel
            by_cases hil : i < L
            · have q1 := (hbi.cell (p := ⟨gp, i, none⟩) hgp8).trans (HCP.out i hil)
              have q2 := (hbi.cell (p := ⟨gw, i, none⟩) hgw8).trans (HCW.out i hil)
              generalize (aj A i).1 = X at *
              have hil' : (i : Int) < L := by omega
              have hiN : (i : Int) < A.length := by omega
              go_wp2
              go_quiet (fail)
              go_wp2
              exact ⟨⟨i + 1, by go_num, by omega, below_drewN hbi nq⟩, by simp [RowKit.intOf]; omega⟩
            · have hil' : ¬ (i : Int) < L := by omega
              go_wp2
              exact ⟨⟨j + 1, by go_num, by omega, hb8.trans (hbi.mono hb8.size)⟩, by simp [RowKit.intOf]; omega⟩
        · rw [if_neg hsp] at hgl
          have hLA : L = A.length := by omega
          clear hgl
          by_cases hs0 : 0 < stop
          · have hs1 : ¬ stop < A.length := fun x => hsp ⟨hs0, x⟩
            subst hLA
            go_wp2_with fail
            go_fit ks
            clear ks
            rintro e w8 ⟨rfl, b8⟩
            have hb8 : Below w6.heap.size w6 w8 := hb7.trans (b8.mono hb7.size)
            have HCP : Hid (∀ i, i < A.length → w8.cell? ⟨gp, i, none⟩ = some (.int .i64 (aj A i).1)) := fun i hi => (b8.cell (p := ⟨gp, i, none⟩) hgp).trans (HP.out i hi)
            have HCW : Hid (∀ i, i < A.length → w8.cell? ⟨gw, i, none⟩ = some (.int .i64 (aj A i).1)) := fun i hi => (b8.cell (p := ⟨gw, i, none⟩) hgw).trans (HW.out i hi)
            have hgp8 : gp < w8.heap.size := Nat.lt_of_lt_of_le hgp b8.size
            have hgw8 : gw < w8.heap.size := Nat.lt_of_lt_of_le hgw b8.size
            go_wp2_with fail
            go_loopw [81] (fun t w' => ∃ i : Nat, t = .int .i64 i ∧ i ≤ A.length ∧ Below w8.heap.size w8 w') (fun t _ => A.length - (RowKit.intOf t).toNat)
            case atStart => exact ⟨0, rfl, by omega, Below.refl _ _⟩
            case round =>
              obtain ⟨i, rfl, hi, hbi⟩ := hrel
              by_cases hil : i < A.length
              · have q1 := (hbi.cell (p := ⟨gp, i, none⟩) hgp8).trans (HCP.out i hil)
                have q2 := (hbi.cell (p := ⟨gw, i, none⟩) hgw8).trans (HCW.out i hil)
                generalize (aj A i).1 = X at *
                have hil' : (i : Int) < A.length := by omega
                go_wp2
                go_quiet (fail)
                go_wp2
                exact ⟨⟨i + 1, by go_num, by omega, below_drewN hbi nq⟩, by simp [RowKit.intOf]; omega⟩
              · have hil' : ¬ (i : Int) < A.length := by omega
                go_wp2
                exact ⟨⟨j + 1, by go_num, by omega, hb8.trans (hbi.mono hb8.size)⟩, by simp [RowKit.intOf]; omega⟩
          · subst hLA
            go_wp2_with fail
            go_fit ks
            clear ks
            rintro e w8 ⟨rfl, b8⟩
            have hb8 : Below w6.heap.size w6 w8 := hb7.trans (b8.mono hb7.size)
            have HCP : Hid (∀ i, i < A.length → w8.cell? ⟨gp, i, none⟩ = some (.int .i64 (aj A i).1)) := fun i hi => (b8.cell (p := ⟨gp, i, none⟩) hgp).trans (HP.out i hi)
            have HCW : Hid (∀ i, i < A.length → w8.cell? ⟨gw, i, none⟩ = some (.int .i64 (aj A i).1)) := fun i hi => (b8.cell (p := ⟨gw, i, none⟩) hgw).trans (HW.out i hi)
            have hgp8 : gp < w8.heap.size := Nat.lt_of_lt_of_le hgp b8.size
            have hgw8 : gw < w8.heap.size := Nat.lt_of_lt_of_le hgw b8.size
            go_wp2_with fail
            go_loopw [81] (fun t w' => ∃ i : Nat, t = .int .i64 i ∧ i ≤ A.length ∧ Below w8.heap.size w8 w') (fun t _ => A.length - (RowKit.intOf t).toNat)
            case atStart => exact ⟨0, rfl, by omega, Below.refl _ _⟩
            case round =>
              obtain ⟨i, rfl, hi, hbi⟩ := hrel
              by_cases hil : i < A.length
              · have q1 := (hbi.cell (p := ⟨gp, i, none⟩) hgp8).trans (HCP.out i hil)
                have q2 := (hbi.cell (p := ⟨gw, i, none⟩) hgw8).trans (HCW.out i hil)
                generalize (aj A i).1 = X at *
                have hil' : (i : Int) < A.length := by omega
                go_wp2
                go_quiet (fail)
                go_wp2
                exact ⟨⟨i + 1, by go_num, by omega, below_drewN hbi nq⟩, by simp [RowKit.intOf]; omega⟩
              · have hil' : ¬ (i : Int) < A.length := by omega
                go_wp2
                exact ⟨⟨j + 1, by go_num, by omega, hb8.trans (hbi.mono hb8.size)⟩, by simp [RowKit.intOf]; omega⟩
    · have hji : ¬ (j : Int) < m := by omega
      go_wp2
      go_ret
      exact ⟨rfl, hB6.trans (hbw.mono hB6.size)⟩
end Go.Proofs.YtdnbkgbgpfmipaaDoor
