/- A bundle of texts. -/
import Derived.Test.YtjmninjaoemhjaaDoorBm10
import Derived.Test.YtjmninjaoemhjaaDoorBm07
/- With. -/
namespace Go.Proofs.YtjmninjaoemhjaaDoor.K
open Go.RowKit Go.Lib

attribute [local go_sem] Oper.semAt_some

theorem make_w (w : World) (S k : Nat) (hS : S ≤ w.heap.size) (hk : k * 32 ≤ 281474976710656) : ∃ w', (Instr.makeSlice 22 (.int .i64 0) (.int .i64 (k : Int))).run Tryd.prog w = .ok (.slice (some ⟨w.heap.size, 0, none⟩) 0 k) w' ∧ w'.ownsRow S 26 2 (.slice (some ⟨w.heap.size, 0, none⟩) 0 k) 0 (lcL []) ∧ Below w.heap.size w w' := by
  obtain ⟨i0, hi, hz0, hz1, hz2⟩ := info_parts infL
  obtain ⟨w1, r, o, g⟩ := run_make_own (P := Tryd.prog) w S 22 26 i0 _ 2 Tryd.underlying22 hi hz0 hz1 .i64 .i64 k (by rw [hz2]; omega) (by unfold maxLen; omega) hS
  exact ⟨w1, r, o, (Below.refl _ w).grown g (Nat.le_refl _) (fun k hk => by cases hk)⟩
theorem row_lm {W : World} {S c : Nat} {a : Option Addr} {ks : List Lb} (h : W.ownsRow S 26 2 (.slice a ks.length c) ks.length (lcL ks)) : Lm W a (gL ks) ks.length := by
  rw [lcL_lc] at h
  exact Lm.of_row h
theorem tw_at (nm : ByteArray) (ks : List Lb) (i : Nat) (hi : i < ks.length) (h1 : gtB (gL ks i).1 nm = true) (h2 : ∀ j, j < i → gtB (gL ks j).1 nm = false) : (ks.takeWhile fun l => !gtB l.1 nm) = ks.take i ∧ (ks.dropWhile fun l => !gtB l.1 nm) = ks.drop i := by
  induction ks generalizing i with
  | nil => simp at hi
  | cons k ks ih =>
    cases i with
    | zero =>
      have : gtB k.1 nm = true := h1
      simp [this]
    | succ i =>
      have h0 : gtB k.1 nm = false := h2 0 (by omega)
      obtain ⟨e1, e2⟩ := ih i (by simpa using hi) h1 (fun j hj => h2 (j + 1) (by omega))
      simp [h0, e1, e2]
theorem tw_all (nm : ByteArray) (ks : List Lb) (h : ∀ j, j < ks.length → gtB (gL ks j).1 nm = false) : (ks.takeWhile fun l => !gtB l.1 nm) = ks ∧ (ks.dropWhile fun l => !gtB l.1 nm) = [] := by
  induction ks with
  | nil => simp
  | cons k ks ih =>
    have h0 : gtB k.1 nm = false := h 0 (by simp)
    obtain ⟨e1, e2⟩ := ih (fun j hj => h (j + 1) (by simpa using hj))
    simp [h0, e1, e2]
set_option maxRecDepth 100000 in
set_option maxHeartbeats 8000000 in
theorem with_any (a : Option Addr) (f : Nat → Lb) (n c : Nat) (nm vl : ByteArray) (w : World) (hn : n ≤ 2000000000) (hs : ∀ j, j < n → (f j).1.size ≤ 140737488355328 ∧ (f j).2.size ≤ 140737488355328) (hnm : nm.size ≤ 140737488355328) (hvl : vl.size ≤ 140737488355328) (hL : Lm w a f n) :
    Calls Tryd.prog 11 #[.slice a n c, .string nm, .string vl] w fun e w' => ∃ v, e = .returned v ∧ w'.ownsRow w.heap.size 26 2 v (wthL f nm vl n).length (lcL (wthL f nm vl n)) ∧ Below w.heap.size w w' := by
  have HL : Hid (Lm w a f n) := hL
  have HS : Hid (∀ j, j < n → (f j).1.size ≤ 140737488355328 ∧ (f j).2.size ≤ 140737488355328) := hs
  have KN : Hid (∀ W, Calls Tryd.prog 29 #[lbV (nm, vl)] W fun e w' => e = .returned (lbV (nm, vl)) ∧ Below W.heap.size W w') := fun W => copied_any (nm, vl) W hnm hvl
  have hnI : (n : Int) ≤ 2000000000 := by omega
  obtain ⟨W0, hW0⟩ : ∃ W0, W0 = w.alloc (.cells #[.string nm] 9) := ⟨_, rfl⟩
  have HW0 : Hid (W0 = w.alloc (.cells #[.string nm] 9)) := hW0
  have hb0 : Below w.heap.size w W0 := by rw [hW0]; exact (Below.refl _ w).alloc (Nat.le_refl _) _
  have hz0 : W0.heap.size = w.heap.size + 1 := by rw [hW0]; simp
  have hc0 : W0.cell? ⟨w.heap.size, 0, none⟩ = some (.string nm) := by rw [hW0]; exact c_new _ _ _
  obtain ⟨w1, r1, o1, b1⟩ := make_w W0 W0.heap.size (n + 1) (Nat.le_refl _) (by omega)
  obtain ⟨G, hG⟩ : ∃ G, G = W0.heap.size := ⟨_, rfl⟩
  have r1 : (Instr.makeSlice 22 (.int .i64 0) (.int .i64 ((n : Int) + 1))).run Tryd.prog W0 = .ok (.slice (some ⟨G, 0, none⟩) 0 (n + 1)) w1 := by
    rw [show (n : Int) + 1 = ((n + 1 : Nat) : Int) by omega, hG]
    exact r1
  rw [← hG] at o1 b1
  have HGw : Hid (G = w.heap.size + 1) := hG.trans hz0
  have HB1 : Hid (Below w.heap.size w w1) := hb0.trans (b1.mono (by omega))
  have HC1 : Hid (w1.cell? ⟨w.heap.size, 0, none⟩ = some (.string nm)) := (b1.cell (p := ⟨w.heap.size, 0, none⟩) (by show w.heap.size < G; omega)).trans hc0
  have HO1 : Hid (w1.ownsRow G 26 2 (.slice (some ⟨G, 0, none⟩) 0 (n + 1)) 0 (lcL [])) := o1
  clear hL hs hnm hvl hW0 hb0 hz0 hc0 o1 b1 hG
  go_enter Tryd.func11, Tryd.ntmps11
  go_upto_region 1 with fail
  rw [← HW0.out]
  clear HW0
  go_wp2
  clear r1
  go_loopw [7, 17] (fun sv ivv w' => ∃ i : Nat, ivv = .int .i64 (i : Int) ∧ sv = .slice (some ⟨G, 0, none⟩) (dropL f nm i).length (n + 1) ∧ i ≤ n ∧ Hid (w'.ownsRow G 26 2 (.slice (some ⟨G, 0, none⟩) (dropL f nm i).length (n + 1)) (dropL f nm i).length (lcL (dropL f nm i))) ∧ Hid (Below G w1 w')) (fun _ ivv _ => n - (RowKit.intOf ivv).toNat)
  case atStart => exact ⟨0, rfl, rfl, by omega, HO1, Below.refl _ _⟩
  case round =>
    clear HO1
    obtain ⟨i, rfl, rfl, hi, hrow, hbw⟩ := hrel
    have hbr : Below w.heap.size w wr := HB1.out.trans (hbw.out.mono (by have := HGw.out; omega))
    have hcn : wr.cell? ⟨w.heap.size, 0, none⟩ = some (.string nm) := (hbw.out.cell (p := ⟨w.heap.size, 0, none⟩) (by have := HGw.out; show w.heap.size < G; omega)).trans HC1.out
    by_cases hlt : i < n
    · have hii : (i : Int) < n := by omega
      obtain ⟨g, o, rfl, hg, c0, c1⟩ := (HL.out.below hbr).at i hlt
      obtain ⟨h1, h2⟩ := HS.out i hlt
      obtain ⟨⟨x1, x2⟩, hx⟩ : ∃ x, f i = x := ⟨_, rfl⟩
      rw [hx] at c0 c1 h1 h2
      dsimp only at c0 c1 h1 h2
      have HK : Hid (dropL f nm (i + 1) = dropL f nm i ++ if x1.toList == nm.toList then [] else [(x1, x2)]) := by unfold Hid; rw [dropL_succ, hx]
      have hkl := dropL_le f nm i
      generalize dropL f nm i = ks at hrow HK hkl ⊢
      have hal : Below wr.heap.size wr (wr.alloc (lbX (x1, x2))) := (Below.refl _ wr).alloc (Nat.le_refl _) _
      have hgz : G ≤ wr.heap.size := by have := (own_bd hrow.out G rfl).2; omega
      have hcn2 := bcell2 hal hcn
      have e : (wr.alloc (lbX (x1, x2))).heap[wr.heap.size]? = some (lbX (x1, x2)) := heap_alloc_new wr _
      have d0 : (wr.alloc (lbX (x1, x2))).cell? ⟨wr.heap.size, 0, none⟩ = some (.string x1) := by unfold World.cell?; rw [e]; rfl
      have d1 : (wr.alloc (lbX (x1, x2))).cell? ⟨wr.heap.size, 1, none⟩ = some (.string x2) := by unfold World.cell?; rw [e]; rfl
      have HRA : Hid ((wr.alloc (lbX (x1, x2))).ownsRow G 26 2 (.slice (some ⟨G, 0, none⟩) ks.length (n + 1)) ks.length (lcL ks)) := hrow.out.alloc _
      have HBA : Hid (Below G w1 (wr.alloc (lbX (x1, x2)))) := hbw.out.trans (hal.mono hgz)
      have k4 := copied_any (x1, x2) (wr.alloc (lbX (x1, x2))) h1 h2
      clear hrow hbw hbr hcn hx h1 h2 e hal hgz
      cases heq : (x1.toList == nm.toList)
      · rw [heq] at HK
        go_wp2_with fail
        go_fit k4
        rintro e w4 ⟨rfl, b4⟩
        have hr4 := (Kp.of (M := fun _ => False) b4).row HRA.out (fun _ _ => id)
        have hb4 := HBA.out.trans (b4.mono (by have := (own_bd HRA.out G rfl).2; omega))
        have ha5 : Below w4.heap.size w4 (w4.alloc (lbX (x1, x2))) := (Below.refl _ w4).alloc (Nat.le_refl _) _
        have hgz4 := (own_bd hr4 G rfl).2
        obtain ⟨w6, r, o6, kp6⟩ := fits_lb (w4.alloc (lbX (x1, x2))) G G (n + 1) w4.heap.size ks (x1, x2) (by omega) (World.alloc_heap_new w4 _) (hr4.alloc _)
        have HAP : Hid (w6.ownsRow G 26 2 (.slice (some ⟨G, 0, none⟩) (ks.length + 1) (n + 1)) (ks.length + 1) (lcL (ks ++ [(x1, x2)])) ∧ Below G w1 w6) := ⟨o6, (hb4.trans (ha5.mono (by omega))).trans (kp6.below (by simp; omega) (fun k hk e => by omega))⟩
        clear hr4 hb4 b4 k4 o6 kp6 d0 d1 ha5 hgz4 HRA HBA
        go_wp2_with (at_builtin; refine wpList_append_run rfl (.tmp 25) (.tmp 28) 22 22 rfl _ _ rfl rfl r ?_)
        have HK3 : Hid (dropL f nm (i + 1) = ks ++ [(x1, x2)]) := HK.out
        refine ⟨⟨i + 1, by go_num, ?_, by omega, ?_, HAP.out.2⟩, by simp [RowKit.intOf]; omega⟩
        · rw [HK3.out]; simp
        · unfold Hid
          rw [HK3.out, List.length_append]
          exact HAP.out.1
      · rw [heq] at HK
        have HK3 : Hid (dropL f nm (i + 1) = ks) := by unfold Hid; rw [HK.out]; simp
        clear k4
        go_wp2
        refine ⟨⟨i + 1, by go_num, ?_, by omega, ?_, HBA.out⟩, by simp [RowKit.intOf]; omega⟩
        · rw [HK3.out]
        · unfold Hid
          rw [HK3.out]
          exact HRA.out
    · obtain rfl : i = n := by omega
      have hii : ¬ (i : Int) < i := by omega
      have hkl := dropL_le f nm i
      have HWt : Hid (wthL f nm vl i = if vl.toList.isEmpty then dropL f nm i else insL nm vl (dropL f nm i)) := rfl
      generalize dropL f nm i = ks at hrow hkl HWt ⊢
      have HRO : Hid (wr.ownsRow G 26 2 (.slice (some ⟨G, 0, none⟩) ks.length (i + 1)) ks.length (lcL ks)) := hrow
      have HBR : Hid (Below w.heap.size w wr) := hbr
      have hklI : (ks.length : Int) ≤ 2000000000 := by omega
      clear hbw hbr r1
      cases hve : vl.toList.isEmpty
      · rw [hve] at HWt
        have kI := index_any (some ⟨G, 0, none⟩) (gL ks) ks.length (i + 1) w.heap.size nm wr (by omega) (row_lm hrow.out) hcn
        go_wp2_with fail
        go_fit kI
        rintro e w3 ⟨hcase, b3⟩
        rcases hcase with ⟨j, rfl, hj, hg1, hg2⟩ | ⟨rfl, hall⟩
        · obtain ⟨e1, e2⟩ := tw_at nm ks j hj hg1 hg2
          have HW2 : Hid (wthL f nm vl i = ks.take j ++ (nm, vl) :: ks.drop j) := by
            unfold Hid
            rw [HWt.out]
            show insL nm vl ks = _
            unfold insL
            rw [e1, e2]
          have hj0 : ¬ (j : Int) < 0 := by omega
          clear e1 e2 hg1 hg2
          have hcn3 := bcell2 b3 hcn
          have kC := KN.out w3
          have HR3 : Hid (w3.ownsRow G 26 2 (.slice (some ⟨G, 0, none⟩) ks.length (i + 1)) ks.length (lcL ks)) := (Kp.of (M := fun _ => False) b3).row HRO.out (fun _ _ => id)
          have HB3 : Hid (Below w.heap.size w w3) := HBR.out.trans (b3.mono HBR.out.size)
          clear b3 kI hcn hrow
          go_wp2_with fail
          go_fit kC
          rintro e w4 ⟨rfl, b4⟩
          have hr4 := (Kp.of (M := fun _ => False) b4).row HR3.out (fun _ _ => id)
          have hb4 := HB3.out.trans (b4.mono HB3.out.size)
          have hgz4 := (own_bd hr4 G rfl).2
          have ha5 : Below w4.heap.size w4 (w4.alloc (lbX (nm, vl))) := (Below.refl _ w4).alloc (Nat.le_refl _) _
          have HB5 : Hid (Below w.heap.size w (w4.alloc (lbX (nm, vl)))) := hb4.trans (ha5.mono hb4.size)
          have kN := insert_mid (w4.alloc (lbX (nm, vl))) G G (i + 1) j w4.heap.size ks (nm, vl) hj (by omega) (by omega) (by omega) (World.alloc_heap_new w4 _) (hr4.alloc _)
          clear hr4 hb4 b4 ha5 kC hcn3
          go_wp2_with fail
          go_fit kN
          rintro e w6 ⟨rfl, o6, k6⟩
          have HE : Hid (w6.ownsRow w.heap.size 26 2 (.slice (some ⟨G, 0, none⟩) (ks.length + 1) (i + 1)) (wthL f nm vl i).length (lcL (wthL f nm vl i)) ∧ Below w.heap.size w w6) := by
            refine ⟨?_, HB5.out.trans (k6.below HB5.out.size (fun k hk e => by have := HGw.out; omega))⟩
            rw [HW2.out]
            have := o6.mono (base' := w.heap.size) (by have := HGw.out; omega)
            have el : (ks.take j ++ (nm, vl) :: ks.drop j).length = ks.length + 1 := by simp; try omega
            rw [el]
            exact this
          clear o6 k6 kN
          go_wp2
          go_ret
          exact ⟨_, rfl, HE.out.1, HE.out.2⟩
        · obtain ⟨e1, e2⟩ := tw_all nm ks hall
          have HW2 : Hid (wthL f nm vl i = ks ++ [(nm, vl)]) := by
            unfold Hid
            rw [HWt.out]
            show insL nm vl ks = _
            unfold insL
            rw [e1, e2]
          clear e1 e2 hall
          have hcn3 := bcell2 b3 hcn
          have kC := KN.out w3
          have HR3 : Hid (w3.ownsRow G 26 2 (.slice (some ⟨G, 0, none⟩) ks.length (i + 1)) ks.length (lcL ks)) := (Kp.of (M := fun _ => False) b3).row HRO.out (fun _ _ => id)
          have HB3 : Hid (Below w.heap.size w w3) := HBR.out.trans (b3.mono HBR.out.size)
          clear b3 kI hcn hrow
          go_wp2_with fail
          go_fit kC
          rintro e w4 ⟨rfl, b4⟩
          have hr4 := (Kp.of (M := fun _ => False) b4).row HR3.out (fun _ _ => id)
          have hb4 := HB3.out.trans (b4.mono HB3.out.size)
          have hgz4 := (own_bd hr4 G rfl).2
          have ha5 : Below w4.heap.size w4 (w4.alloc (lbX (nm, vl))) := (Below.refl _ w4).alloc (Nat.le_refl _) _
          have HB5 : Hid (Below w.heap.size w (w4.alloc (lbX (nm, vl)))) := hb4.trans (ha5.mono hb4.size)
          have kN := insert_end (w4.alloc (lbX (nm, vl))) G G (i + 1) w4.heap.size ks (nm, vl) (by omega) (by omega) (World.alloc_heap_new w4 _) (hr4.alloc _)
          clear hr4 hb4 b4 ha5 kC hcn3
          go_wp2_with fail
          go_fit kN
          rintro e w6 ⟨rfl, o6, k6⟩
          have HE : Hid (w6.ownsRow w.heap.size 26 2 (.slice (some ⟨G, 0, none⟩) (ks.length + 1) (i + 1)) (wthL f nm vl i).length (lcL (wthL f nm vl i)) ∧ Below w.heap.size w w6) := by
            refine ⟨?_, HB5.out.trans (k6.below HB5.out.size (fun k hk e => by have := HGw.out; omega))⟩
            rw [HW2.out]
            have := o6.mono (base' := w.heap.size) (by have := HGw.out; omega)
            have el : (ks ++ [(nm, vl)]).length = ks.length + 1 := by simp; try omega
            rw [el]
            exact this
          clear o6 k6 kN
          go_wp2
          go_ret
          exact ⟨_, rfl, HE.out.1, HE.out.2⟩
      · rw [hve] at HWt
        have HE : Hid (wr.ownsRow w.heap.size 26 2 (.slice (some ⟨G, 0, none⟩) ks.length (i + 1)) (wthL f nm vl i).length (lcL (wthL f nm vl i))) := by
          unfold Hid
          rw [HWt.out]
          exact HRO.out.mono (by have := HGw.out; omega)
        clear hrow HRO HWt
        go_wp2
        go_ret
        exact ⟨_, rfl, HE.out, HBR.out⟩
end Go.Proofs.YtjmninjaoemhjaaDoor.K
/- Labels: what is so of a label set, as mathematics. -/
namespace Go.Proofs.YtjmninjaoemhjaaDoor
open Go.RowKit Go.Lib

theorem teq (a b : ByteArray) : (a.toList == b.toList) = true ↔ a = b := by
  rw [beq_iff_eq, Lib.toList_data, Lib.toList_data]
  constructor
  · intro h
    rw [ByteArray.ext_iff]
    exact Array.toList_inj.1 h
  · rintro rfl
    rfl
theorem tne (a b : ByteArray) : (a.toList == b.toList) = false ↔ a ≠ b := by
  rw [← Bool.not_eq_true, Ne, teq]
theorem tempty (a : ByteArray) : a.toList.isEmpty = true ↔ a = ⟨#[]⟩ := by
  rw [List.isEmpty_iff, Lib.toList_data]
  constructor
  · intro h
    rw [ByteArray.ext_iff]
    exact Array.toList_inj.1 h
  · rintro rfl
    rfl
def gvL (nm : ByteArray) : List Lb → ByteArray
  | [] => ⟨#[]⟩
  | x :: l => if x.1.toList == nm.toList then x.2 else gvL nm l
theorem gvF_range (f : Nat → Lb) (nm : ByteArray) : ∀ k i, gvF f nm k i = gvL nm ((List.range' i k).map f)
  | 0, _ => rfl
  | k + 1, i => by
    unfold gvF
    rw [List.range'_succ, List.map_cons]
    unfold gvL
    rw [gvF_range f nm k (i + 1)]
theorem gvF_gL (ks : List Lb) (nm : ByteArray) : gvF (K.gL ks) nm ks.length 0 = gvL nm ks := by
  rw [gvF_range, ← List.range_eq_range']
  exact congrArg (gvL nm) (K.ll_gL ks)
/-- A label set. -/
def Ls (ks : List Lb) : Prop := (∀ x ∈ ks, lbN x.1 = true ∧ x.2 ≠ ⟨#[]⟩ ∧ vld x.2 x.2.size 0 = true) ∧ ks.Pairwise fun x y => Op.bytesLess x.1.toList y.1.toList = true
theorem bl_ne {a b : ByteArray} (h : Op.bytesLess a.toList b.toList = true) : a ≠ b := by
  rintro rfl
  rcases od_cases a a with ⟨_, _, h3⟩ | ⟨_, h2, _⟩ | ⟨_, h2, _⟩
  · simp at h3
  · rw [h2] at h; cases h
  · rw [h2] at h; cases h
theorem Ls.filter {ks : List Lb} (h : Ls ks) (p : Lb → Bool) : Ls (ks.filter p) := ⟨fun x hx => h.1 x (List.mem_filter.1 hx).1, h.2.filter p⟩
theorem Ls.tail {x : Lb} {ks : List Lb} (h : Ls (x :: ks)) : Ls ks := ⟨fun y hy => h.1 y (List.mem_cons_of_mem _ hy), (List.pairwise_cons.1 h.2).2⟩
theorem gv_none {nm : ByteArray} : ∀ {ks : List Lb}, (∀ x ∈ ks, x.1 ≠ nm) → gvL nm ks = ⟨#[]⟩
  | [], _ => rfl
  | x :: ks, h => by
    unfold gvL
    rw [if_neg (by rw [teq]; exact h x (by simp))]
    exact gv_none fun y hy => h y (List.mem_cons_of_mem _ hy)
theorem Ls.inj {ks : List Lb} (h : Ls ks) {x y : Lb} (hx : x ∈ ks) (hy : y ∈ ks) (e : x.1 = y.1) : x = y := by
  induction ks with
  | nil => simp at hx
  | cons z ks ih =>
    have hp := List.pairwise_cons.1 h.2
    rcases List.mem_cons.1 hx with rfl | hx1
    · rcases List.mem_cons.1 hy with rfl | hy1
      · rfl
      · exact absurd e (bl_ne (hp.1 y hy1))
    · rcases List.mem_cons.1 hy with rfl | hy1
      · exact absurd e.symm (bl_ne (hp.1 x hx1))
      · exact ih h.tail hx1 hy1
theorem Ls.get {ks : List Lb} (h : Ls ks) {x : Lb} (hx : x ∈ ks) : gvL x.1 ks = x.2 := by
  induction ks with
  | nil => simp at hx
  | cons z ks ih =>
    unfold gvL
    by_cases e : z.1 = x.1
    · rw [if_pos ((teq _ _).2 e), h.inj (List.mem_cons_self ..) hx e]
    · rw [if_neg (by rw [teq]; exact e)]
      rcases List.mem_cons.1 hx with rfl | hx1
      · exact absurd rfl e
      · exact ih h.tail hx1
theorem Ls.out {ks : List Lb} (h : Ls ks) {p : Lb → Bool} {x : Lb} (hx : x ∈ ks) (hp : p x = false) : gvL x.1 (ks.filter p) = ⟨#[]⟩ :=
  gv_none fun y hy e => by
    have hy := List.mem_filter.1 hy
    rw [h.inj hy.1 hx e, hp] at hy
    exact absurd hy.2 (by simp)
theorem gv_mid {k nm v : ByteArray} (h : nm ≠ k) : ∀ (a b : List Lb), gvL k (a ++ (nm, v) :: b) = gvL k (a ++ b)
  | [], b => by
    show (if nm.toList == k.toList then v else gvL k b) = gvL k b
    rw [if_neg (by rw [teq]; exact h)]
  | x :: a, b => by
    show (if x.1.toList == k.toList then x.2 else gvL k (a ++ (nm, v) :: b)) = if x.1.toList == k.toList then x.2 else gvL k (a ++ b)
    rw [gv_mid h a b]
theorem gv_hit {nm v : ByteArray} : ∀ (a b : List Lb), (∀ x ∈ a, x.1 ≠ nm) → gvL nm (a ++ (nm, v) :: b) = v
  | [], b, _ => by
    show (if nm.toList == nm.toList then v else gvL nm b) = v
    rw [if_pos ((teq _ _).2 rfl)]
  | x :: a, b, h => by
    show (if x.1.toList == nm.toList then x.2 else gvL nm (a ++ (nm, v) :: b)) = v
    rw [if_neg (by rw [teq]; exact h x (by simp))]
    exact gv_hit a b fun y hy => h y (List.mem_cons_of_mem _ hy)
theorem Ls.one {ks : List Lb} (h : Ls ks) (p : Lb → Bool) (nm : ByteArray) (hp : ∀ x, p x = true → x.1 = nm) : (ks.filter p).length ≤ 1 := by
  have hf := h.filter p
  rcases hc : ks.filter p with _ | ⟨a, _ | ⟨b, l⟩⟩
  · simp
  · simp
  · rw [hc] at hf
    have ha := hp a (List.mem_filter.1 (by rw [hc]; simp)).2
    have hb := hp b (List.mem_filter.1 (by rw [hc]; simp : b ∈ ks.filter p)).2
    exact absurd (ha.trans hb.symm) (bl_ne ((List.pairwise_cons.1 hf.2).1 b (by simp)))
theorem len_split (p : Lb → Bool) : ∀ ks : List Lb, ks.length = (ks.filter p).length + (ks.filter fun x => !p x).length
  | [] => rfl
  | x :: ks => by
    have := len_split p ks
    rw [List.filter_cons, List.filter_cons]
    cases p x <;> simp <;> omega
/-! With. -/
theorem drop_gL (ks : List Lb) (nm : ByteArray) : K.dropL (K.gL ks) nm ks.length = ks.filter fun l => !(l.1.toList == nm.toList) := by
  unfold K.dropL
  rw [K.ll_gL]
theorem with_get (ks : List Lb) (nm vl : ByteArray) : gvL nm (K.wthL (K.gL ks) nm vl ks.length) = vl := by
  have hd : ∀ x ∈ ks.filter fun l : Lb => !(l.1.toList == nm.toList), x.1 ≠ nm := fun x hx => by
    have := (List.mem_filter.1 hx).2
    rw [← tne]
    simpa using this
  unfold K.wthL
  rw [drop_gL]
  split
  · rename_i h
    rw [gv_none hd]
    exact ((tempty _).1 h).symm
  · unfold K.insL
    exact gv_hit _ _ fun x hx => hd x (List.takeWhile_subset _ hx)
theorem with_other {ks : List Lb} (h : Ls ks) (nm vl : ByteArray) {x : Lb} (hx : x ∈ ks) (hn : x.1 ≠ nm) : gvL x.1 (K.wthL (K.gL ks) nm vl ks.length) = x.2 := by
  have hd : x ∈ ks.filter fun l : Lb => !(l.1.toList == nm.toList) := List.mem_filter.2 ⟨hx, by rw [(tne _ _).2 hn]; rfl⟩
  unfold K.wthL
  rw [drop_gL]
  split
  · exact (h.filter _).get hd
  · unfold K.insL
    rw [gv_mid (fun e => hn e.symm), List.takeWhile_append_dropWhile]
    exact (h.filter _).get hd
theorem ins_len (nm vl : ByteArray) (D : List Lb) : (K.insL nm vl D).length = D.length + 1 := by
  unfold K.insL
  rw [List.length_append, List.length_cons, ← Nat.add_assoc, ← List.length_append, List.takeWhile_append_dropWhile]
theorem with_len {ks : List Lb} (h : Ls ks) (nm vl : ByteArray) : (K.wthL (K.gL ks) nm vl ks.length).length ≤ ks.length + 1 ∧ ks.length ≤ (K.wthL (K.gL ks) nm vl ks.length).length + 1 := by
  have h1 := len_split (fun l => l.1.toList == nm.toList) ks
  have h2 := h.one (fun l => l.1.toList == nm.toList) nm (fun x hx => (teq _ _).1 hx)
  unfold K.wthL
  rw [drop_gL]
  split
  · constructor <;> omega
  · rw [ins_len]
    constructor <;> omega
theorem with_mem {ks : List Lb} {nm vl : ByteArray} {x : Lb} (hx : x ∈ K.wthL (K.gL ks) nm vl ks.length) : x ∈ ks ∨ x = (nm, vl) := by
  unfold K.wthL at hx
  rw [drop_gL] at hx
  split at hx
  · exact .inl (List.mem_filter.1 hx).1
  · unfold K.insL at hx
    rcases List.mem_append.1 hx with hx | hx
    · exact .inl (List.mem_filter.1 (List.takeWhile_subset _ hx)).1
    · rcases List.mem_cons.1 hx with rfl | hx
      · exact .inr rfl
      · exact .inl (List.mem_filter.1 (List.dropWhile_subset _ hx)).1
/-! Keep. -/
theorem kept_gL (ks : List Lb) (xs : List ByteArray) (wo : Bool) : K.keptL (K.gL ks) xs wo ks.length = ks.filter fun l => K.stay xs wo l.1 := by
  unfold K.keptL
  rw [K.ll_gL]
abbrev nmB : ByteArray := ⟨#[95, 95, 110, 97, 109, 101, 95, 95]⟩
theorem nmL_eq : K.nmL = nmB.toList := by rw [Lib.toList_data]
theorem stay_in (xs : List ByteArray) (x : ByteArray) : K.stay xs false x = K.mb xs x := rfl
theorem stay_out (xs : List ByteArray) (x : ByteArray) : K.stay xs true x = (!K.mb xs x && !(x.toList == nmB.toList)) := by
  unfold K.stay
  rw [nmL_eq]
  rfl
theorem out_name (ks : List Lb) (xs : List ByteArray) : gvL nmB (ks.filter fun l => K.stay xs true l.1) = ⟨#[]⟩ :=
  gv_none fun x hx => by
    have := (List.mem_filter.1 hx).2
    rw [stay_out] at this
    rw [← tne]
    simp at this
    simpa using this.2
theorem kept_count {ks : List Lb} (h : Ls ks) (xs : List ByteArray) : (ks.filter fun l => K.stay xs false l.1).length + (ks.filter fun l => K.stay xs true l.1).length + (if gvL nmB ks ≠ ⟨#[]⟩ ∧ gvL nmB (ks.filter fun l => K.stay xs false l.1) = ⟨#[]⟩ then 1 else 0) = ks.length := by
  have h1 := len_split (fun l => K.mb xs l.1) ks
  have h2 := len_split (fun l => l.1.toList == nmB.toList) (ks.filter fun l => !K.mb xs l.1)
  rw [List.filter_filter, List.filter_filter] at h2
  have e1 : (ks.filter fun l => K.stay xs true l.1) = ks.filter fun l => (!(l.1.toList == nmB.toList) && !K.mb xs l.1) := by
    congr 1
    funext l
    rw [stay_out, Bool.and_comm]
  have e2 : (ks.filter fun l => K.stay xs false l.1) = ks.filter fun l => K.mb xs l.1 := rfl
  have h3 := h.one (fun l => (l.1.toList == nmB.toList) && !K.mb xs l.1) nmB (fun x hx => (teq _ _).1 (by simp at hx; simpa using hx.1))
  rw [e1, e2]
  rcases hc : ks.filter (fun l => (l.1.toList == nmB.toList) && !K.mb xs l.1) with _ | ⟨x, l⟩
  · rw [hc] at h2
    rw [if_neg]
    · rw [List.length_nil] at h2; omega
    · rintro ⟨g1, g2⟩
      apply g1
      apply gv_none
      intro x hx e
      have hm : K.mb xs x.1 = true := by
        cases hm : K.mb xs x.1
        · have : x ∈ ks.filter (fun l => (l.1.toList == nmB.toList) && !K.mb xs l.1) := List.mem_filter.2 ⟨hx, by simp [e]; rw [← e]; exact hm⟩
          rw [hc] at this
          simp at this
        · rfl
      have := (h.filter fun l => K.mb xs l.1).get (x := x) (List.mem_filter.2 ⟨hx, hm⟩)
      rw [e, g2] at this
      exact (h.1 x hx).2.1 this.symm
  · have hx : x ∈ ks.filter (fun l => (l.1.toList == nmB.toList) && !K.mb xs l.1) := by rw [hc]; simp
    rw [hc] at h2 h3
    have hx' := List.mem_filter.1 hx
    have e : x.1 = nmB := (teq _ _).1 (by have := hx'.2; simp at this; simpa using this.1)
    have hm : K.mb xs x.1 = false := by have := hx'.2; simp at this; exact this.2
    rw [if_pos]
    · rw [List.length_cons] at h2 h3; omega
    · refine ⟨?_, ?_⟩
      · rw [← e, h.get hx'.1]
        exact (h.1 x hx'.1).2.1
      · rw [← e]
        exact h.out hx'.1 hm
theorem kept_get {ks : List Lb} (h : Ls ks) (xs : List ByteArray) {x : Lb} (hx : x ∈ ks) : gvL x.1 (ks.filter fun l => K.stay xs false l.1) = x.2 ∨ (gvL x.1 (ks.filter fun l => K.stay xs false l.1) = ⟨#[]⟩ ∧ (x.1 = nmB ∨ gvL x.1 (ks.filter fun l => K.stay xs true l.1) = x.2)) := by
  cases hm : K.mb xs x.1
  · refine .inr ⟨h.out hx hm, ?_⟩
    by_cases e : x.1 = nmB
    · exact .inl e
    · refine .inr ((h.filter _).get (List.mem_filter.2 ⟨hx, ?_⟩))
      rw [stay_out, hm, (tne _ _).2 e]
      rfl
  · exact .inl ((h.filter _).get (List.mem_filter.2 ⟨hx, hm⟩))
end Go.Proofs.YtjmninjaoemhjaaDoor
