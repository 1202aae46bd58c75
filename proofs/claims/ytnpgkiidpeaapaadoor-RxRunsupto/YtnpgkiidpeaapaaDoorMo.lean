/- machineOf: the rows of whole numbers. -/
import Derived.Test.YtnpgkiidpeaapaaDoorPi
import Derived.Test.YtnpgkiidpeaapaaDoorPj
import Derived.Deep.RegionHeld3
import Derived.Deep.DeepCutAuto
import Derived.Laws.Rows
namespace Go.Proofs.YtnpgkiidpeaapaaDoor
open Go.RowKit

theorem slc_set (F : Nat → Int) (n a : Nat) (v : Int) (h : a < n) : (sc (slc F) n).set a (.int .i64 v) = sc (slc (upd F a v)) n := by
  rw [sc_set _ _ _ _ h]
  exact sc_congr _ _ _ fun i _ => by
    unfold up slc upd
    split <;> rfl
theorem slc_congr (F F' : Nat → Int) (n : Nat) (h : ∀ i, i < n → F i = F' i) : sc (slc F) n = sc (slc F') n := sc_congr _ _ _ fun i hi => by unfold slc; rw [h i hi]
/-- A row of whole numbers of one's own. -/
def Ri (w : World) (S g c n : Nat) (F : Nat → Int) : Prop := w.ownsRow S 3 1 (.slice (some ⟨g, 0, none⟩) n c) n (sc (slc F) n)
section
variable {w w' : World} {S g c n : Nat} {F : Nat → Int}
theorem Ri.cell (h : Ri w S g c n F) (a : Nat) (ha : a < n) : w.cell? ⟨g, a, none⟩ = some (.int .i64 (F a)) ∧ w.frozen? ⟨g, a, none⟩ = false := by
  have := World.ownsRow.cellAt h a (by omega)
  rw [sc_get _ n a ha] at this
  exact ⟨this, World.ownsRow.frozenAt h a⟩
theorem Ri.put (h : Ri w S g c n F) (a : Nat) (ha : a < n) (v : Int) : Ri (w.setCell ⟨g, a, none⟩ (.int .i64 v)) S g c n (upd F a v) := by
  have := (World.ownsRow.stored h a (.int .i64 v)).1
  rw [slc_set _ _ _ _ ha] at this
  exact this
theorem Ri.kp {M : Nat → Prop} (h : Ri w S g c n F) (k : Kp M w w') (hg : ¬ M g) : Ri w' S g c n F := k.row h (fun i e => by have : g = i := Option.some.inj e; rw [← this]; exact hg)
theorem Ri.lt (h : Ri w S g c n F) : S ≤ g ∧ g < w.heap.size := row_lt h g rfl
theorem Ri.congr {F' : Nat → Int} (h : Ri w S g c n F) (e : ∀ i, i < n → F i = F' i) : Ri w S g c n F' := by
  unfold Ri
  rw [← slc_congr F F' n e]
  exact h
end
theorem infI : (Tryd.prog.info? 3).map (fun i => (i.zero, i.size, i.bytes)) = some (some (.int .i64 0), 1, 8) := by kernel_rfl
theorem make_i (w : World) (S k : Nat) (hS : S ≤ w.heap.size) (hk : k * 8 ≤ 281474976710656) : ∃ w', (Instr.makeSlice 31 (.int .i64 (k : Int)) (.int .i64 (k : Int))).run Tryd.prog w = .ok (.slice (some ⟨w.heap.size, 0, none⟩) k k) w' ∧ Ri w' S w.heap.size k k (fun _ => 0) ∧ Below w.heap.size w w' := by
  obtain ⟨i0, hi, hz0, hz1, hz2⟩ := info_parts infI
  obtain ⟨w1, r, o, g⟩ := run_make_full (P := Tryd.prog) w S 31 3 i0 (.int .i64 0) 1 Tryd.underlying31 hi hz0 hz1 .i64 .i64 k (by rw [hz2]; omega) (by unfold maxLen; omega) hS
  have hb : Below w.heap.size w w1 := (Below.refl _ w).grown g (Nat.le_refl _) (fun k hk => by cases hk)
  refine ⟨w1, r, ?_, hb⟩
  · have e : sc (slc fun _ => 0) k = sc (fun _ => Value.int .i64 0) k := rfl
    unfold Ri
    rw [e, ← made_sc]
    exact o
abbrev mC (ia : Option Addr) (n ic : Nat) (st gr : Int) (na : Option Addr) (nn nc jb jc : Nat) (ct : Nat) : Array Value := #[.slice ia n ic, .int .i64 st, .int .i64 gr, .slice na nn nc, .slice (some ⟨jb, 0, none⟩) n jc, .int .i64 (ct : Int)]
abbrev mV (ia : Option Addr) (n ic : Nat) (st gr : Int) (na : Option Addr) (nn nc jb jc : Nat) (ct : Nat) : Value := .agg (mC ia n ic st gr na nn nc jb jc ct)
abbrev mZ : Array Value := #[.slice none 0 0, .int .i64 0, .int .i64 0, .slice none 0 0, .slice none 0 0, .int .i64 0]
theorem set6 {w : World} {g t : Nat} {a0 a1 a2 a3 a4 a5 : Value} (v0 v1 v2 v3 v4 v5 : Value) (h : w.heap[g]? = some (.cells #[a0, a1, a2, a3, a4, a5] t)) :
    ((((((w.setCell ⟨g, 0, none⟩ v0).setCell ⟨g, 1, none⟩ v1).setCell ⟨g, 2, none⟩ v2).setCell ⟨g, 3, none⟩ v3).setCell ⟨g, 4, none⟩ v4).setCell ⟨g, 5, none⟩ v5).heap[g]? = some (.cells #[v0, v1, v2, v3, v4, v5] t) :=
  heap_setCell_same _ _ _ _ _ _ (heap_setCell_same _ _ _ _ _ _ (heap_setCell_same _ _ _ _ _ _ (heap_setCell_same _ _ _ _ _ _ (heap_setCell_same _ _ _ _ _ _ (heap_setCell_same _ _ _ _ _ _ h)))))
theorem six {w : World} {g t : Nat} {a0 a1 a2 a3 a4 a5 : Value} (h : w.heap[g]? = some (.cells #[a0, a1, a2, a3, a4, a5] t)) :
    (w.cell? ⟨g, 0, none⟩ = some a0 ∧ w.cell? ⟨g, 1, none⟩ = some a1 ∧ w.cell? ⟨g, 2, none⟩ = some a2 ∧ w.cell? ⟨g, 3, none⟩ = some a3 ∧ w.cell? ⟨g, 4, none⟩ = some a4 ∧ w.cell? ⟨g, 5, none⟩ = some a5) ∧ ∀ j, w.frozen? ⟨g, j, none⟩ = false :=
  ⟨⟨cell_of_row _ _ _ _ _ _ h, cell_of_row _ _ _ _ _ _ h, cell_of_row _ _ _ _ _ _ h, cell_of_row _ _ _ _ _ _ h, cell_of_row _ _ _ _ _ _ h, cell_of_row _ _ _ _ _ _ h⟩, fun _ => frozen_of_row _ _ _ _ _ h⟩
theorem six_kp {M : Nat → Prop} (w : World) (g : Nat) (v0 v1 v2 v3 v4 v5 : Value) (h : M g) : Kp M w ((((((w.setCell ⟨g, 0, none⟩ v0).setCell ⟨g, 1, none⟩ v1).setCell ⟨g, 2, none⟩ v2).setCell ⟨g, 3, none⟩ v3).setCell ⟨g, 4, none⟩ v4).setCell ⟨g, 5, none⟩ v5) :=
  ((((((Kp.refl M w).setCell (p := ⟨g, 0, none⟩) h _).setCell (p := ⟨g, 1, none⟩) h _).setCell (p := ⟨g, 2, none⟩) h _).setCell (p := ⟨g, 3, none⟩) h _).setCell (p := ⟨g, 4, none⟩) h _).setCell (p := ⟨g, 5, none⟩) h _
/-- Behind the first half: the ways, the joints, the machine, the place of the answer. -/
structure MS (w U : World) (WB m6 jb n : Nat) (cs : Array Value) (F G : Nat → Int) : Prop where
  blk : U.heap[m6]? = some (.cells cs 41)
  rj : Ri U w.heap.size jb n n G
  rw : Ri U w.heap.size WB n n F
  res : U.heap[w.heap.size + 1]? = some (.cells mZ 41)
  bel : Below w.heap.size w U
  l0 : w.heap.size + 1 < WB
  l1 : WB < jb
  l2 : WB < m6
  ne : jb ≠ m6
theorem MS.putj {w U : World} {WB m6 jb n : Nat} {cs : Array Value} {F G : Nat → Int} (h : MS w U WB m6 jb n cs F G) (q : Nat) (hq : q < n) (v : Int) : MS w (U.setCell ⟨jb, q, none⟩ (.int .i64 v)) WB m6 jb n cs F (upd G q v) := by
  have kk : Kp (· = jb) U (U.setCell ⟨jb, q, none⟩ (.int .i64 v)) := (Kp.refl (· = jb) U).setCell (p := ⟨jb, q, none⟩) rfl _
  have h0 := h.l0
  have h1 := h.l1
  have h2 := h.rw.lt
  exact ⟨(heap_setCell_other _ _ _ _ (fun e => h.ne e.symm)).trans h.blk, h.rj.put q hq v, h.rw.kp kk (by omega), (heap_setCell_other _ _ _ _ (by show w.heap.size + 1 ≠ jb; omega)).trans h.res, h.bel.trans (kk.below (by have := h.bel.size; omega) (fun i hi e => by omega)), h.l0, h.l1, h.l2, h.ne⟩
theorem MS.putc {w U : World} {WB m6 jb n : Nat} {cs : Array Value} {F G : Nat → Int} (h : MS w U WB m6 jb n cs F G) (q : Nat) (v : Value) : MS w (U.setCell ⟨m6, q, none⟩ v) WB m6 jb n (cs.setIfInBounds q v) F G := by
  have kk : Kp (· = m6) U (U.setCell ⟨m6, q, none⟩ v) := (Kp.refl (· = m6) U).setCell (p := ⟨m6, q, none⟩) rfl _
  have h0 := h.l0
  have h1 := h.l2
  exact ⟨heap_setCell_same _ _ _ _ _ _ h.blk, h.rj.kp kk h.ne, h.rw.kp kk (by omega), (heap_setCell_other _ _ _ _ (by show w.heap.size + 1 ≠ m6; omega)).trans h.res, h.bel.trans (kk.below (by have := h.bel.size; omega) (fun i hi e => by omega)), h.l0, h.l1, h.l2, h.ne⟩
theorem MS.congr {w U : World} {WB m6 jb n : Nat} {cs : Array Value} {F G G' : Nat → Int} (h : MS w U WB m6 jb n cs F G) (e : ∀ i, i < n → G i = G' i) : MS w U WB m6 jb n cs F G' := ⟨h.blk, h.rj.congr e, h.rw, h.res, h.bel, h.l0, h.l1, h.l2, h.ne⟩
theorem inf41 : (Tryd.prog.info? 41).map (·.size) = some 6 := by kernel_rfl
def wvI (x : Nat → In) (st : Int) (j : Nat) : Nat → Int := fun i => ((if st = (i : Int) then 1 else 0) + wys x j i : Nat)
theorem wv_succ (x : Nat → In) (st : Int) (j i : Nat) : wvI x st (j + 1) i = wvI x st j i + (wy (x j) i : Int) := by
  unfold wvI
  have e : wys x (j + 1) i = wys x j i + wy (x j) i := rfl
  rw [e]
  omega
theorem wv_out (x : Nat → In) (st : Int) (j O : Nat) (h1 : (x j).op ≠ 1) (h11 : (x j).op ≠ 11) (h3 : (x j).op ≠ 3) (hO : (x j).out = (O : Int)) (i : Nat) : upd (wvI x st j) O (wvI x st j O + 1) i = wvI x st (j + 1) i := by
  rw [wv_succ]
  have e : wy (x j) i = if O = i then 1 else 0 := by
    unfold wy
    rw [if_neg (by omega), if_neg (fun e => h3 e.1), hO]
    by_cases e : O = i
    · rw [if_pos (by omega), if_pos e]
    · rw [if_neg (by omega), if_neg e]
  rw [e]
  unfold upd
  by_cases e : i = O
  · rw [if_pos e, e, if_pos rfl]; rfl
  · rw [if_neg e, if_neg (fun h => e h.symm)]; omega
theorem ite_flip (a b : Nat) : (if a = b then 1 else 0 : Nat) = if b = a then 1 else 0 := by
  by_cases h : a = b
  · rw [if_pos h, if_pos h.symm]
  · rw [if_neg h, if_neg (fun e => h e.symm)]
theorem wv_split (x : Nat → In) (st : Int) (j A O : Nat) (h3 : (x j).op = 3) (hA : (x j).alt = (A : Int)) (hO : (x j).out = (O : Int)) (i : Nat) : upd (upd (wvI x st j) A (wvI x st j A + 1)) O (upd (wvI x st j) A (wvI x st j A + 1) O + 1) i = wvI x st (j + 1) i := by
  rw [wv_succ]
  have e : wy (x j) i = (if i = A then 1 else 0) + (if i = O then 1 else 0) := by
    have e1 : (if (x j).op = 3 ∧ (x j).alt = (i : Int) then 1 else 0) = (if i = A then 1 else 0) := by
      by_cases e : i = A
      · rw [if_pos ⟨h3, by omega⟩, if_pos e]
      · rw [if_neg (fun h => e (by have := h.2; omega)), if_neg e]
    have e2 : (if (x j).out = (i : Int) then 1 else 0) = (if i = O then 1 else 0) := by
      by_cases e : i = O
      · rw [if_pos (by omega), if_pos e]
      · rw [if_neg (by omega), if_neg e]
    unfold wy
    rw [if_neg (by omega), e1, e2]
  rw [e]
  unfold upd
  by_cases e1 : i = O
  · subst e1
    by_cases e2 : i = A
    · subst e2; simp; omega
    · simp [e2]
  · by_cases e2 : i = A
    · subst e2; simp [e1]
    · simp [e1, e2]
set_option maxHeartbeats 4000000 in
set_option maxRecDepth 100000 in
theorem machineOf_any (ia : Option Addr) (n ic : Nat) (st gr : Int) (na : Option Addr) (nn nc : Nat) (x : Nat → In) (w : World) (hI : Nml w ia x n) (hn : n ≤ 10000) (h0 : 0 ≤ st) (h1 : st < (n : Int)) (hS : ∀ j, j < n → SIn (x j) n gr) :
    Calls Tryd.prog 11 #[prV ia n ic st gr na nn nc] w fun e w' => ∃ jb jc, e = .returned (mV ia n ic st gr na nn nc jb jc (cj (jo x n st) n)) ∧ Ri w' w.heap.size jb jc n (jtI (jo x n st)) ∧ Below w.heap.size w w' := by
  have b0 : Below w.heap.size w (w.alloc (prX ia n ic st gr na nn nc)) := (Below.refl _ w).alloc (Nat.le_refl _) _
  obtain ⟨W0, hW0⟩ : ∃ W0, W0 = (w.alloc (prX ia n ic st gr na nn nc)).alloc (.cells #[.slice none 0 0, .int .i64 0, .int .i64 0, .slice none 0 0, .slice none 0 0, .int .i64 0] 41) := ⟨_, rfl⟩
  have b1 : Below w.heap.size w W0 := by rw [hW0]; exact b0.alloc (by simp) _
  have hz0 : W0.heap.size = w.heap.size + 2 := by rw [hW0]; simp
  obtain ⟨c0, c1, c2, c3⟩ := prX_cells (w := w) (W := W0) ia n ic st gr na nn nc (by rw [hW0]; exact (Below.refl _ _).alloc (Nat.le_refl _) _)
  obtain ⟨W1, rm, RW, bW⟩ := make_i W0 w.heap.size n (by omega) (by omega)
  have HW0 : Hid (W0 = (w.alloc (.cells #[.slice ia n ic, .int .i64 st, .int .i64 gr, .slice na nn nc] 29)).alloc (.cells #[.slice none 0 0, .int .i64 0, .int .i64 0, .slice none 0 0, .slice none 0 0, .int .i64 0] 41)) := hW0
  have d0 := bcell2 bW c0
  have d1 := bcell2 bW c1
  obtain ⟨s0, hs0⟩ : ∃ s0 : Nat, st = (s0 : Int) := ⟨st.toNat, by omega⟩
  subst hs0
  have hs0n : s0 < n := by omega
  obtain ⟨e1, e2⟩ := RW.cell s0 hs0n
  obtain ⟨WB, hWB⟩ : ∃ WB, WB = W0.heap.size := ⟨_, rfl⟩
  rw [← hWB] at rm RW e1 e2
  have RW1 : Ri (W1.setCell ⟨WB, s0, none⟩ (.int .i64 1)) w.heap.size WB n n (wvI x (s0 : Int) 0) := (RW.put s0 hs0n 1).congr (fun i _ => by
    unfold upd wvI wys
    by_cases e : i = s0
    · rw [if_pos e, if_pos (by omega)]; rfl
    · rw [if_neg e, if_neg (by omega)]; rfl)
  have HRW1 : Hid _ := RW1
  have rm' := rm
  rw [hW0] at rm'
  have hWBw : w.heap.size + 2 = WB := by omega
  have bI : Below w.heap.size w W1 := b1.trans (bW.mono (by omega))
  obtain ⟨W2, hW2⟩ : ∃ W2, W2 = W1.setCell ⟨WB, s0, none⟩ (.int .i64 1) := ⟨_, rfl⟩
  rw [← hW2] at RW1
  have HW2 : Hid (W2 = W1.setCell ⟨WB, s0, none⟩ (.int .i64 1)) := hW2
  have kW2 : Kp (· = WB) W1 W2 := by rw [hW2]; exact (Kp.refl (· = WB) W1).setCell (p := ⟨WB, s0, none⟩) rfl _
  have bI2 : Below w.heap.size w W2 := bI.trans (kW2.below (by have := bI.size; omega) (fun i hi e => by omega))
  have d0' := kW2.cell d0 (by show ¬ w.heap.size = WB; omega)
  have d1' := kW2.cell d1 (by show ¬ w.heap.size = WB; omega)
  have d2' := kW2.cell (bcell2 bW c2) (by show ¬ w.heap.size = WB; omega)
  have d3' := kW2.cell (bcell2 bW c3) (by show ¬ w.heap.size = WB; omega)
  have hres : W2.heap[w.heap.size + 1]? = some (.cells mZ 41) := by
    rw [kW2.block _ (by have := bW.size; omega) (by show ¬ w.heap.size + 1 = WB; omega), bW.block _ (by omega), hW0]
    exact heap_alloc2_new w _ _
  have HRES : Hid (W2.heap[w.heap.size + 1]? = some (.cells mZ 41)) := hres
  have HD : Hid (W2.cell? ⟨w.heap.size, 0, none⟩ = some (.slice ia n ic) ∧ W2.cell? ⟨w.heap.size, 1, none⟩ = some (.int .i64 (s0 : Int)) ∧ W2.cell? ⟨w.heap.size, 2, none⟩ = some (.int .i64 gr) ∧ W2.cell? ⟨w.heap.size, 3, none⟩ = some (.slice na nn nc)) := ⟨d0', d1', d2', d3'⟩
  have HI : Hid (Nml w ia x n) := hI
  have HS : Hid (∀ j, j < n → SIn (x j) n gr) := hS
  have HB2 : Hid (Below w.heap.size w W2) := bI2
  have hni : (n : Int) ≤ 10000 := by omega
  have HWB : Hid (w.heap.size + 2 = WB) := hWBw
  have HR2 : Hid (Ri W2 w.heap.size WB n n (wvI x (s0 : Int) 0)) := RW1
  have hlt2 : WB < W2.heap.size := RW1.lt.2
  clear hres hW0 hI hS RW RW1 b0 HRW1 rm hz0 hWB hW2 hWBw bI2 c0 c1 c2 c3 bW b1 bI d1' d2' d3' kW2
  have d0s : (W1.setCell ⟨WB, s0, none⟩ (.int .i64 1)).cell? ⟨w.heap.size, 0, none⟩ = some (.slice ia n ic) := by rw [← HW2.out]; exact d0'
  go_enter Tryd.func11, Tryd.ntmps11
  go_wp2_with fail
  rw [← HW2.out]
  clear rm' d0 d1 e1 e2 HW2 HW0 d0s
  go_loopw [23] (fun t W => ∃ j : Nat, t = .int .i64 (j : Int) ∧ j ≤ n ∧ Hid (Ri W w.heap.size WB n n (wvI x (s0 : Int) j)) ∧ Hid (Kp (· = WB) W2 W)) (fun t _ => n - (RowKit.intOf t).toNat)
  case atStart => exact ⟨0, rfl, Nat.zero_le _, HR2, Kp.refl _ _⟩
  case round =>
    obtain ⟨j, rfl, hj, hR, hK⟩ := hrel
    have hBw : Below w.heap.size w wr := HB2.out.trans (hK.out.below (by have := HB2.out.size; omega) (fun i hi e => by have := HWB.out; omega))
    by_cases hlt : j < n
    · have hji : (j : Int) < (n : Int) := by omega
      obtain ⟨g, o, rfl, hg, i0, i1, i2, i3, i4, _, _⟩ := (HI.out.below hBw).at j hlt
      have hS := HS.out j hlt
      obtain ⟨op, hop⟩ : ∃ op, op = (x j).op := ⟨_, rfl⟩
      have HOP : Hid (op = (x j).op) := hop
      rw [← hop] at i0
      have hop1 := hS.op1
      rw [← hop] at hop1
      have kA : Kp (· = WB) wr (wr.alloc (.cells #[.int .i64 op, .int .i64 (x j).out, .int .i64 (x j).alt, .int .i64 (x j).arg, .slice (x j).ra (x j).rn (x j).rc] 25)) := (Kp.refl _ _).alloc _
      have RA := hR.out.kp (Kp.alloc (Kp.refl (fun _ => False) wr) (.cells #[.int .i64 op, .int .i64 (x j).out, .int .i64 (x j).alt, .int .i64 (x j).arg, .slice (x j).ra (x j).rn (x j).rc] 25)) id
      have hszw : WB < wr.heap.size := by have := hK.out.size; omega
      clear hop
      by_cases h11 : op = 1 ∨ op = 11
      · have HN : Hid (Ri (wr.alloc (.cells #[.int .i64 op, .int .i64 (x j).out, .int .i64 (x j).alt, .int .i64 (x j).arg, .slice (x j).ra (x j).rn (x j).rc] 25)) w.heap.size WB n n (wvI x (s0 : Int) (j + 1))) := RA.congr (fun i _ => by
          unfold wvI
          have e : wys x (j + 1) i = wys x j i := by
            show wys x j i + wy (x j) i = _
            unfold wy
            rw [if_pos (by rw [← HOP.out]; exact h11)]
            rfl
          rw [e])
        have HKN : Hid (Kp (· = WB) W2 (wr.alloc (.cells #[.int .i64 op, .int .i64 (x j).out, .int .i64 (x j).alt, .int .i64 (x j).arg, .slice (x j).ra (x j).rn (x j).rc] 25))) := hK.out.trans kA
        clear RA kA hR hK hS
        generalize (x j).out = OU at *
        generalize (x j).alt = AL at *
        generalize (x j).arg = AR at *
        generalize (x j).ra = RA0 at *
        generalize (x j).rn = RN at *
        generalize (x j).rc = RC at *
        rcases h11 with rfl | rfl
        · go_wp2
          exact ⟨⟨j + 1, by go_num, by omega, HN, HKN⟩, by simp [RowKit.intOf]; omega⟩
        · go_wp2
          exact ⟨⟨j + 1, by go_num, by omega, HN, HKN⟩, by simp [RowKit.intOf]; omega⟩
      · have ho := hS.out (by rw [← HOP.out]; omega) (by rw [← HOP.out]; omega)
        obtain ⟨O, hO⟩ : ∃ O : Nat, (x j).out = (O : Int) := ⟨(x j).out.toNat, by omega⟩
        have HO : Hid ((x j).out = (O : Int)) := hO
        rw [hO] at ho RA kA i1
        have hOn : O < n := by omega
        have hOi : (O : Int) < (n : Int) := by omega
        have hwy : ∀ i, (wvI x (s0 : Int) j i) ≤ 20001 ∧ 0 ≤ wvI x (s0 : Int) j i := fun i => by
          have := wys_bd x i j
          unfold wvI
          split <;> omega
        by_cases h3 : op = 3
        · subst h3
          have ha := hS.alt HOP.out.symm
          obtain ⟨A, hA⟩ : ∃ A : Nat, (x j).alt = (A : Int) := ⟨(x j).alt.toNat, by omega⟩
          have HA : Hid ((x j).alt = (A : Int)) := hA
          rw [hA] at ha RA kA i2
          have hAn : A < n := by omega
          have hAi : (A : Int) < (n : Int) := by omega
          obtain ⟨a1, a2⟩ := hR.out.cell A hAn
          have R1 := hR.out.put A hAn (wvI x (s0 : Int) j A + 1)
          obtain ⟨b1, b2⟩ := R1.cell O hOn
          have R2 := R1.put O hOn (upd (wvI x (s0 : Int) j) A (wvI x (s0 : Int) j A + 1) O + 1)
          have R3 := (R2.congr (fun i _ => wv_split x (s0 : Int) j A O HOP.out.symm HA.out HO.out i)).kp (Kp.alloc (Kp.refl (fun _ => False) _) (.cells #[.int .i64 3, .int .i64 (O : Int), .int .i64 (A : Int), .int .i64 (x j).arg, .slice (x j).ra (x j).rn (x j).rc] 25)) id
          have hvA := hwy A
          have hvO : upd (wvI x (s0 : Int) j) A (wvI x (s0 : Int) j A + 1) O ≤ 30000 ∧ 0 ≤ upd (wvI x (s0 : Int) j) A (wvI x (s0 : Int) j A + 1) O := by
            have := hwy O
            unfold upd
            split <;> omega
          have kN := ((hK.out.setCell (p := ⟨WB, A, none⟩) rfl (.int .i64 (wvI x (s0 : Int) j A + 1))).setCell (p := ⟨WB, O, none⟩) rfl (.int .i64 (upd (wvI x (s0 : Int) j) A (wvI x (s0 : Int) j A + 1) O + 1))).alloc (.cells #[.int .i64 3, .int .i64 (O : Int), .int .i64 (A : Int), .int .i64 (x j).arg, .slice (x j).ra (x j).rn (x j).rc] 25)
          have hne : ¬ wr.heap.size = WB := by omega
          have HN : Hid _ := R3
          have HKN : Hid _ := kN
          clear RA kA hR hK hS R1 R2 R3 kN hwy hA hO
          generalize upd (wvI x (s0 : Int) j) A (wvI x (s0 : Int) j A + 1) O = vO at *
          generalize wvI x (s0 : Int) j A = vA at *
          generalize (x j).arg = AR at *
          generalize (x j).ra = RA0 at *
          generalize (x j).rn = RN at *
          generalize (x j).rc = RC at *
          go_wp2
          exact ⟨⟨j + 1, by go_num, by omega, HN, HKN⟩, by simp [RowKit.intOf]; omega⟩
        · obtain ⟨b1, b2⟩ := hR.out.cell O hOn
          have R1 := hR.out.put O hOn (wvI x (s0 : Int) j O + 1)
          have R3 := (R1.congr (fun i _ => wv_out x (s0 : Int) j O (by rw [← HOP.out]; omega) (by rw [← HOP.out]; omega) (by rw [← HOP.out]; omega) HO.out i)).kp (Kp.alloc (Kp.refl (fun _ => False) _) (.cells #[.int .i64 op, .int .i64 (O : Int), .int .i64 (x j).alt, .int .i64 (x j).arg, .slice (x j).ra (x j).rn (x j).rc] 25)) id
          have hvO := hwy O
          have kN := (hK.out.setCell (p := ⟨WB, O, none⟩) rfl (.int .i64 (wvI x (s0 : Int) j O + 1))).alloc (.cells #[.int .i64 op, .int .i64 (O : Int), .int .i64 (x j).alt, .int .i64 (x j).arg, .slice (x j).ra (x j).rn (x j).rc] 25)
          have hne : ¬ wr.heap.size = WB := by omega
          have HN : Hid _ := R3
          have HKN : Hid _ := kN
          have q1 : (op == 1) = false := beq_eq_false_iff_ne.2 (by omega)
          have q2 : (op == 11) = false := beq_eq_false_iff_ne.2 (by omega)
          have q3 : (op == 3) = false := beq_eq_false_iff_ne.2 (by omega)
          have p1 : ¬ op = 1 := by omega
          have p2 : ¬ op = 11 := by omega
          clear RA kA hR hK hS R1 R3 kN hwy hO
          generalize wvI x (s0 : Int) j O = vO at *
          generalize (x j).alt = AL at *
          generalize (x j).arg = AR at *
          generalize (x j).ra = RA0 at *
          generalize (x j).rn = RN at *
          generalize (x j).rc = RC at *
          go_wp2
          exact ⟨⟨j + 1, by go_num, by omega, HN, HKN⟩, by simp [RowKit.intOf]; omega⟩
    · obtain rfl : j = n := by omega
      have hji : ¬ (j : Int) < (j : Int) := by omega
      obtain ⟨f0, f1, f2, f3⟩ := HD.out
      have nWB : ¬ w.heap.size = WB := by have := HWB.out; omega
      have g0 := hK.out.cell f0 nWB
      have g1 := hK.out.cell f1 nWB
      have g2 := hK.out.cell f2 nWB
      have g3 := hK.out.cell f3 nWB
      clear f0 f1 f2 f3
      have mk : ∀ W : World, ∃ w', (Instr.makeSlice 31 (.int .i64 (j : Int)) (.int .i64 (j : Int))).run Tryd.prog W = .ok (.slice (some ⟨W.heap.size, 0, none⟩) j j) w' ∧ Ri w' W.heap.size W.heap.size j j (fun _ => 0) ∧ Below W.heap.size W w' := fun W => make_i W W.heap.size j (Nat.le_refl _) (by omega)
      obtain ⟨V1, m1, r1, b1⟩ := mk wr.drew
      obtain ⟨V2, m2, r2, b2⟩ := mk (wr.alloc (.cells #[.slice none 0 0, .int .i64 0, .int .i64 0, .slice none 0 0, .slice none 0 0, .int .i64 0] 41)).drew
      rw [show (wr.alloc (.cells #[.slice none 0 0, .int .i64 0, .int .i64 0, .slice none 0 0, .slice none 0 0, .int .i64 0] 41)).drew.heap.size = wr.heap.size + 1 by simp] at m2 r2 b2
      rw [show wr.drew.heap.size = wr.heap.size from rfl] at m1 r1 b1
      have x10 := (b1.cell (p := ⟨w.heap.size, 0, none⟩) (World.block_lt_of_cell? wr _ g0)).trans (show wr.drew.cell? ⟨w.heap.size, 0, none⟩ = _ from g0)
      have x11 := (b1.cell (p := ⟨w.heap.size, 1, none⟩) (World.block_lt_of_cell? wr _ g1)).trans (show wr.drew.cell? ⟨w.heap.size, 1, none⟩ = _ from g1)
      have x12 := (b1.cell (p := ⟨w.heap.size, 2, none⟩) (World.block_lt_of_cell? wr _ g2)).trans (show wr.drew.cell? ⟨w.heap.size, 2, none⟩ = _ from g2)
      have x13 := (b1.cell (p := ⟨w.heap.size, 3, none⟩) (World.block_lt_of_cell? wr _ g3)).trans (show wr.drew.cell? ⟨w.heap.size, 3, none⟩ = _ from g3)
      have x20 := (b2.cell (p := ⟨w.heap.size, 0, none⟩) (Nat.lt_succ_of_lt (World.block_lt_of_cell? wr _ g0))).trans (show (wr.alloc (.cells #[.slice none 0 0, .int .i64 0, .int .i64 0, .slice none 0 0, .slice none 0 0, .int .i64 0] 41)).drew.cell? ⟨w.heap.size, 0, none⟩ = _ from cell_al _ g0)
      have x21 := (b2.cell (p := ⟨w.heap.size, 1, none⟩) (Nat.lt_succ_of_lt (World.block_lt_of_cell? wr _ g1))).trans (show (wr.alloc (.cells #[.slice none 0 0, .int .i64 0, .int .i64 0, .slice none 0 0, .slice none 0 0, .int .i64 0] 41)).drew.cell? ⟨w.heap.size, 1, none⟩ = _ from cell_al _ g1)
      have x22 := (b2.cell (p := ⟨w.heap.size, 2, none⟩) (Nat.lt_succ_of_lt (World.block_lt_of_cell? wr _ g2))).trans (show (wr.alloc (.cells #[.slice none 0 0, .int .i64 0, .int .i64 0, .slice none 0 0, .slice none 0 0, .int .i64 0] 41)).drew.cell? ⟨w.heap.size, 2, none⟩ = _ from cell_al _ g2)
      have x23 := (b2.cell (p := ⟨w.heap.size, 3, none⟩) (Nat.lt_succ_of_lt (World.block_lt_of_cell? wr _ g3))).trans (show (wr.alloc (.cells #[.slice none 0 0, .int .i64 0, .int .i64 0, .slice none 0 0, .slice none 0 0, .int .i64 0] 41)).drew.cell? ⟨w.heap.size, 3, none⟩ = _ from cell_al _ g3)
      have y1 := World.new_ne V1 _ x10
      have y2 := World.new_ne wr _ g0
      have hV2 : V2.heap[wr.heap.size]? = some (.cells mZ 41) := (b2.block _ (Nat.lt_succ_self _)).trans (heap_alloc_new wr _)
      obtain ⟨⟨p0, p1, p2, p3, p4, p5⟩, pf⟩ := six hV2
      have z0 := pf 0
      have z1 := pf 1
      have z2 := pf 2
      have z3 := pf 3
      have z4 := pf 4
      have z5 := pf 5
      have n1 := World.new_ne V1 _ x10
      have rwr := hR.out
      have hWr : WB < wr.heap.size := rwr.lt.2
      have hresr : wr.heap[w.heap.size + 1]? = some (.cells mZ 41) := (hK.out.block _ (by have := HB2.out.size; have := HWB.out; omega) (by show ¬ w.heap.size + 1 = WB; have := HWB.out; omega)).trans HRES.out
      -- the two orders, from plain facts
      have O1 : Hid (MS w (V1.alloc (.cells (mC ia j ic (s0 : Int) gr na nn nc wr.heap.size j 0) 41)) WB V1.heap.size wr.heap.size j (mC ia j ic (s0 : Int) gr na nn nc wr.heap.size j 0) (wvI x (s0 : Int) j) (fun _ => 0)) := by
        have k1 : Kp (fun _ => False) wr V1 := ((Kp.refl _ wr).drew).trans (Kp.of b1)
        have k2 := Kp.alloc (Kp.refl (fun _ => False) V1) (.cells (mC ia j ic (s0 : Int) gr na nn nc wr.heap.size j 0) 41)
        have hl := r1.lt.2
        refine ⟨heap_alloc_new _ _, ?_, (rwr.kp k1 id).kp k2 id, ?_, hBw.trans ((k1.trans k2).below (by have := hBw.size; omega) (fun _ _ => id)), by have := HWB.out; omega, hWr, by omega, by omega⟩
        · have := r1.kp k2 id
          exact ⟨this.1, this.2.imp id (fun ⟨g', c', cu, e1, e2, e3⟩ => ⟨g', c', cu, e1, by have := hBw.size; omega, e3⟩)⟩
        · rw [k2.block _ (by have := HWB.out; have := k1.size; omega) id, k1.block _ (by have := HWB.out; omega) id]
          exact hresr
      have O2 : Hid (MS w ((((((V2.setCell ⟨wr.heap.size, 0, none⟩ (.slice ia j ic)).setCell ⟨wr.heap.size, 1, none⟩ (.int .i64 (s0 : Int))).setCell ⟨wr.heap.size, 2, none⟩ (.int .i64 gr)).setCell ⟨wr.heap.size, 3, none⟩ (.slice na nn nc)).setCell ⟨wr.heap.size, 4, none⟩ (.slice (some ⟨wr.heap.size + 1, 0, none⟩) j j)).setCell ⟨wr.heap.size, 5, none⟩ (.int .i64 0)) WB wr.heap.size (wr.heap.size + 1) j (mC ia j ic (s0 : Int) gr na nn nc (wr.heap.size + 1) j 0) (wvI x (s0 : Int) j) (fun _ => 0)) := by
        have k1 : Kp (fun _ => False) wr V2 := ((Kp.alloc (Kp.refl _ wr) _).drew).trans (Kp.of (by rw [show (wr.alloc (.cells mZ 41)).drew.heap.size = wr.heap.size + 1 by simp]; exact b2))
        have k2 := six_kp (M := (· = wr.heap.size)) V2 wr.heap.size (.slice ia j ic) (.int .i64 (s0 : Int)) (.int .i64 gr) (.slice na nn nc) (.slice (some ⟨wr.heap.size + 1, 0, none⟩) j j) (.int .i64 0) rfl
        have hw1 := hBw.size
        refine ⟨set6 _ _ _ _ _ _ hV2, ?_, (rwr.kp k1 id).kp k2 (by omega), ?_, hBw.trans ((k1.below (by omega) (fun _ _ => id)).trans (k2.below (by have := k1.size; omega) (fun i hi e => by omega))), by have := HWB.out; omega, by omega, by omega, by omega⟩
        · have := r2.kp k2 (by omega)
          exact ⟨this.1, this.2.imp id (fun ⟨g', c', cu, e1, e2, e3⟩ => ⟨g', c', cu, e1, by omega, e3⟩)⟩
        · rw [k2.block _ (by have := k1.size; have := HWB.out; omega) (by have := HWB.out; omega), k1.block _ (by have := HWB.out; omega) id]
          exact hresr
      clear r1 r2 b1 b2 mk hR hV2 pf rwr hresr
      go_wp2_with fail
      go_cut [6] (fun s6 wx => ∃ m6 jb, s6 = .pointer (some ⟨m6, 0, none⟩) ∧ Hid (MS w wx WB m6 jb j (mC ia j ic (s0 : Int) gr na nn nc jb j 0) (wvI x (s0 : Int) j) (fun _ => 0)))
      case first =>
        go_region_held3 (fun w' => w'.cell? ⟨w.heap.size, 0, none⟩ = some (.slice ia j ic) ∧ w'.cell? ⟨w.heap.size, 1, none⟩ = some (.int .i64 (s0 : Int)) ∧ w'.cell? ⟨w.heap.size, 2, none⟩ = some (.int .i64 gr) ∧ w'.cell? ⟨w.heap.size, 3, none⟩ = some (.slice na nn nc)) (go_keep) (fail)
        · go_wp2
          go_meet
          exact ⟨_, _, rfl, O1⟩
        · go_wp2
          go_meet
          exact ⟨_, _, rfl, O2⟩
      case rest =>
        obtain ⟨m6, jb, rfl, hM⟩ := hcut
        clear O1 O2 m1 m2 x10 x11 x12 x13 x20 x21 x22 x23 y1 y2 n1 p0 p1 p2 p3 p4 p5 z0 z1 z2 z3 z4 z5 g0 g1 g2 g3 hK HD HR2 HRES
        go_wp2_with fail
        obtain ⟨J, hJ⟩ : ∃ J, J = jo x j (s0 : Int) := ⟨_, rfl⟩
        have HJ : Hid (∀ q, J q = decide (1 < wvI x (s0 : Int) j q)) := fun q => by
          rw [hJ]
          unfold jo ways wvI
          rw [decide_eq_decide]
          omega
        have hM0 : Hid (MS w wc WB m6 jb j (mC ia j ic (s0 : Int) gr na nn nc jb j (cj J 0)) (wvI x (s0 : Int) j) (fun i => if i < 0 then jtI J i else 0)) := hM.out.congr (fun i _ => by rw [if_neg (by omega)])
        have HJE : Hid (J = jo x j (s0 : Int)) := hJ
        have HF : Hid (∀ q, 0 ≤ wvI x (s0 : Int) j q ∧ wvI x (s0 : Int) j q ≤ 20001) := fun q => by
          have := wys_bd x q j
          unfold wvI
          split <;> omega
        clear hM hJ HI HS
        generalize wvI x (s0 : Int) j = F at *
        go_loopg [56] j (fun g t W => ∃ q : Nat, q + g = j ∧ t = .int .i64 (q : Int) ∧ Hid (MS w W WB m6 jb j (mC ia j ic (s0 : Int) gr na nn nc jb j (cj J q)) F (fun i => if i < q then jtI J i else 0)))
        case atStart => exact ⟨0, by omega, rfl, hM0⟩
        case round =>
          clear hM0
          obtain ⟨q, hqg, rfl, hM⟩ := hrel
          obtain ⟨⟨_, _, _, _, s4, s5⟩, sf⟩ := six hM.out.blk
          have sf5 := sf 5
          by_cases hlt : q < j
          · have hqi : (q : Int) < (j : Int) := by omega
            obtain ⟨a1, a2⟩ := hM.out.rj.cell q hlt
            rw [if_neg (by omega)] at a1
            obtain ⟨b1, _⟩ := hM.out.rw.cell q hlt
            have hne1 : ¬ jb = m6 := hM.out.ne
            have hne2 : ¬ m6 = jb := fun e => hM.out.ne e.symm
            have hcb := cj_bd J q
            have M1 := hM.out.putj q hlt (-1)
            have hvf := HF.out q
            have hjq := HJ.out q
            by_cases hv : 1 < F q
            · rw [decide_eq_true hv] at hjq
              have ec : cj J (q + 1) = cj J q + 1 := by
                show cj J q + (if J q = true then 1 else 0) = _
                rw [if_pos hjq]
              have M2 := (M1.putj q hlt (cj J q : Int)).putc 5 (.int .i64 ((cj J q : Int) + 1))
              have M3 : Hid (MS w (((wr.setCell ⟨jb, q, none⟩ (.int .i64 (-1))).setCell ⟨jb, q, none⟩ (.int .i64 (cj J q : Int))).setCell ⟨m6, 5, none⟩ (.int .i64 ((cj J q : Int) + 1))) WB m6 jb j (mC ia j ic (s0 : Int) gr na nn nc jb j (cj J (q + 1))) F (fun i => if i < q + 1 then jtI J i else 0)) := by
                rw [ec]
                refine MS.congr M2 (fun i _ => ?_)
                unfold upd
                by_cases e : i = q
                · rw [if_pos e, if_pos (by omega), e]
                  unfold jtI
                  rw [if_pos hjq]
                · rw [if_neg e, if_neg e]
                  show (if i < q then jtI J i else 0) = _
                  by_cases e2 : i < q
                  · rw [if_pos e2, if_pos (by omega)]
                  · rw [if_neg e2, if_neg (by omega)]
              clear M1 M2 hM hjq ec sf
              generalize cj J q = C at *
              go_wp2
              go_roundg (j - (q + 1))
              case measure => omega
              case rel => exact ⟨q + 1, by omega, by go_num, M3⟩
            · rw [decide_eq_false hv] at hjq
              have ec : cj J (q + 1) = cj J q := by
                show cj J q + (if J q = true then 1 else 0) = _
                rw [if_neg (by rw [hjq]; decide)]
                rfl
              have M3 : Hid (MS w (wr.setCell ⟨jb, q, none⟩ (.int .i64 (-1))) WB m6 jb j (mC ia j ic (s0 : Int) gr na nn nc jb j (cj J (q + 1))) F (fun i => if i < q + 1 then jtI J i else 0)) := by
                rw [ec]
                refine MS.congr M1 (fun i _ => ?_)
                unfold upd
                by_cases e : i = q
                · rw [if_pos e, if_pos (by omega), e]
                  unfold jtI
                  rw [if_neg (by rw [hjq]; decide)]
                · rw [if_neg e]
                  show (if i < q then jtI J i else 0) = _
                  by_cases e2 : i < q
                  · rw [if_pos e2, if_pos (by omega)]
                  · rw [if_neg e2, if_neg (by omega)]
              clear M1 hM hjq ec sf
              generalize cj J q = C at *
              go_wp2
              go_roundg (j - (q + 1))
              case measure => omega
              case rel => exact ⟨q + 1, by omega, by go_num, M3⟩
          · obtain rfl : q = j := by omega
            obtain ⟨⟨s0', s1', s2', s3', _, _⟩, _⟩ := six hM.out.blk
            obtain ⟨⟨t0, t1, t2, t3, t4, t5⟩, tf⟩ := six hM.out.res
            have tf0 := tf 0
            have tf1 := tf 1
            have tf2 := tf 2
            have tf3 := tf 3
            have tf4 := tf 4
            have tf5 := tf 5
            have hqi : ¬ (q : Int) < (q : Int) := by omega
            have k6 := six_kp (M := (· = w.heap.size + 1)) wr (w.heap.size + 1) (.slice ia q ic) (.int .i64 (s0 : Int)) (.int .i64 gr) (.slice na nn nc) (.slice (some ⟨jb, 0, none⟩) q q) (.int .i64 (cj J q : Int)) rfl
            have B6 := set6 (.slice ia q ic) (.int .i64 (s0 : Int)) (.int .i64 gr) (.slice na nn nc) (.slice (some ⟨jb, 0, none⟩) q q) (.int .i64 (cj J q : Int)) hM.out.res
            have l0 := hM.out.l0
            have l1 := hM.out.l1
            have R6 := (hM.out.rj.kp k6 (by omega)).congr (F' := jtI J) (fun i hi => by rw [if_pos hi])
            have L6 := hM.out.bel.trans (k6.below (by have := hM.out.bel.size; omega) (fun i hi e => by omega))
            rw [HJE.out] at B6 R6 L6
            have HB6 : Hid _ := B6
            have HR6 : Hid _ := R6
            have HL6 : Hid _ := L6
            clear k6 B6 R6 L6 hM
            go_wp2
            rw [HJE.out]
            exact bodyPost_ret (results_cell_row rfl _ _ (w.heap.size + 1) 41 (mC ia q ic (s0 : Int) gr na nn nc jb q (cj (jo x q (s0 : Int)) q)) (0, 0) _ rfl HB6.out Tryd.underlying41 rfl inf41) rfl ⟨jb, q, rfl, HR6.out, HL6.out⟩
end Go.Proofs.YtnpgkiidpeaapaaDoor
