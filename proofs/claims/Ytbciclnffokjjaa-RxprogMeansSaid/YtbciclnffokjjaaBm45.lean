/- A bundle of texts. -/
import Derived.Test.YtbciclnffokjjaaBm44
import Derived.StillTailTactics
import Derived.BigQuiet
/- A region that draws its order, reads and then writes once: operation by operation. -/
namespace Go.Proofs.Ytbciclnffokjjaa
open Go.RowKit Go.Lib

theorem quiet_still {P : Program} {ops : Array Oper} {W : World} {Q : Act → Prop} : ∀ (l : List Oper) (a : Act), wpQuiet P ops (fun w' => w' = W) Q l a → wpStill P ops W Q l a
  | [], _, h => h
  | o :: rest, a, h => by
    unfold wpQuiet at h
    unfold wpStill
    split
    · rename_i hw
      rw [if_pos hw] at h
      obtain ⟨v, h1, h2⟩ := h
      have h3 := h1 W rfl
      have h4 := quiet_still rest _ h2
      unfold Oper.quietAt at h3
      unfold Oper.still
      generalize (execOp a.eval o).run P W = r at *
      cases r with
      | ok n w' =>
        cases n with
        | value u => obtain ⟨rfl, rfl⟩ := h3; exact ⟨rfl, h4⟩
        | skip => obtain ⟨rfl, rfl⟩ := h3; exact ⟨rfl, h4⟩
        | enter f args => obtain ⟨rfl, h5⟩ := h3; exact ⟨rfl, v, h5, h4⟩
        | _ => exact (show False from h3).elim
      | halt x w' => exact (show False from h3).elim
    · rename_i hw
      rw [if_neg hw] at h
      exact quiet_still rest _ h
theorem region_tail {P : Program} {id : Nat} {Q : Exit → Act → World → Prop} {a : Act} {w : World} {l : List Oper} (n : Nat) (hm : P.follows .mixedOrders = true) (hB : Region.lexTailB .any l.toArray n = true)
    (h : wpQuiet P l.toArray (fun w' => w' = w.drew) (fun a' => wpList P l.toArray Q (l.drop n) a' w.drew) (l.take n) a) : (Code.region id l.toArray true).wp P Q a w := wp_region_still_tail n hm hB (quiet_still _ _ h)
end Go.Proofs.Ytbciclnffokjjaa
/- The reference's matching: reckon at runes and sets. -/
namespace Go.Proofs.Ytbciclnffokjjaa
open Go.RowKit Go.Lib

set_option maxHeartbeats 4000000 in
set_option maxRecDepth 100000 in
theorem reckon_3 (X : Shd) (k : Nat) (hk : k < X.N) (hN : X.N ≤ 1000000) (hn : X.n ≤ 100000) (hkind : (X.D k).kind = 3) (hrn : (X.D k).rn ≤ 1152921504606846976) (hF : ∀ i j, i < X.n + 1 → j < X.n + 1 → X.F k i j = (decide (i < X.n ∧ j = i + 1) && (inB (X.r i) (X.D k).rf (X.D k).rn))) : RkC X k := by
  intro i w Z hi h hZ
  obtain ⟨cs, c9, _⟩ := h.nd k hk
  obtain ⟨W, hW⟩ : ∃ W, W = (w.alloc (ndX (X.D k))).drew := ⟨_, rfl⟩
  have HW : Hid (W = (w.alloc (ndX (X.D k))).drew) := hW
  have hb0 : Below w.heap.size w W := by rw [hW]; exact ((Below.refl _ w).alloc (Nat.le_refl _) _).drew
  have hz : w.heap.size < W.heap.size := by rw [hW]; show w.heap.size < (w.alloc (ndX (X.D k))).heap.size; simp
  have hx : Cs W w.heap.size 0 (X.D k) := by rw [hW]; exact ndX_cells (w := w) (X.D k) (Below.refl _ _).drew
  obtain ⟨W2, r2, o2, b2⟩ := make_b W w.heap.size (X.n + 1) (Nat.le_of_lt hz) (by omega)
  push_cast at r2
  have HI : Hid (RkI X w Z (X.D k) W.heap.size (fun _ => false) W2) := RkI.start h hb0 hx hz o2 b2
  have hW1 := (h.zkp (Z' := Z) (Kp.of hb0) (fun _ _ e => e)).h1
  obtain ⟨g, hg⟩ : ∃ g, g = W.heap.size := ⟨_, rfl⟩
  rw [← hg] at r2 HI
  obtain ⟨p0, p1, p2, p3, p4, p5, p6, p7, p8⟩ := cs
  have c0 := h.h0
  obtain ⟨x0, x1, x2, x3, x4, x5, x6, x7, x8⟩ := HI.out.bx
  simp only [Nat.zero_add] at x0 x1 x2 x3 x4 x5 x6 x7 x8
  have hkI : (k : Int) < X.N := by omega
  have hNI : (X.N : Int) ≤ 1000000 := by omega
  have hiI : (i : Int) < (X.n : Int) + 1 := by omega
  have hnI : (X.n : Int) ≤ 100000 := by omega
  have HE0 : Hid (¬ i < X.n → _) := fun e => HI.out.fin (k := k) (i := i) (fun j hj => by rw [hF i j hi hj, decide_eq_false (fun h => e h.1)]; rfl)
  have HEP : Hid (i < X.n → ∀ w', RkI X w Z (X.D k) g (up (fun _ => false) (i + 1) (inB (X.r i) (X.D k).rf (X.D k).rn)) w' → _) := fun hlt w' hh => hh.fin (k := k) (i := i) (fun j hj => by
    rw [hF i j hi hj]
    by_cases e : j = i + 1
    · subst e; rw [up_same, decide_eq_true (show i < X.n ∧ i + 1 = i + 1 from ⟨hlt, rfl⟩), Bool.true_and]
    · rw [up_other _ _ _ _ e, decide_eq_false (fun h => e h.2)]; rfl)
  have v1 := HI.out.sh.h1
  have hgH : g ≠ X.H := fun e => HI.out.sh.hb.1 (.inr e.symm)
  have hgB : g ≠ w.heap.size := by have := HI.out.gl; omega
  have HRI : Hid (∀ w', Below W2.heap.size W2 w' → Calls Try.prog 75 #[.int .i32 (X.r i), .slice (X.D k).ra (X.D k).rn (X.D k).rc] w' fun e w3 => e = .returned (.bool (inB (X.r i) (X.D k).rf (X.D k).rn)) ∧ w3 = w') := fun w' b => rIn_any (X.r i) (X.D k).ra (X.D k).rn (X.D k).rc (X.D k).rf w' ((show Rml W2 (X.D k).ra (X.D k).rf (X.D k).rn from (HI.out.sh.rg k hk).imp id (fun ⟨g, o, e, hg, hc⟩ => ⟨g, o, e, hg.2.2, hc⟩)).below b) hrn
  clear hrn
  rw [hkind] at x0
  clear hkind hF
  clear h hZ hW hb0 hz hx o2 b2 hg
  generalize X.D k = d at *
  go_enter Try.func57, Try.ntmps57
  go_wp2_with fail
  go_region_held3 (fun w' => w'.cell? ⟨X.H, 0, none⟩ = some (.slice (some ⟨X.gn, 0, none⟩) X.N X.cN) ∧ w'.cell? ⟨X.gn, k * 11, none⟩ = some (.int .i64 d.kind) ∧ w'.cell? ⟨X.gn, k * 11 + 1, none⟩ = some (.int .i32 d.r) ∧ w'.cell? ⟨X.gn, k * 11 + 2, none⟩ = some (.slice d.ra d.rn d.rc) ∧ w'.cell? ⟨X.gn, k * 11 + 3, none⟩ = some (.int .i64 d.mn) ∧ w'.cell? ⟨X.gn, k * 11 + 4, none⟩ = some (.int .i64 d.mx) ∧ w'.cell? ⟨X.gn, k * 11 + 5, none⟩ = some (.bool d.lz) ∧ w'.cell? ⟨X.gn, k * 11 + 6, none⟩ = some (.int .i64 d.cp) ∧ w'.cell? ⟨X.gn, k * 11 + 7, none⟩ = some (.string d.nm) ∧ w'.cell? ⟨X.gn, k * 11 + 8, none⟩ = some (.slice d.ka d.kn d.kc) ∧ w'.cell? ⟨X.gn, k * 11 + 9, none⟩ = some (.slice (X.ka k) d.kn (X.kc k))) (first | exact ⟨c0, p0, p1, p2, p3, p4, p5, p6, p7, p8, c9⟩ | go_keep) (fail)
  rw [show (w.alloc (.cells #[.int .i64 d.kind, .int .i32 d.r, .slice d.ra d.rn d.rc, .int .i64 d.mn, .int .i64 d.mx, .bool d.lz, .int .i64 d.cp, .string d.nm, .slice d.ka d.kn d.kc] 33)).drew = W from HW.out.symm]
  clear p0 p1 p2 p3 p4 p5 p6 p7 p8 c0 c9
  by_cases hlt : i < X.n
  · have hli : (i : Int) < X.n := by omega
    obtain ⟨I, hI⟩ : ∃ I, i + 1 = I := ⟨_, rfl⟩
    have hI2 : (i : Int) + 1 = (I : Int) := by omega
    have hl1 : (I : Int) < (X.n : Int) + 1 := by omega
    have hl0 : 0 ≤ (I : Int) := by omega
    have hl9 : ¬ (I : Int) < 0 := by omega
    have hwr : IntKind.i64.wrap ((i : Int) + 1) = (I : Int) := by rw [IntKind.wrap_i64]; omega
    obtain ⟨y1, y2⟩ := HI.out.cell (i + 1) (by omega)
    have HE : Hid _ := HEP.out hlt _ (HI.out.put (i + 1) (inB (X.r i) d.rf d.rn))
    have HE2 : Hid _ := HEP.out hlt _ (HI.out.put (i + 1) (inB (X.r i) d.rf d.rn)).drew
    rw [hI] at y1 y2 HE HE2
    obtain ⟨gS, oS, eS, hgS, hcS⟩ : ∃ gS oS, X.sa = some ⟨gS, oS, none⟩ ∧ g ≠ gS ∧ W2.cell? ⟨gS, oS + i, none⟩ = some (.int .i32 (X.r i)) := by
      rcases HI.out.sh.rr with h0 | ⟨gS, oS, e1, e2, e3⟩
      · omega
      · exact ⟨gS, oS, e1, fun e => e2.1 (.inr e.symm), e3 i hlt⟩
    rw [eS] at v1
    generalize X.r i = ri at *
    clear HI HE0 HEP
    have hS3 : ∀ v, (W2.setCell ⟨g, I, none⟩ v).cell? ⟨w.heap.size, 0, none⟩ = some (.int .i64 3) ∧ (W2.setCell ⟨g, I, none⟩ v).cell? ⟨w.heap.size, 1, none⟩ = some (.int .i32 d.r) ∧ (W2.setCell ⟨g, I, none⟩ v).cell? ⟨w.heap.size, 2, none⟩ = some (.slice d.ra d.rn d.rc) ∧ (W2.setCell ⟨g, I, none⟩ v).cell? ⟨X.H, 1, none⟩ = some (.slice (some ⟨gS, oS, none⟩) X.n X.sc) ∧ (W2.setCell ⟨g, I, none⟩ v).cell? ⟨gS, oS + i, none⟩ = some (.int .i32 ri) := fun v => ⟨by rw [World.cell?_setCell_other _ _ _ _ (fun e => hgB (by injection e))]; exact x0, by rw [World.cell?_setCell_other _ _ _ _ (fun e => hgB (by injection e))]; exact x1, by rw [World.cell?_setCell_other _ _ _ _ (fun e => hgB (by injection e))]; exact x2, by rw [World.cell?_setCell_other _ _ _ _ (fun e => hgH (by injection e))]; exact v1, by rw [World.cell?_setCell_other _ _ _ _ (fun e => hgS (by injection e))]; exact hcS⟩
    have hb0 : Below W2.heap.size W2 W2 := Below.refl _ _
    clear hI
    generalize inB ri d.rf d.rn = bb at *
    clear hS3
    have HDUM : True := trivial
    cases HDUM
    case intro =>
      go_wp2_with fail
      refine region_tail 36 (by kernel_rfl) (by kernel_rfl) ?_
      simp only [List.take_succ_cons, List.take_zero, List.drop_succ_cons, List.drop_zero]
      repeat (go_big_quiet_step (fail))
      go_big_quiet_want
      go_big_quiet_op
      apply Exists.intro
      refine ⟨?_, ?_⟩
      · exact HRI.out _ hb0.drew
      go_big_quiet_on
      repeat (go_big_quiet_step (fail))
      refine wpQuiet_nil ?_
      go_wp2
      go_ret
      first
        | exact ⟨⟨g, ⟨X.n + 1, rfl⟩, HE2.out.1⟩, HE2.out.2⟩
        | exact ⟨⟨g, X.n + 1, rfl, HE2.out.1⟩, HE2.out.2⟩
        | exact ⟨⟨g, ⟨X.n + 1, rfl⟩, HE.out.1⟩, HE.out.2⟩
        | exact ⟨⟨g, X.n + 1, rfl, HE.out.1⟩, HE.out.2⟩
  · have hli : ¬ (i : Int) < X.n := by omega
    have HE : Hid _ := HE0.out hlt
    clear HI HE0 HEP
    go_wp2
    go_ret
    first
      | exact ⟨⟨g, ⟨X.n + 1, rfl⟩, HE.out.1⟩, HE.out.2⟩
      | exact ⟨⟨g, X.n + 1, rfl, HE.out.1⟩, HE.out.2⟩
end Go.Proofs.Ytbciclnffokjjaa
/- The reference's matching: reckon at runes and sets. -/
namespace Go.Proofs.Ytbciclnffokjjaa
open Go.RowKit Go.Lib

set_option maxHeartbeats 4000000 in
set_option maxRecDepth 100000 in
theorem reckon_2 (X : Shd) (k : Nat) (hk : k < X.N) (hN : X.N ≤ 1000000) (hn : X.n ≤ 100000) (hkind : (X.D k).kind = 2) (hF : ∀ i j, i < X.n + 1 → j < X.n + 1 → X.F k i j = (decide (i < X.n ∧ j = i + 1) && (X.r i == (X.D k).r))) : RkC X k := by
  intro i w Z hi h hZ
  obtain ⟨cs, c9, _⟩ := h.nd k hk
  obtain ⟨W, hW⟩ : ∃ W, W = (w.alloc (ndX (X.D k))).drew := ⟨_, rfl⟩
  have HW : Hid (W = (w.alloc (ndX (X.D k))).drew) := hW
  have hb0 : Below w.heap.size w W := by rw [hW]; exact ((Below.refl _ w).alloc (Nat.le_refl _) _).drew
  have hz : w.heap.size < W.heap.size := by rw [hW]; show w.heap.size < (w.alloc (ndX (X.D k))).heap.size; simp
  have hx : Cs W w.heap.size 0 (X.D k) := by rw [hW]; exact ndX_cells (w := w) (X.D k) (Below.refl _ _).drew
  obtain ⟨W2, r2, o2, b2⟩ := make_b W w.heap.size (X.n + 1) (Nat.le_of_lt hz) (by omega)
  push_cast at r2
  have HI : Hid (RkI X w Z (X.D k) W.heap.size (fun _ => false) W2) := RkI.start h hb0 hx hz o2 b2
  have hW1 := (h.zkp (Z' := Z) (Kp.of hb0) (fun _ _ e => e)).h1
  obtain ⟨g, hg⟩ : ∃ g, g = W.heap.size := ⟨_, rfl⟩
  rw [← hg] at r2 HI
  obtain ⟨p0, p1, p2, p3, p4, p5, p6, p7, p8⟩ := cs
  have c0 := h.h0
  obtain ⟨x0, x1, x2, x3, x4, x5, x6, x7, x8⟩ := HI.out.bx
  simp only [Nat.zero_add] at x0 x1 x2 x3 x4 x5 x6 x7 x8
  have hkI : (k : Int) < X.N := by omega
  have hNI : (X.N : Int) ≤ 1000000 := by omega
  have hiI : (i : Int) < (X.n : Int) + 1 := by omega
  have hnI : (X.n : Int) ≤ 100000 := by omega
  have HE0 : Hid (¬ i < X.n → _) := fun e => HI.out.fin (k := k) (i := i) (fun j hj => by rw [hF i j hi hj, decide_eq_false (fun h => e h.1)]; rfl)
  have HEP : Hid (i < X.n → ∀ w', RkI X w Z (X.D k) g (up (fun _ => false) (i + 1) (X.r i == (X.D k).r)) w' → _) := fun hlt w' hh => hh.fin (k := k) (i := i) (fun j hj => by
    rw [hF i j hi hj]
    by_cases e : j = i + 1
    · subst e; rw [up_same, decide_eq_true (show i < X.n ∧ i + 1 = i + 1 from ⟨hlt, rfl⟩), Bool.true_and]
    · rw [up_other _ _ _ _ e, decide_eq_false (fun h => e h.2)]; rfl)
  have v1 := HI.out.sh.h1
  have hgH : g ≠ X.H := fun e => HI.out.sh.hb.1 (.inr e.symm)
  have hgB : g ≠ w.heap.size := by have := HI.out.gl; omega
  rw [hkind] at x0
  clear hkind hF
  clear h hZ hW hb0 hz hx o2 b2 hg
  generalize X.D k = d at *
  go_enter Try.func57, Try.ntmps57
  go_wp2_with fail
  go_region_held3 (fun w' => w'.cell? ⟨X.H, 0, none⟩ = some (.slice (some ⟨X.gn, 0, none⟩) X.N X.cN) ∧ w'.cell? ⟨X.gn, k * 11, none⟩ = some (.int .i64 d.kind) ∧ w'.cell? ⟨X.gn, k * 11 + 1, none⟩ = some (.int .i32 d.r) ∧ w'.cell? ⟨X.gn, k * 11 + 2, none⟩ = some (.slice d.ra d.rn d.rc) ∧ w'.cell? ⟨X.gn, k * 11 + 3, none⟩ = some (.int .i64 d.mn) ∧ w'.cell? ⟨X.gn, k * 11 + 4, none⟩ = some (.int .i64 d.mx) ∧ w'.cell? ⟨X.gn, k * 11 + 5, none⟩ = some (.bool d.lz) ∧ w'.cell? ⟨X.gn, k * 11 + 6, none⟩ = some (.int .i64 d.cp) ∧ w'.cell? ⟨X.gn, k * 11 + 7, none⟩ = some (.string d.nm) ∧ w'.cell? ⟨X.gn, k * 11 + 8, none⟩ = some (.slice d.ka d.kn d.kc) ∧ w'.cell? ⟨X.gn, k * 11 + 9, none⟩ = some (.slice (X.ka k) d.kn (X.kc k))) (first | exact ⟨c0, p0, p1, p2, p3, p4, p5, p6, p7, p8, c9⟩ | go_keep) (fail)
  rw [show (w.alloc (.cells #[.int .i64 d.kind, .int .i32 d.r, .slice d.ra d.rn d.rc, .int .i64 d.mn, .int .i64 d.mx, .bool d.lz, .int .i64 d.cp, .string d.nm, .slice d.ka d.kn d.kc] 33)).drew = W from HW.out.symm]
  clear p0 p1 p2 p3 p4 p5 p6 p7 p8 c0 c9
  by_cases hlt : i < X.n
  · have hli : (i : Int) < X.n := by omega
    obtain ⟨I, hI⟩ : ∃ I, i + 1 = I := ⟨_, rfl⟩
    have hI2 : (i : Int) + 1 = (I : Int) := by omega
    have hl1 : (I : Int) < (X.n : Int) + 1 := by omega
    have hl0 : 0 ≤ (I : Int) := by omega
    have hl9 : ¬ (I : Int) < 0 := by omega
    have hwr : IntKind.i64.wrap ((i : Int) + 1) = (I : Int) := by rw [IntKind.wrap_i64]; omega
    obtain ⟨y1, y2⟩ := HI.out.cell (i + 1) (by omega)
    have HE : Hid _ := HEP.out hlt _ (HI.out.put (i + 1) (X.r i == d.r))
    have HE2 : Hid _ := HEP.out hlt _ (HI.out.put (i + 1) (X.r i == d.r)).drew
    rw [hI] at y1 y2 HE HE2
    obtain ⟨gS, oS, eS, hgS, hcS⟩ : ∃ gS oS, X.sa = some ⟨gS, oS, none⟩ ∧ g ≠ gS ∧ W2.cell? ⟨gS, oS + i, none⟩ = some (.int .i32 (X.r i)) := by
      rcases HI.out.sh.rr with h0 | ⟨gS, oS, e1, e2, e3⟩
      · omega
      · exact ⟨gS, oS, e1, fun e => e2.1 (.inr e.symm), e3 i hlt⟩
    rw [eS] at v1
    generalize X.r i = ri at *
    clear HI HE0 HEP
    have hS3 : ∀ v, (W2.setCell ⟨g, I, none⟩ v).cell? ⟨w.heap.size, 0, none⟩ = some (.int .i64 2) ∧ (W2.setCell ⟨g, I, none⟩ v).cell? ⟨w.heap.size, 1, none⟩ = some (.int .i32 d.r) ∧ (W2.setCell ⟨g, I, none⟩ v).cell? ⟨w.heap.size, 2, none⟩ = some (.slice d.ra d.rn d.rc) ∧ (W2.setCell ⟨g, I, none⟩ v).cell? ⟨X.H, 1, none⟩ = some (.slice (some ⟨gS, oS, none⟩) X.n X.sc) ∧ (W2.setCell ⟨g, I, none⟩ v).cell? ⟨gS, oS + i, none⟩ = some (.int .i32 ri) := fun v => ⟨by rw [World.cell?_setCell_other _ _ _ _ (fun e => hgB (by injection e))]; exact x0, by rw [World.cell?_setCell_other _ _ _ _ (fun e => hgB (by injection e))]; exact x1, by rw [World.cell?_setCell_other _ _ _ _ (fun e => hgB (by injection e))]; exact x2, by rw [World.cell?_setCell_other _ _ _ _ (fun e => hgH (by injection e))]; exact v1, by rw [World.cell?_setCell_other _ _ _ _ (fun e => hgS (by injection e))]; exact hcS⟩
    have hb0 : Below W2.heap.size W2 W2 := Below.refl _ _
    clear hI
    generalize hbb : (ri == d.r) = bb at *
    clear hS3
    cases bb
    case true =>
      go_wp2_with fail
      refine region_tail 36 (by kernel_rfl) (by kernel_rfl) ?_
      simp only [List.take_succ_cons, List.take_zero, List.drop_succ_cons, List.drop_zero]
      repeat (go_big_quiet_step (fail))
      refine wpQuiet_nil ?_
      go_wp2
      go_ret
      first
        | exact ⟨⟨g, ⟨X.n + 1, rfl⟩, HE2.out.1⟩, HE2.out.2⟩
        | exact ⟨⟨g, X.n + 1, rfl, HE2.out.1⟩, HE2.out.2⟩
        | exact ⟨⟨g, ⟨X.n + 1, rfl⟩, HE.out.1⟩, HE.out.2⟩
        | exact ⟨⟨g, X.n + 1, rfl, HE.out.1⟩, HE.out.2⟩
    case false =>
      go_wp2_with fail
      refine region_tail 36 (by kernel_rfl) (by kernel_rfl) ?_
      simp only [List.take_succ_cons, List.take_zero, List.drop_succ_cons, List.drop_zero]
      repeat (go_big_quiet_step (fail))
      refine wpQuiet_nil ?_
      go_wp2
      go_ret
      first
        | exact ⟨⟨g, ⟨X.n + 1, rfl⟩, HE2.out.1⟩, HE2.out.2⟩
        | exact ⟨⟨g, X.n + 1, rfl, HE2.out.1⟩, HE2.out.2⟩
        | exact ⟨⟨g, ⟨X.n + 1, rfl⟩, HE.out.1⟩, HE.out.2⟩
        | exact ⟨⟨g, X.n + 1, rfl, HE.out.1⟩, HE.out.2⟩
  · have hli : ¬ (i : Int) < X.n := by omega
    have HE : Hid _ := HE0.out hlt
    clear HI HE0 HEP
    go_wp2
    go_ret
    first
      | exact ⟨⟨g, ⟨X.n + 1, rfl⟩, HE.out.1⟩, HE.out.2⟩
      | exact ⟨⟨g, X.n + 1, rfl, HE.out.1⟩, HE.out.2⟩
end Go.Proofs.Ytbciclnffokjjaa
/- The reference's from, at every node of a tree's sheet. -/
namespace Go.Proofs.Ytbciclnffokjjaa
open Go.RowKit Go.Lib

theorem fr_all {X : Shd} {s : ByteArray} {P : Nat → Nat} {FU : Nat → Nat} {TT : Nat → Tr} (h : ShM X s P FU TT) (hN : X.N ≤ 1000000) (hn : X.n ≤ 100000) : ∀ m k, k < X.N → FU k = m → FrC (ShT X) (MSd X) X.H (X.n + 1) k (X.F k)
  | 0, k, hk, hm => by
    have := h.wf k hk
    rw [hm] at this
    exact this.elim
  | m + 1, k, hk, hm => by
    have ih : ∀ q, q < (X.D k).kn → FrC (ShT X) (MSd X) X.H (X.n + 1) (X.kd k q) (X.F (X.kd k q)) := fun q hq => by
      obtain ⟨h1, _, h3⟩ := h.kd k q hk hq
      exact fr_all h hN hn m _ h1 (by omega)
    obtain ⟨hnd, hkn⟩ := h.nd hk hm
    have hkd := ndB_kind hnd
    have hF := fun i j hi hj => h.F' hk hm (i := i) (j := j) hi hj
    refine from_any X k hk hN hn ?_
    by_cases k1 : (X.D k).kind = 1
    · refine reckon_1 X k hk hN hn k1 (fun i j hi hj => ?_)
      have := hF i j hi hj
      rw [k1] at this
      rw [Bool.eq_iff_iff, this, decide_eq_true_eq]
      exact h.rn.inj (by omega) (by omega)
    by_cases k2 : (X.D k).kind = 2
    · refine reckon_2 X k hk hN hn k2 (fun i j hi hj => ?_)
      have := hF i j hi hj
      rw [if_pos k2, h.rn.tk _ (by omega)] at this
      rw [Bool.eq_iff_iff, this, Bool.and_eq_true, decide_eq_true_eq]
      constructor
      · rintro ⟨q1, q2, x, hx, q3, q4⟩
        rcases List.mem_singleton.1 hx with rfl
        refine ⟨⟨q1, ?_⟩, ?_⟩
        · exact ((h.rn.inj (i := i + 1) (j := j) (by omega) (by omega)).1 q2.symm)
        · have : X.r i = (X.D k).r := by dsimp only at q3 q4; omega
          simp [this]
      · rintro ⟨⟨q1, rfl⟩, q3⟩
        have : X.r i = (X.D k).r := by simpa using q3
        exact ⟨q1, rfl, _, List.mem_singleton.2 rfl, by rw [this]; exact Int.le_refl _, by rw [this]; exact Int.le_refl _⟩
    by_cases k3 : (X.D k).kind = 3
    · refine reckon_3 X k hk hN hn k3 (h.rnb k hk) (fun i j hi hj => ?_)
      have := hF i j hi hj
      rw [if_neg k2, if_pos k3, h.rn.tk _ (by omega), inR_rs] at this
      rw [Bool.eq_iff_iff, this, Bool.and_eq_true, decide_eq_true_eq]
      constructor
      · rintro ⟨q1, q2, q3⟩
        exact ⟨⟨q1, ((h.rn.inj (i := i + 1) (j := j) (by omega) (by omega)).1 q2.symm)⟩, q3⟩
      · rintro ⟨⟨q1, rfl⟩, q3⟩
        exact ⟨q1, rfl, q3⟩
    by_cases k4 : (X.D k).kind = 4
    · refine reckon_4 X k hk hN hn k4 (by omega) ih (fun i j hi hj => ?_)
      have := hF i j hi hj
      rw [if_neg k2, if_neg k3, if_pos k4] at this
      rw [Bool.eq_iff_iff, this, h.cat hk hm hi _ (Nat.le_refl _) j hj]
    by_cases k5 : (X.D k).kind = 5
    · refine reckon_5 X k hk hN hn k5 (by omega) ih (fun i j hi hj => ?_)
      have := hF i j hi hj
      rw [if_neg k2, if_neg k3, if_neg k4, if_pos k5] at this
      rw [Bool.eq_iff_iff, this]
      unfold altB
      rw [anB_iff]
      constructor
      · rintro ⟨q, hq, hh⟩; exact ⟨q, hq, (h.kF hk hm hq hi hj).2 hh⟩
      · rintro ⟨q, hq, hh⟩; exact ⟨q, hq, (h.kF hk hm hq hi hj).1 hh⟩
    by_cases k6 : (X.D k).kind = 6
    · obtain ⟨r1, r2, r3, r4⟩ := ndB_rep hnd k6
      refine reckon_6 X k hk hN hn k6 r1 ⟨r2, r3⟩ r4 (ih 0 (by omega)) (fun i j hi hj => ?_)
      have := hF i j hi hj
      rw [if_neg k2, if_neg k3, if_neg k4, if_neg k5, if_pos k6] at this
      rw [this]
      have ht := fun q => h.rn.times (K := Mn s m (kid (TT k) 0)) (F := X.F (X.kd k 0)) (fun i b hi hh => h.rn.mn m _ i b (h.kW hk hm (by omega)) hi hh) (fun i j hi hj => h.kF hk hm (by omega) hi hj) (i := i) (by omega) q j hj
      unfold TmP
      constructor
      · rintro ⟨q, q1, q2, q3⟩; exact ⟨q, by omega, q2, (ht q).2 q3⟩
      · rintro ⟨q, q1, q2, q3⟩; exact ⟨q, by omega, q2, (ht q).1 q3⟩
    by_cases k7 : (X.D k).kind = 7
    · have r1 := ndB_grp hnd k7
      refine reckon_7 X k hk hN hn k7 r1 (ih 0 (by omega)) (fun i j hi hj => ?_)
      have := hF i j hi hj
      rw [if_neg k2, if_neg k3, if_neg k4, if_neg k5, if_neg k6, if_pos k7] at this
      rw [Bool.eq_iff_iff, this, h.kF hk hm (by omega) hi hj]
    · refine reckon_pl X k hk hN hn (by omega) (fun i j hi hj => ?_)
      have := hF i j hi hj
      rw [if_neg k2, if_neg k3, if_neg k4, if_neg k5, if_neg k6, if_neg k7] at this
      rw [Bool.eq_iff_iff, this, Bool.and_eq_true, decide_eq_true_eq, h.rn.place (by omega) hkd.2 (by omega)]
      have hinj := h.rn.inj (i := j) (j := i) (by omega) (by omega)
      by_cases k13 : (X.D k).kind = 13
      · rw [if_pos k13, if_pos k13, hinj]
        constructor
        · rintro ⟨a, b⟩; exact ⟨b.symm, a⟩
        · rintro ⟨a, b⟩; exact ⟨b, a.symm⟩
      · rw [if_neg k13, if_pos (show 8 ≤ (X.D k).kind by omega), if_neg k13, hinj]
        constructor
        · rintro ⟨a, b⟩; exact ⟨b.symm, a⟩
        · rintro ⟨a, b⟩; exact ⟨b, a.symm⟩
end Go.Proofs.Ytbciclnffokjjaa
