/- ShaEquals: the walk of the law. -/
import Derived.Test.YtnoicgjjckgpmaaByD
import Derived.Deep.RegionHeld3
import Derived.Deep.CutRange
import Derived.Deep.DeepCutAuto
import Derived.Lib.QuietBelow
import Derived.BigQuiet
namespace Go.Proofs.Ytnoicgjjckgpmaa
open Go.RowKit Go.Sort

theorem im_new (w : World) (l : List Int) : Im (w.alloc (.cells (bc l).toArray 5)) (some ⟨w.heap.size, 0, none⟩) l :=
  .inr ⟨w.heap.size, 0, rfl, by simp, fun j hj => by
    rw [Nat.zero_add, cell_of_row _ _ j _ 5 (0, 0) (heap_alloc_new w _)]
    simp [bc, List.getD, hj]⟩
theorem by_one (x : Int) (h : 0 ≤ x ∧ x ≤ 255) : By [x] := fun j hj => by
  obtain rfl : j = 0 := by simpa using hj
  exact h

/-- Two lists of one byte that stand in the text. -/
theorem lits_eq (x y : Int) (hx : 0 ≤ x ∧ x ≤ 255) (hy : 0 ≤ y ∧ y ≤ 255) (w : World) :
    Calls Try.prog 4 #[.slice (some ⟨w.heap.size, 0, none⟩) 1 1, .slice (some ⟨w.heap.size + 1, 0, none⟩) 1 1] ((w.alloc (.cells #[.int .u8 x] 5)).alloc (.cells #[.int .u8 y] 5)) fun r w' => r = .returned (.bool (decide ([x] = [y]))) ∧ Below w.heap.size w w' := by
  have i1 := im_new w [x]
  have i2 := im_new (w.alloc (.cells #[.int .u8 x] 5)) [y]
  have hb : Below (w.alloc (.cells #[.int .u8 x] 5)).heap.size (w.alloc (.cells #[.int .u8 x] 5)) ((w.alloc (.cells #[.int .u8 x] 5)).alloc (.cells #[.int .u8 y] 5)) := (Below.refl _ _).alloc (Nat.le_refl _) _
  have hb0 : Below w.heap.size w ((w.alloc (.cells #[.int .u8 x] 5)).alloc (.cells #[.int .u8 y] 5)) := ((Below.refl w.heap.size w).alloc (Nat.le_refl _) _).alloc (by simp) _
  rw [show (w.alloc (.cells #[.int .u8 x] 5)).heap.size = w.heap.size + 1 by simp] at i2
  refine (equal_any _ _ 1 1 [x] [y] _ (Im.below i1 hb) i2 (by_one x hx) (by_one y hy) (by simp) (by simp)).mono ?_
  rintro e w' ⟨rfl, h⟩
  exact ⟨rfl, hb0.trans (h.mono hb0.size)⟩
theorem lit_hex (w : World) :
    Calls Try.prog 5 #[.slice (some ⟨w.heap.size, 0, none⟩) 2 2] (w.alloc (.cells #[.int .u8 0, .int .u8 171] 5)) fun r w' => r = .returned (.string ⟨#[48, 48, 97, 98]⟩) ∧ Below w.heap.size w w' := by
  have hb0 : Below w.heap.size w (w.alloc (.cells #[.int .u8 0, .int .u8 171] 5)) := (Below.refl w.heap.size w).alloc (Nat.le_refl _) _
  refine (hex_any _ 2 [0, 171] _ (im_new w [0, 171]) (fun j hj => ?_) (by simp)).mono ?_
  · match j, hj with
    | 0, _ => decide
    | 1, _ => decide
  · rintro e w' ⟨rfl, h⟩
    refine ⟨?_, hb0.trans (h.mono hb0.size)⟩
    have : hexS [0, 171] = ⟨#[48, 48, 97, 98]⟩ := by decide +kernel
    rw [this]

theorem requal_below (a b : Option Addr) (c d : Nat) (xs ys : List Int) (w : World) (hx : Im w a xs) (hy : Im w b ys) (bx : By xs) (by_ : By ys) :
    Calls Try.prog 8 #[.slice a xs.length c, .slice b ys.length d] w fun r w' => r = .returned (.bool (decide (xs = ys))) ∧ Below w.heap.size w w' :=
  (requal_any a b c d xs ys w hx hy bx by_).mono fun _ _ ⟨h, h'⟩ => ⟨h, h' ▸ Below.refl _ _⟩

/-- A pair that came in. -/
structure Pr where
  a : Option Addr
  c : Nat
  x : List Int
  b : Option Addr
  d : Nat
  y : List Int
/-- Pairs that came in. -/
def PrsIn (w : World) (a : Option Addr) (p : Nat → Pr) (len : Nat) : Prop := ∀ j, j < len → ∃ b off, a = some ⟨b, off, none⟩ ∧ b < w.heap.size ∧
  w.cell? ⟨b, off + j * 2, none⟩ = some (.slice (p j).a (p j).x.length (p j).c) ∧ w.cell? ⟨b, off + j * 2 + 1, none⟩ = some (.slice (p j).b (p j).y.length (p j).d) ∧
  Im w (p j).a (p j).x ∧ Im w (p j).b (p j).y ∧ By (p j).x ∧ By (p j).y ∧ (p j).x.length ≤ 1048576 ∧ (p j).y.length ≤ 1048576

theorem blA {W w : World} (h : Below W.heap.size W w) (o : Obj) : Below W.heap.size W (w.alloc o) := h.alloc h.size o
theorem blD {W w : World} (h : Below W.heap.size W w) : Below W.heap.size W w.drew := h.drew
theorem blS {W w : World} (h : Below W.heap.size W w) {p : Addr} (hp : W.heap.size ≤ p.block) (v : Value) : Below W.heap.size W (w.setCell p v) := h.setCell hp v
theorem blC {W w w' : World} (h : Below W.heap.size W w) (k : Below w.heap.size w w') : Below W.heap.size W w' := h.trans (k.mono h.size)
theorem cell_b {w w' : World} (k : Below w.heap.size w w') (p : Addr) (hp : p.block < w.heap.size) : w'.cell? p = w.cell? p := k.cell hp
theorem froz_b {w w' : World} (k : Below w.heap.size w w') (p : Addr) (hp : p.block < w.heap.size) : w'.frozen? p = w.frozen? p := by
  unfold World.frozen?
  rw [k.block p.block hp]
theorem oN (w : World) (o : Obj) (k : Nat) (hk : k = w.heap.size) : (w.alloc o).heap[k]? = some o := by subst hk; exact heap_alloc_new w o
theorem oO {w : World} {k : Nat} {x : Obj} (h : w.heap[k]? = some x) (o : Obj) : (w.alloc o).heap[k]? = some x :=
  (((Below.refl w.heap.size w).alloc (Nat.le_refl _) o).block k (Array.getElem?_eq_some_iff.1 h).1).trans h
theorem oB {w w' : World} {k : Nat} {x : Obj} (hb : Below w.heap.size w w') (h : w.heap[k]? = some x) : w'.heap[k]? = some x := (hb.block k (Array.getElem?_eq_some_iff.1 h).1).trans h
theorem oS {w : World} {B : Nat} {v u : Value} (h : w.heap[B]? = some (.cells #[.slice none 0 0, .int .i64 0] 29)) : ((w.setCell ⟨B, 0, none⟩ v).setCell ⟨B, 1, none⟩ u).heap[B]? = some (.cells #[v, u] 29) := by
  rw [heap_setCell_same _ B 1 _ 29 u (heap_setCell_same _ B 0 _ 29 v h)]
  rfl
theorem oE {w : World} {B k i : Nat} {x : Obj} {v : Value} (hk : k ≠ B) (h : w.heap[k]? = some x) : (w.setCell ⟨B, i, none⟩ v).heap[k]? = some x := (heap_setCell_other w ⟨B, i, none⟩ k v hk).trans h

/-- A loan's block when it is new. -/
abbrev Z29 : Obj := .cells #[.slice none 0 0, .int .i64 0] 29
theorem pd {w : World} {B : Nat} (h : Hid (w.heap[B]? = some Z29)) : w.cell? ⟨B, 0, none⟩ = some (.slice none 0 0) ∧ w.cell? ⟨B, 1, none⟩ = some (.int .i64 0) ∧ w.frozen? ⟨B, 0, none⟩ = false ∧ w.frozen? ⟨B, 1, none⟩ = false :=
  ⟨by rw [cell_of_row w _ 0 _ 29 (0, 0) h.out]; rfl, by rw [cell_of_row w _ 1 _ 29 (0, 0) h.out]; rfl, frozen_of_row w _ 0 _ 29 h.out, frozen_of_row w _ 1 _ 29 h.out⟩

theorem lO {w : World} {G : Nat} {xs : List Int} (h : Lies w G xs) (o : Obj) : Lies (w.alloc o) G xs := oO h o
theorem lB {w w' : World} {G : Nat} {xs : List Int} (hb : Below w.heap.size w w') (h : Lies w G xs) : Lies w' G xs := oB hb h
theorem lE {w : World} {B G i : Nat} {xs : List Int} {v : Value} (hk : G ≠ B) (h : Lies w G xs) : Lies (w.setCell ⟨B, i, none⟩ v) G xs := oE hk h
theorem size_drew (w : World) : w.drew.heap.size = w.heap.size := rfl
/-- What is known of a pair that came in. -/
structure PairK (W : World) (a : Option Addr) (ca : Nat) (xs : List Int) (a' : Option Addr) (cb : Nat) (ys : List Int) : Prop where
  ia : Im W a xs
  ib : Im W a' ys
  ba : By xs
  bb : By ys
  la : xs.length ≤ 1048576
  lb : ys.length ≤ 1048576
/-- Two lists lent. -/
def St (W : World) (n1 n2 : Nat) (X1 X2 : List Int) (wx : World) (B5 B6 G1 G2 : Nat) : Prop :=
  Below W.heap.size W wx ∧ wx.heap[B5]? = some (.cells #[.slice (some ⟨G1, 0, none⟩) (n1 + 200) (n1 + 200), .int .i64 n1] 29) ∧ wx.heap[B6]? = some (.cells #[.slice (some ⟨G2, 0, none⟩) (n2 + 200) (n2 + 200), .int .i64 n2] 29) ∧
    Lies wx G1 X1 ∧ Lies wx G2 X2 ∧ G1 ≠ G2 ∧ W.heap.size ≤ G1

set_option maxHeartbeats 16000000 in
set_option maxRecDepth 100000 in
theorem equals_walk (a0 : Option Addr) (n c : Nat) (p : Nat → Pr) (w : World) (hn : n ≤ 1048576) (h : PrsIn w a0 p n) :
    Calls Try.prog 3 #[.slice a0 n c] w fun e w' => e = .returned (.bool true) ∧ Below w.heap.size w w' := by
  have H0 : Hid (PrsIn w a0 p n) := h
  clear h
  have hni : (n : Int) ≤ 1048576 := by omega
  have k1 := lits_eq 1 1 (by decide) (by decide) w
  rw [show decide ([(1 : Int)] = [1]) = true from rfl] at k1
  have k2 := fun w => lits_eq 1 2 (by decide) (by decide) w
  rw [show decide ([(1 : Int)] = [2]) = false from rfl] at k2
  go_enter Try.func3, Try.ntmps3
  go_wp2_with fail
  go_fit k1
  clear k1
  rintro e w1 ⟨rfl, b1⟩
  go_wp2_with fail
  go_fit (k2 w1)
  clear k2
  rintro e w2 ⟨rfl, b2⟩
  go_wp2_with fail
  go_fit (lit_hex w2)
  rintro e w3 ⟨rfl, b3⟩
  have B3 : Below w.heap.size w w3 := (b1.trans (b2.mono b1.size)).trans (b3.mono (b1.trans (b2.mono b1.size)).size)
  clear b1 b2 b3
  go_wp2_with fail
  go_loopw [25] (fun t W => ∃ j : Nat, t = .int .i64 (j : Int) ∧ j ≤ n ∧ Below w.heap.size w W) (fun t _ => n - (RowKit.intOf t).toNat)
  case atStart => exact ⟨0, rfl, by omega, B3⟩
  case round =>
    obtain ⟨j, rfl, hj, hbw⟩ := hrel
    clear B3
    by_cases hlt : j < n
    · obtain ⟨b, off, rfl, hb, cA, cB, iA, iB, bA, bB, lA, lB_⟩ := H0.out j hlt
      have d0 := (hbw.cell (p := ⟨b, off + j * 2, none⟩) hb).trans cA
      have d1 := (hbw.cell (p := ⟨b, off + j * 2 + 1, none⟩) hb).trans cB
      have iA' := iA.below hbw
      have iB' := iB.below hbw
      have hji : (j : Int) < n := by omega
      clear cA cB iA iB
      generalize p j = q at *
      obtain ⟨a, ca, xs, a', cb, ys⟩ := q
      simp only at d0 d1 iA' iB' bA bB lA lB_
      go_upto_region 6 with fail
      have hB1 : Below wr.heap.size wr (wr.alloc (.cells #[.slice a xs.length ca, .slice a' ys.length cb] 27)) := (Below.refl _ _).alloc (Nat.le_refl _) _
      have hP : (wr.alloc (.cells #[.slice a xs.length ca, .slice a' ys.length cb] 27)).heap[wr.heap.size]? = some (.cells #[.slice a xs.length ca, .slice a' ys.length cb] 27) := heap_alloc_new wr _
      have iA := iA'.below hB1
      have iB := iB'.below hB1
      clear iA' iB' d0 d1
      generalize wr.alloc (.cells #[.slice a xs.length ca, .slice a' ys.length cb] 27) = W at *
      have HC : Hid (∀ w', Below W.heap.size W w' → w'.cell? ⟨wr.heap.size, 0, none⟩ = some (.slice a xs.length ca) ∧ w'.cell? ⟨wr.heap.size, 1, none⟩ = some (.slice a' ys.length cb) ∧ Below W.heap.size W w') := fun w' hb => by
        have e := (hb.block wr.heap.size (Array.getElem?_eq_some_iff.1 hP).1).trans hP
        exact ⟨by rw [cell_of_row w' _ 0 _ 27 (0, 0) e]; rfl, by rw [cell_of_row w' _ 1 _ 27 (0, 0) e]; rfl, hb⟩
      have kA : ∀ w', Below W.heap.size W w' → _ := fun w' hb => lend_any a ca xs w' (iA.below hb) (by omega)
      have kB : ∀ w', Below W.heap.size W w' → _ := fun w' hb => lend_any a' cb ys w' (iB.below hb) (by omega)
      have HK : Hid (PairK W a ca xs a' cb ys) := ⟨iA, iB, bA, bB, lA, lB_⟩
      obtain ⟨X1, hX1⟩ : ∃ X1, X1 = xs ++ List.replicate 200 (90 : Int) := ⟨_, rfl⟩
      obtain ⟨X2, hX2⟩ : ∃ X2, X2 = ys ++ List.replicate 200 (90 : Int) := ⟨_, rfl⟩
      rw [← hX1] at kA
      rw [← hX2] at kB
      have HX : Hid (X1 = xs ++ List.replicate 200 (90 : Int) ∧ X2 = ys ++ List.replicate 200 (90 : Int)) := ⟨hX1, hX2⟩
      obtain ⟨n1, hn1⟩ : ∃ n1, n1 = xs.length := ⟨_, rfl⟩
      obtain ⟨n2, hn2⟩ : ∃ n2, n2 = ys.length := ⟨_, rfl⟩
      have HN : Hid (n1 = xs.length ∧ n2 = ys.length) := ⟨hn1, hn2⟩
      rw [← hn1] at kA hP HC lA
      rw [← hn2] at kB hP HC lB_
      rw [← hn1, ← hn2]
      have ln1 : (n1 : Int) ≤ 1048576 := by omega
      have ln2 : (n2 : Int) ≤ 1048576 := by omega
      clear hX1 hX2 hn1 hn2 iA iB bA bB
      go_cut [5, 6, 25] from 25 to 85 (fun s5 s6 s25 wx => ∃ B5 B6 G1 G2 : Nat, s5 = .pointer (some ⟨B5, 0, none⟩) ∧ s6 = .pointer (some ⟨B6, 0, none⟩) ∧ s25 = .int .i64 (j : Int) ∧ St W n1 n2 X1 X2 wx B5 B6 G1 G2)
      case first =>
        go_region_held3 (fun w' => w'.cell? ⟨wr.heap.size, 0, none⟩ = some (.slice a n1 ca) ∧ w'.cell? ⟨wr.heap.size, 1, none⟩ = some (.slice a' n2 cb) ∧ Below W.heap.size W w') (first | exact HC.out _ (by (repeat (first | assumption | exact Below.refl _ _ | refine blD ?_ | refine blA ?_ _ | refine blS ?_ (by dsimp only; omega) _)))) (first | (go_at_call 6; go_fit (kA _ (by (repeat (first | assumption | exact Below.refl _ _ | refine blD ?_ | refine blA ?_ _ | refine blS ?_ (by dsimp only; omega) _)))); rintro e w5 ⟨G1, rfl, hG1, hL1, hb5⟩; have q5 : Below W.heap.size W w5 := blC (by (repeat (first | assumption | exact Below.refl _ _ | refine blD ?_ | refine blA ?_ _ | refine blS ?_ (by dsimp only; omega) _))) hb5; (try (have e1 : Hid (w5.heap[W.heap.size]? = some Z29) := oB hb5 (oO (oN W.drew Z29 W.heap.size rfl) Z29))); (try (have e2 : Hid (w5.heap[W.heap.size + 1]? = some Z29) := oB hb5 (oN (W.drew.alloc Z29) Z29 (W.heap.size + 1) (by simp)))); (try (have e1 : Hid (w5.heap[W.heap.size]? = some Z29) := oB hb5 (oN W.drew Z29 W.heap.size rfl))); (try (have pz1 := (Array.getElem?_eq_some_iff.1 e1.out).1; have pp := pd e1; obtain ⟨p10, p11, p12, p13⟩ := pp)); (try (have pz2 := (Array.getElem?_eq_some_iff.1 e2.out).1; have pp := pd e2; obtain ⟨p20, p21, p22, p23⟩ := pp)); have s5 := q5.size) | (go_at_call 6; go_fit (kB _ (by (repeat (first | assumption | exact Below.refl _ _ | refine blD ?_ | refine blA ?_ _ | refine blS ?_ (by dsimp only; omega) _)))); rintro e w6 ⟨G2, rfl, hG2, hL2, hb6⟩; have q6 : Below W.heap.size W w6 := blC (by (repeat (first | assumption | exact Below.refl _ _ | refine blD ?_ | refine blA ?_ _ | refine blS ?_ (by dsimp only; omega) _))) hb6; (try (have f1 : Hid (w6.heap[W.heap.size]? = some Z29) := oB hb6 e1.out)); (try (have f2 : Hid (w6.heap[W.heap.size + 1]? = some Z29) := oB hb6 e2.out)); (try (have f1 : Hid (w6.heap[W.heap.size]? = some Z29) := oB hb6 (oO e1.out Z29))); (try (have f3 : Hid (w6.heap[w5.heap.size]? = some Z29) := oB hb6 (oN w5 Z29 w5.heap.size rfl))); (try (have f3 : Hid (w6.heap[w5.heap.size]? = some Z29) := oB hb6 (oO (oN w5 Z29 w5.heap.size rfl) Z29))); (try (have f4 : Hid (w6.heap[w5.heap.size + 1]? = some Z29) := oB hb6 (oN (w5.alloc Z29) Z29 (w5.heap.size + 1) (by simp)))); (try (have pz3 := (Array.getElem?_eq_some_iff.1 f1.out).1; have pp := pd f1; obtain ⟨p30, p31, p32, p33⟩ := pp)); (try (have pz4 := (Array.getElem?_eq_some_iff.1 f2.out).1; have pp := pd f2; obtain ⟨p40, p41, p42, p43⟩ := pp)); (try (have pz5 := (Array.getElem?_eq_some_iff.1 f3.out).1; have pp := pd f3; obtain ⟨p50, p51, p52, p53⟩ := pp)); (try (have pz6 := (Array.getElem?_eq_some_iff.1 f4.out).1; have pp := pd f4; obtain ⟨p60, p61, p62, p63⟩ := pp)); have s6 := q6.size))
        all_goals go_wp2
        all_goals go_meet
        all_goals have g1 := hL1.lt
        all_goals have g2 := hL2.lt
        all_goals (try simp only [World.size_alloc, size_drew] at hG1)
        all_goals (try simp only [World.size_alloc] at hG2)
        all_goals (clear HC kA kB HK HX HN H0)
        all_goals exact ⟨_, _, G1, G2, rfl, rfl, rfl, by (repeat (first | assumption | exact Below.refl _ _ | refine blD ?_ | refine blA ?_ _ | refine blS ?_ (by dsimp only; omega) _)), by (repeat (first | with_reducible exact e1.out | with_reducible exact e2.out | with_reducible exact f1.out | with_reducible exact f2.out | with_reducible exact f3.out | with_reducible exact f4.out | with_reducible exact oN _ _ _ (by simp) | with_reducible refine oO ?_ _ | with_reducible refine oS ?_ | with_reducible refine oE (by omega) ?_)), by (repeat (first | with_reducible exact e1.out | with_reducible exact e2.out | with_reducible exact f1.out | with_reducible exact f2.out | with_reducible exact f3.out | with_reducible exact f4.out | with_reducible exact oN _ _ _ (by simp) | with_reducible refine oO ?_ _ | with_reducible refine oS ?_ | with_reducible refine oE (by omega) ?_)), by (repeat (first | with_reducible exact hL1 | with_reducible exact hL2 | with_reducible refine lO ?_ _ | with_reducible refine lE (by omega) ?_ | with_reducible refine lB hb6 ?_)), by (repeat (first | with_reducible exact hL1 | with_reducible exact hL2 | with_reducible refine lO ?_ _ | with_reducible refine lE (by omega) ?_ | with_reducible refine lB hb6 ?_)), by omega, by omega⟩
      case rest =>
        obtain ⟨B5, B6, G1, G2, rfl, rfl, rfl, hbc, o5, o6, l1, l2, hne, hge⟩ := hcut
        have c50 : wc.cell? ⟨B5, 0, none⟩ = some (.slice (some ⟨G1, 0, none⟩) (n1 + 200) (n1 + 200)) := by rw [cell_of_row wc _ 0 _ 29 (0, 0) o5]; rfl
        have c51 : wc.cell? ⟨B5, 1, none⟩ = some (.int .i64 n1) := by rw [cell_of_row wc _ 1 _ 29 (0, 0) o5]; rfl
        have c60 : wc.cell? ⟨B6, 0, none⟩ = some (.slice (some ⟨G2, 0, none⟩) (n2 + 200) (n2 + 200)) := by rw [cell_of_row wc _ 0 _ 29 (0, 0) o6]; rfl
        have c61 : wc.cell? ⟨B6, 1, none⟩ = some (.int .i64 n2) := by rw [cell_of_row wc _ 1 _ 29 (0, 0) o6]; rfl
        obtain ⟨cp0, cp1, _⟩ := HC.out wc hbc
        have r50 := cell_regrown c50
        have r51 := cell_regrown c51
        have r60 := cell_regrown c60
        have r61 := cell_regrown c61
        have rp0 := cell_regrown cp0
        have rp1 := cell_regrown cp1
        obtain ⟨dd, hdd⟩ : ∃ dd, dd = decide (xs = ys) := ⟨_, rfl⟩
        obtain ⟨T, hT⟩ : ∃ T, T = hexS xs := ⟨_, rfl⟩
        have im1 : Im wc (some ⟨G1, 0, none⟩) xs := by
          have := l1.im xs.length
          rwa [HX.out.1, List.take_append_of_le_length (Nat.le_refl _), List.take_of_length_le (Nat.le_refl _)] at this
        have im2 : Im wc (some ⟨G2, 0, none⟩) ys := by
          have := l2.im ys.length
          rwa [HX.out.2, List.take_append_of_le_length (Nat.le_refl _), List.take_of_length_le (Nat.le_refl _)] at this
        have imA := HK.out.ia.below hbc
        have imB := HK.out.ib.below hbc
        have cI1 := fun d os => Calls.regrown_of (in_any G1 n1 (grow (redrawn wc d) os) (by omega))
        have cI2 := fun d os => Calls.regrown_of (in_any G2 n2 (grow (redrawn wc d) os) (by omega))
        have cE := fun d os => Calls.regrown_of (equal_any (some ⟨G1, 0, none⟩) (some ⟨G2, 0, none⟩) (n1 + 200) (n2 + 200) xs ys (grow (redrawn wc d) os) (im1.below (below_regrown wc d os)) (im2.below (below_regrown wc d os)) HK.out.ba HK.out.bb (by have := HK.out.la; omega) (by have := HK.out.lb; omega))
        have cR := fun d os => Calls.regrown_of (requal_below a a' ca cb xs ys (grow (redrawn wc d) os) (imA.below (below_regrown wc d os)) (imB.below (below_regrown wc d os)) HK.out.ba HK.out.bb)
        have cH := fun d os => Calls.regrown_of (hex_any (some ⟨G1, 0, none⟩) (n1 + 200) xs (grow (redrawn wc d) os) (im1.below (below_regrown wc d os)) HK.out.ba (by have := HK.out.la; omega))
        have cG := fun d os => Calls.regrown_of (rhex_any a ca xs (grow (redrawn wc d) os) (imA.below (below_regrown wc d os)) HK.out.ba (by have := HK.out.la; omega))
        rw [← HN.out.1] at cE cR cH cG
        rw [← HN.out.2] at cE cR
        rw [← hdd] at cE cR
        rw [← hT] at cH cG
        have HO5 : Hid (wc.heap[B5]? = some (.cells #[.slice (some ⟨G1, 0, none⟩) (n1 + 200) (n1 + 200), .int .i64 n1] 29)) := o5
        have HO6 : Hid (wc.heap[B6]? = some (.cells #[.slice (some ⟨G2, 0, none⟩) (n2 + 200) (n2 + 200), .int .i64 n2] 29)) := o6
        have HL1 : Hid (Lies wc G1 X1) := l1
        have HL2 : Hid (Lies wc G2 X2) := l2
        have HBC : Hid (Below W.heap.size W wc) := hbc
        clear o5 o6 l1 l2 im1 im2 imA imB hdd hT hP kA kB HC hbc
        go_wp2_with fail
        refine wp_region_quiet_below (by kernel_rfl) (by kernel_rfl) ?_
        repeat (quiet_step (first | exact cI1 _ _ | exact cI2 _ _ | exact cE _ _ | exact cR _ _ | exact cH _ _ | exact cG _ _))
        refine wpQuiet_nil ?_
        intro _ hw'
        obtain ⟨⟨dq, osq⟩, hw''⟩ := hw'
        subst hw''
        have hb7 := below_regrown wc dq osq
        have HCS : Hid (∀ w', Below wc.heap.size wc w' → w'.cell? ⟨B5, 0, none⟩ = some (.slice (some ⟨G1, 0, none⟩) (n1 + 200) (n1 + 200)) ∧ w'.cell? ⟨B5, 1, none⟩ = some (.int .i64 n1) ∧ w'.cell? ⟨B6, 0, none⟩ = some (.slice (some ⟨G2, 0, none⟩) (n2 + 200) (n2 + 200)) ∧ w'.cell? ⟨B6, 1, none⟩ = some (.int .i64 n2) ∧ w'.cell? ⟨wr.heap.size, 0, none⟩ = some (.slice a n1 ca) ∧ w'.cell? ⟨wr.heap.size, 1, none⟩ = some (.slice a' n2 cb)) := fun w' hb => ⟨(hb.cell (block_lt_of_cell c50)).trans c50, (hb.cell (block_lt_of_cell c51)).trans c51, (hb.cell (block_lt_of_cell c60)).trans c60, (hb.cell (block_lt_of_cell c61)).trans c61, (hb.cell (block_lt_of_cell cp0)).trans cp0, (hb.cell (block_lt_of_cell cp1)).trans cp1⟩
        have HCS4 : Hid (∀ w' : World, w'.heap[B5]? = some (.cells #[.slice (some ⟨G1, 0, none⟩) (n1 + 200) (n1 + 200), .int .i64 n1] 29) → w'.heap[B6]? = some (.cells #[.slice (some ⟨G2, 0, none⟩) (n2 + 200) (n2 + 200), .int .i64 n2] 29) → w'.cell? ⟨B5, 0, none⟩ = some (.slice (some ⟨G1, 0, none⟩) (n1 + 200) (n1 + 200)) ∧ w'.cell? ⟨B5, 1, none⟩ = some (.int .i64 n1) ∧ w'.cell? ⟨B6, 0, none⟩ = some (.slice (some ⟨G2, 0, none⟩) (n2 + 200) (n2 + 200)) ∧ w'.cell? ⟨B6, 1, none⟩ = some (.int .i64 n2)) := fun w' h5 h6 => ⟨by rw [cell_of_row w' _ 0 _ 29 (0, 0) h5]; rfl, by rw [cell_of_row w' _ 1 _ 29 (0, 0) h5]; rfl, by rw [cell_of_row w' _ 0 _ 29 (0, 0) h6]; rfl, by rw [cell_of_row w' _ 1 _ 29 (0, 0) h6]; rfl⟩
        generalize grow (redrawn wc dq) osq = w7 at *
        obtain ⟨s50, s51, s60, s61, sp0, sp1⟩ := HCS.out w7 hb7
        have k10 := whole_any G1 a ca xs w7 (by have := HK.out.la; omega) (HX.out.1 ▸ HL1.out.below hb7) (HK.out.ia.below (HBC.out.trans (hb7.mono HBC.out.size)))
        have k10' := fun w' (hb : Below wc.heap.size wc w') => whole_any G2 a' cb ys w' (by have := HK.out.lb; omega) (HX.out.2 ▸ HL2.out.below hb) (HK.out.ib.below (HBC.out.trans (hb.mono HBC.out.size)))
        rw [← HN.out.1] at k10
        rw [← HN.out.2] at k10'
        clear c50 c51 c60 c61 cp0 cp1 r50 r51 r60 r61 rp0 rp1 cI1 cI2 cE cR cH cG
        go_wp2_with fail
        go_fit k10
        clear k10
        rintro e w8 ⟨rfl, b8⟩
        have hb8 : Below wc.heap.size wc w8 := hb7.trans (b8.mono hb7.size)
        clear s50 s51 s60 s61 sp0 sp1
        obtain ⟨s50, s51, s60, s61, sp0, sp1⟩ := HCS.out w8 hb8
        have k10'' := k10' w8 hb8
        clear k10'
        go_wp2_with fail
        go_fit k10''
        clear k10''
        rintro e w9 ⟨rfl, b9⟩
        have hb9 : Below wc.heap.size wc w9 := hb8.trans (b9.mono hb8.size)
        clear s50 s51 s60 s61 sp0 sp1
        obtain ⟨s50, s51, s60, s61, _, _⟩ := HCS.out w9 hb9
        have k11 := spoil_any G1 xs (List.replicate 200 90) w9.drew (by have := HK.out.la; omega) (by simp) (HX.out.1 ▸ HL1.out.below hb9.drew) W.heap.size hge
        rw [← HN.out.1] at k11
        have k7 := fun w' => in_any G2 n2 w' (by omega)
        have HD5 : Hid (w9.drew.heap[B5]? = some (.cells #[.slice (some ⟨G1, 0, none⟩) (n1 + 200) (n1 + 200), .int .i64 n1] 29)) := oB hb9.drew HO5.out
        have HD6 : Hid (w9.drew.heap[B6]? = some (.cells #[.slice (some ⟨G2, 0, none⟩) (n2 + 200) (n2 + 200), .int .i64 n2] 29)) := oB hb9.drew HO6.out
        have HLD : Hid (Lies w9.drew G1 X1) := HL1.out.below hb9.drew
        have hn5 : B5 ≠ G1 := fun h => by
          have h1 := HD5.out
          rw [h] at h1
          have h2 := HLD.out
          unfold Lies at h2
          rw [h2] at h1
          simp at h1
        have hn6 : B6 ≠ G1 := fun h => by
          have h1 := HD6.out
          rw [h] at h1
          have h2 := HLD.out
          unfold Lies at h2
          rw [h2] at h1
          simp at h1
        go_upto_region 11 with fail
        go_region_held3 (fun w' => w'.cell? ⟨B5, 0, none⟩ = some (.slice (some ⟨G1, 0, none⟩) (n1 + 200) (n1 + 200)) ∧ w'.cell? ⟨B5, 1, none⟩ = some (.int .i64 n1) ∧ w'.cell? ⟨B6, 0, none⟩ = some (.slice (some ⟨G2, 0, none⟩) (n2 + 200) (n2 + 200)) ∧ w'.cell? ⟨B6, 1, none⟩ = some (.int .i64 n2)) (first | exact HCS4.out _ (HD5.out) (HD6.out) | exact HCS4.out _ o5' o6' | exact HCS4.out _ o5'' o6'') (first | (go_at_call 11; go_fit k11; rintro e w10 ⟨rfl, l10, b10, h10⟩; have o5' := (h10 B5 (Array.getElem?_eq_some_iff.1 HD5.out).1 hn5).trans HD5.out; have o6' := (h10 B6 (Array.getElem?_eq_some_iff.1 HD6.out).1 hn6).trans HD6.out) | (go_at_call 7; go_fit (k7 _); rintro e w11 ⟨rfl, b11⟩; have o5'' := oB b11 o5'; have o6'' := oB b11 o6'))
        have m1 : Lies w11 G1 (xs.map xr ++ List.replicate 200 90) := lB b11 l10
        have m2 : Lies w11 G2 X2 := by
          have h2 := HL2.out.below hb9.drew
          exact lB b11 ((h10 G2 h2.lt (Ne.symm hne)).trans h2)
        have hbX : Below W.heap.size W w11 := ((HBC.out.trans (hb9.drew.mono HBC.out.size)).trans b10).trans (b11.mono ((HBC.out.trans (hb9.drew.mono HBC.out.size)).trans b10).size)
        have im1 : Im w11 (some ⟨G1, 0, none⟩) (xs.map xr) := by
          have := m1.im xs.length
          rwa [List.take_append_of_le_length (by simp), List.take_of_length_le (by simp)] at this
        have im2 : Im w11 (some ⟨G2, 0, none⟩) ys := by
          have := m2.im ys.length
          rwa [HX.out.2, List.take_append_of_le_length (Nat.le_refl _), List.take_of_length_le (Nat.le_refl _)] at this
        have hlx : (xs.map xr).length = n1 := by rw [List.length_map, HN.out.1]
        have kE := fun w' (hb : Below w11.heap.size w11 w') => equal_any (some ⟨G1, 0, none⟩) (some ⟨G2, 0, none⟩) (n1 + 200) (n2 + 200) (xs.map xr) ys w' (im1.below hb) (im2.below hb) (xr_by xs) HK.out.bb (by omega) (by have := HK.out.lb; omega)
        have kR := fun w' (hb : Below w11.heap.size w11 w') => requal_below (some ⟨G1, 0, none⟩) (some ⟨G2, 0, none⟩) (n1 + 200) (n2 + 200) (xs.map xr) ys w' (im1.below hb) (im2.below hb) (xr_by xs) HK.out.bb
        have kH := fun w' (hb : Below w11.heap.size w11 w') => hex_any (some ⟨G1, 0, none⟩) (n1 + 200) (xs.map xr) w' (im1.below hb) (xr_by xs) (by omega)
        have kG := fun w' (hb : Below w11.heap.size w11 w') => rhex_any (some ⟨G1, 0, none⟩) (n1 + 200) (xs.map xr) w' (im1.below hb) (xr_by xs) (by omega)
        rw [hlx] at kE kR kH kG
        rw [← HN.out.2] at kE kR
        generalize decide (xs.map xr = ys) = d2 at *
        generalize hexS (xs.map xr) = T2 at *
        have HBX : Hid (Below W.heap.size W w11) := hbX
        clear hbX m1 m2 im1 im2 hlx l10 b10 h10 b11 o5' o6' o5'' o6'' k7 k11 s50 s51 s60 s61 hn5 hn6
        have kE1 := kE w11 (Below.refl _ _)
        clear kE
        go_wp2_with fail
        go_fit kE1
        clear kE1
        rintro e w12 ⟨rfl, b12⟩
        have kR1 := kR w12 b12
        clear kR
        go_wp2_with fail
        go_fit kR1
        clear kR1
        rintro e w13 ⟨rfl, b13⟩
        have B13 := b12.trans (b13.mono b12.size)
        have kH1 := kH w13 B13
        clear kH
        go_wp2_with fail
        go_fit kH1
        clear kH1
        rintro e w14 ⟨rfl, b14⟩
        have B14 := B13.trans (b14.mono B13.size)
        have kG1 := kG w14 B14
        clear kG
        go_wp2_with fail
        go_fit kG1
        clear kG1
        rintro e w15 ⟨rfl, b15⟩
        have B15 := B14.trans (b15.mono B14.size)
        have BF : Below W.heap.size W w15 := HBX.out.trans (B15.mono HBX.out.size)
        go_wp2
        exact ⟨⟨j + 1, by go_num, by omega, hbw.trans ((hB1.trans (BF.mono hB1.size)).mono hbw.size)⟩, by simp [RowKit.intOf]; omega⟩
    · have hji : ¬ (j : Int) < n := by omega
      go_wp2
      go_ret
      exact ⟨rfl, hbw⟩
end Go.Proofs.Ytnoicgjjckgpmaa
