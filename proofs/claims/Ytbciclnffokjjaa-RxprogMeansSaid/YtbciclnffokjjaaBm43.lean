/- A bundle of texts. -/
import Derived.Test.YtbciclnffokjjaaBm42
/- The reference's matching: a sheet in memory. -/
namespace Go.Proofs.Ytbciclnffokjjaa
open Go.RowKit Go.Lib

/-- A sheet: its block, its nodes' row, the text's runes; of each node its data, its kids' numbers, the block of what it has seen, and what from must answer. -/
structure Shd where
  H : Nat
  gn : Nat
  cN : Nat
  N : Nat
  n : Nat
  sa : Option Addr
  sc : Nat
  r : Nat → Int
  D : Nat → Nd
  ka : Nat → Option Addr
  kc : Nat → Nat
  kd : Nat → Nat → Nat
  gs : Nat → Nat
  F : Nat → Nat → Nat → Bool
/-- The blocks that a sheet writes to. -/
def MSd (X : Shd) (b : Nat) : Prop := ∃ k, k < X.N ∧ b = X.gs k
/-- A block that a sheet reads and leaves alone. -/
def Okb (X : Shd) (w : World) (Z : Nat → Prop) (g : Nat) : Prop := ¬ Z g ∧ ¬ MSd X g ∧ g < w.heap.size
/-- What was seen at one place: nothing yet, or the answer. -/
def SnP (X : Shd) (w : World) (Z : Nat → Prop) (k i : Nat) : Prop := w.cell? ⟨X.gs k, i, none⟩ = some (.slice none 0 0) ∨ ∃ g c, w.cell? ⟨X.gs k, i, none⟩ = some (.slice (some ⟨g, 0, none⟩) (X.n + 1) c) ∧ Okb X w Z g ∧ ∀ j, j < X.n + 1 → w.cell? ⟨g, j, none⟩ = some (.bool (X.F k i j))
structure ShT (X : Shd) (w : World) (Z : Nat → Prop) : Prop where
  h0 : w.cell? ⟨X.H, 0, none⟩ = some (.slice (some ⟨X.gn, 0, none⟩) X.N X.cN)
  h1 : w.cell? ⟨X.H, 1, none⟩ = some (.slice X.sa X.n X.sc)
  hb : Okb X w Z X.H
  gb : Okb X w Z X.gn
  nd : ∀ k, k < X.N → Cs w X.gn (k * 11) (X.D k) ∧ w.cell? ⟨X.gn, k * 11 + 9, none⟩ = some (.slice (X.ka k) (X.D k).kn (X.kc k)) ∧ w.cell? ⟨X.gn, k * 11 + 10, none⟩ = some (.slice (some ⟨X.gs k, 0, none⟩) (X.n + 1) (X.n + 1))
  kd : ∀ k, k < X.N → (X.D k).kn = 0 ∨ ∃ g o, X.ka k = some ⟨g, o, none⟩ ∧ Okb X w Z g ∧ ∀ j, j < (X.D k).kn → w.cell? ⟨g, o + j, none⟩ = some (.int .i64 (X.kd k j : Int))
  sb : ∀ k, k < X.N → ¬ Z (X.gs k) ∧ X.gs k < w.heap.size ∧ ∀ q, w.frozen? ⟨X.gs k, q, none⟩ = false
  sn : ∀ k i, k < X.N → i < X.n + 1 → SnP X w Z k i
  two : ∀ k k', k < X.N → k' < X.N → X.gs k = X.gs k' → k = k'
  rr : X.n = 0 ∨ ∃ g o, X.sa = some ⟨g, o, none⟩ ∧ Okb X w Z g ∧ ∀ j, j < X.n → w.cell? ⟨g, o + j, none⟩ = some (.int .i32 (X.r j))
  rg : ∀ k, k < X.N → (X.D k).rn = 0 ∨ ∃ g o, (X.D k).ra = some ⟨g, o, none⟩ ∧ Okb X w Z g ∧ ∀ j, j < (X.D k).rn → w.cell? ⟨g, o + j * 2, none⟩ = some (.int .i32 ((X.D k).rf j).1) ∧ w.cell? ⟨g, o + j * 2 + 1, none⟩ = some (.int .i32 ((X.D k).rf j).2)
theorem Okb.kp {X : Shd} {w w' : World} {Z Z' : Nat → Prop} {g : Nat} (h : Okb X w Z g) (hs : w.heap.size ≤ w'.heap.size) (hz : ∀ b, b < w.heap.size → Z' b → Z b) : Okb X w' Z' g := ⟨fun e => h.1 (hz g h.2.2 e), h.2.1, Nat.lt_of_lt_of_le h.2.2 hs⟩
/-- What is changed lies off the sheet, or is seen by it aright. -/
theorem ShT.turn {X : Shd} {w w' : World} {Z Z' M : Nat → Prop} (h : ShT X w Z) (k : Kp M w w') (hM : ∀ b, M b → Z b ∨ MSd X b) (hz : ∀ b, b < w.heap.size → Z' b → Z b) (hfz : ∀ i, i < X.N → ∀ q, w'.frozen? ⟨X.gs i, q, none⟩ = false) (hsn : ∀ i q, i < X.N → q < X.n + 1 → SnP X w' Z' i q) : ShT X w' Z' := by
  have nM : ∀ g, Okb X w Z g → ¬ M g := fun g hg e => (hM g e).elim hg.1 hg.2.1
  have nC : ∀ {g q : Nat} {v : Value}, Okb X w Z g → w.cell? ⟨g, q, none⟩ = some v → w'.cell? ⟨g, q, none⟩ = some v := fun hg hc => k.cell hc (nM _ hg)
  refine ⟨nC h.hb h.h0, nC h.hb h.h1, h.hb.kp k.size hz, h.gb.kp k.size hz, fun i hi => ?_, fun i hi => ?_, fun i hi => ?_, hsn, h.two, ?_, fun i hi => ?_⟩
  · obtain ⟨a1, a2, a3⟩ := h.nd i hi
    exact ⟨a1.kp k (nM _ h.gb), nC h.gb a2, nC h.gb a3⟩
  · exact (h.kd i hi).imp id (fun ⟨g, o, e, hg, hc⟩ => ⟨g, o, e, hg.kp k.size hz, fun j hj => nC hg (hc j hj)⟩)
  · obtain ⟨a1, a2, _⟩ := h.sb i hi
    exact ⟨fun e => a1 (hz _ a2 e), Nat.lt_of_lt_of_le a2 k.size, hfz i hi⟩
  · exact h.rr.imp id (fun ⟨g, o, e, hg, hc⟩ => ⟨g, o, e, hg.kp k.size hz, fun j hj => nC hg (hc j hj)⟩)
  · exact (h.rg i hi).imp id (fun ⟨g, o, e, hg, hc⟩ => ⟨g, o, e, hg.kp k.size hz, fun j hj => ⟨nC hg (hc j hj).1, nC hg (hc j hj).2⟩⟩)
theorem ShT.zkp {X : Shd} {w w' : World} {Z Z' : Nat → Prop} (h : ShT X w Z) (k : Kp Z w w') (hz : ∀ b, b < w.heap.size → Z' b → Z b) : ShT X w' Z' := by
  refine h.turn k (fun b e => .inl e) hz (fun i hi q => ?_) (fun i q hi hq => ?_)
  · obtain ⟨a1, a2, a3⟩ := h.sb i hi
    rw [World.frozen?_of_block (w := w) (k.block _ a2 a1)]
    exact a3 q
  · obtain ⟨a1, a2, _⟩ := h.sb i hi
    rcases h.sn i q hi hq with e | ⟨g, c, e1, e2, e3⟩
    · exact .inl (k.cell e a1)
    · exact .inr ⟨g, c, k.cell e1 a1, e2.kp k.size hz, fun j hj => k.cell (e3 j hj) e2.1⟩
theorem ShT.sha (X : Shd) : ShA (ShT X) (MSd X) where
  kp := fun w w' Z h k => h.zkp k (fun _ _ e => e)
  more := fun w Z Z' h hz => h.zkp (Kp.refl _ _) (fun b hb e => (hz b e).elim id (fun e => by omega))
  off := fun w Z h b ⟨k, hk, e⟩ => by
    subst e
    obtain ⟨a1, a2, _⟩ := h.sb k hk
    exact ⟨a1, a2⟩
end Go.Proofs.Ytbciclnffokjjaa
/- The reference's matching: from, over what reckon does. -/
namespace Go.Proofs.Ytbciclnffokjjaa
open Go.RowKit Go.Lib

/-- What a call of reckon does at one node. -/
def RkC (X : Shd) (k : Nat) : Prop := ∀ (i : Nat) (w : World) (Z : Nat → Prop), i < X.n + 1 → ShT X w Z → (∀ b, Z b → b < w.heap.size) → Calls Try.prog 57 #[.pointer (some ⟨X.H, 0, none⟩), .int .i64 (k : Int), .int .i64 (i : Int)] w fun e w' => (∃ g c, e = .returned (.slice (some ⟨g, 0, none⟩) (X.n + 1) c) ∧ Hid (w.heap.size ≤ g ∧ g < w'.heap.size ∧ (∀ j, j < X.n + 1 → w'.cell? ⟨g, j, none⟩ = some (.bool (X.F k i j))) ∧ ShT X w' (fun b => Z b ∨ b = g))) ∧ Hid (Kp (MSd X) w w')
theorem SnP.some {X : Shd} {w : World} {Z : Nat → Prop} {k i : Nat} (h : SnP X w Z k i) : ∃ v, w.cell? ⟨X.gs k, i, none⟩ = some v := by
  rcases h with h | ⟨g, c, h, _⟩
  · exact ⟨_, h⟩
  · exact ⟨_, h⟩
/-- The answer is put down. -/
theorem ShT.put {X : Shd} {w : World} {Z : Nat → Prop} {k i g c : Nat} (h : ShT X w (fun b => Z b ∨ b = g)) (hk : k < X.N) (hi : i < X.n + 1) (hZg : ¬ Z g) (hg : g < w.heap.size) (hrow : ∀ j, j < X.n + 1 → w.cell? ⟨g, j, none⟩ = some (.bool (X.F k i j))) :
    ShT X (w.setCell ⟨X.gs k, i, none⟩ (.slice (some ⟨g, 0, none⟩) (X.n + 1) c)) Z ∧ Kp (MSd X) w (w.setCell ⟨X.gs k, i, none⟩ (.slice (some ⟨g, 0, none⟩) (X.n + 1) c)) := by
  have kb : Kp (MSd X) w (w.setCell ⟨X.gs k, i, none⟩ (.slice (some ⟨g, 0, none⟩) (X.n + 1) c)) := (Kp.refl (MSd X) w).setCell (p := ⟨X.gs k, i, none⟩) ⟨k, hk, rfl⟩ _
  have gM : ¬ MSd X g := fun e => (((ShT.sha X).off _ _ h g e).1) (.inr rfl)
  refine ⟨h.turn kb (fun b e => .inr e) (fun b _ e => .inl e) (fun q hq o => ?_) (fun k' i' hk' hi' => ?_), kb⟩
  · rw [World.frozen?_setCell]
    exact (h.sb q hq).2.2 o
  · by_cases e : k' = k ∧ i' = i
    · obtain ⟨rfl, rfl⟩ := e
      obtain ⟨v, hv⟩ := (h.sn k' i' hk' hi').some
      exact .inr ⟨g, c, World.cell?_setCell_same _ _ _ hv, ⟨hZg, gM, Nat.lt_of_lt_of_le hg kb.size⟩, fun j hj => kb.cell (hrow j hj) gM⟩
    · have hne : (⟨X.gs k', i', none⟩ : Addr) ≠ ⟨X.gs k, i, none⟩ := fun e2 => e (by
        injection e2 with e3 e4
        exact ⟨h.two k' k hk' hk e3, e4⟩)
      rcases h.sn k' i' hk' hi' with e1 | ⟨g', c', e1, e2, e3⟩
      · exact .inl (by rw [World.cell?_setCell_other _ _ _ _ hne.symm]; exact e1)
      · exact .inr ⟨g', c', by rw [World.cell?_setCell_other _ _ _ _ hne.symm]; exact e1, e2.kp kb.size (fun b _ e => .inl e), fun j hj => kb.cell (e3 j hj) e2.2.1⟩
theorem nil72 (w : World) : (binOp BinOp.eql 72 (.slice none 0 0) (.slice none 0 0)).run Try.prog w = .ok (.bool true) w := by kernel_rfl
theorem non72 (p : Addr) (n c : Nat) (w : World) : (binOp BinOp.eql 72 (.slice (some p) n c) (.slice none 0 0)).run Try.prog w = .ok (.bool false) w := by kernel_rfl
set_option maxHeartbeats 2000000 in
set_option maxRecDepth 100000 in
theorem from_any (X : Shd) (k : Nat) (hk : k < X.N) (hN : X.N ≤ 1000000) (hn : X.n ≤ 100000) (hR : RkC X k) : FrC (ShT X) (MSd X) X.H (X.n + 1) k (X.F k) := by
  intro i w Z hi h hZ
  obtain ⟨_, _, c10⟩ := h.nd k hk
  have c0 := h.h0
  have hkI : (k : Int) < X.N := by omega
  have hNI : (X.N : Int) ≤ 1000000 := by omega
  have hiI : (i : Int) < (X.n : Int) + 1 := by omega
  have hnI : (X.n : Int) ≤ 100000 := by omega
  rcases h.sn k i hk hi with e | ⟨g, c, e, hg, hc⟩
  · have n1 := nil72
    have kR := hR i w Z hi h hZ
    have HFT : Hid (∀ w2 g c, w.heap.size ≤ g → g < w2.heap.size → (∀ j, j < X.n + 1 → w2.cell? ⟨g, j, none⟩ = some (.bool (X.F k i j))) → ShT X w2 (fun b => Z b ∨ b = g) → Kp (MSd X) w w2 → ∀ w3, w3 = w2.setCell ⟨X.gs k, i, none⟩ (.slice (some ⟨g, 0, none⟩) (X.n + 1) c) → (w3.cell? ⟨X.H, 0, none⟩ = some (.slice (some ⟨X.gn, 0, none⟩) X.N X.cN) ∧ w3.cell? ⟨X.gn, k * 11 + 10, none⟩ = some (.slice (some ⟨X.gs k, 0, none⟩) (X.n + 1) (X.n + 1)) ∧ w3.cell? ⟨X.gs k, i, none⟩ = some (.slice (some ⟨g, 0, none⟩) (X.n + 1) c)) ∧ (Bml w3 (some ⟨g, 0, none⟩) (X.F k i) (X.n + 1) ∧ ∀ p : Addr, some (⟨g, 0, none⟩ : Addr) = some p → ¬ Z p.block ∧ ¬ MSd X p.block) ∧ ShT X w3 Z ∧ Kp (MSd X) w w3) := fun w2 g c g1 g2 g3 g4 g5 w3 e3 => by
      subst e3
      have hZg : ¬ Z g := fun e => by have := hZ g e; omega
      obtain ⟨q1, q2⟩ := g4.put (c := c) hk hi hZg g2 g3
      have gM : ¬ MSd X g := fun e => (((ShT.sha X).off _ _ g4 g e).1) (.inr rfl)
      obtain ⟨v, hv⟩ := (g4.sn k i hk hi).some
      refine ⟨⟨q1.h0, (q1.nd k hk).2.2, World.cell?_setCell_same _ _ _ hv⟩, ⟨.inr ⟨g, 0, rfl, Nat.lt_of_lt_of_le g2 q2.size, fun j hj => by rw [Nat.zero_add]; exact q2.cell (g3 j hj) gM⟩, fun p ep => by cases ep; exact ⟨hZg, gM⟩⟩, q1, g5.trans q2⟩
    have HRK : Hid (∀ w1, Below w.heap.size w w1 → Calls Try.prog 57 #[.pointer (some ⟨X.H, 0, none⟩), .int .i64 (k : Int), .int .i64 (i : Int)] w1 fun e w2 => ∃ g c vo, e = .returned (.slice (some ⟨g, 0, none⟩) (X.n + 1) c) ∧ (w2.cell? ⟨X.H, 0, none⟩ = some (.slice (some ⟨X.gn, 0, none⟩) X.N X.cN) ∧ w2.cell? ⟨X.gn, k * 11 + 10, none⟩ = some (.slice (some ⟨X.gs k, 0, none⟩) (X.n + 1) (X.n + 1))) ∧ w2.cell? ⟨X.gs k, i, none⟩ = some vo ∧ w2.frozen? ⟨X.gs k, i, none⟩ = false ∧ Hid (w.heap.size ≤ g ∧ g < w2.heap.size ∧ (∀ j, j < X.n + 1 → w2.cell? ⟨g, j, none⟩ = some (.bool (X.F k i j))) ∧ ShT X w2 (fun b => Z b ∨ b = g) ∧ Kp (MSd X) w w2)) := fun w1 b1 => (hR i w1 Z hi ((ShT.sha X).kp _ _ _ h (Kp.of b1)) (fun b hb => Nat.lt_of_lt_of_le (hZ b hb) b1.size)).mono fun e w2 ⟨⟨g, c, e1, hh⟩, hk2⟩ => by
      obtain ⟨g1, g2, g3, g4⟩ := hh.out
      obtain ⟨v, hv⟩ := (g4.sn k i hk hi).some
      exact ⟨g, c, v, e1, ⟨g4.h0, (g4.nd k hk).2.2⟩, hv, (g4.sb k hk).2.2 i, Nat.le_trans b1.size g1, g2, g3, g4, (Kp.of b1).trans hk2.out⟩
    clear kR hR h hZ
    generalize X.gs k = gsk at *
    go_enter Try.func34, Try.ntmps34
    go_wp2_with fail
    have hb0 : Below w.heap.size w w := Below.refl _ _
    have cd0 : w.drew.cell? ⟨X.H, 0, none⟩ = some (.slice (some ⟨X.gn, 0, none⟩) X.N X.cN) := c0
    have cd10 : w.drew.cell? ⟨X.gn, k * 11 + 10, none⟩ = some (.slice (some ⟨gsk, 0, none⟩) (X.n + 1) (X.n + 1)) := c10
    go_region_held3 (fun w' => w'.cell? ⟨X.H, 0, none⟩ = some (.slice (some ⟨X.gn, 0, none⟩) X.N X.cN) ∧ w'.cell? ⟨X.gn, k * 11 + 10, none⟩ = some (.slice (some ⟨gsk, 0, none⟩) (X.n + 1) (X.n + 1))) (first | exact ⟨c0, c10⟩ | exact ⟨cd0, cd10⟩ | exact hcs | exact ⟨h3c.1, h3c.2.1⟩) (first | (go_at_call 57; go_fit (HRK.out _ (by assumption)); rintro e w2 ⟨g, c, vo, rfl, hcs, hv, hfz, HH⟩; have HS3 : Hid _ := HFT.out w2 g c HH.out.1 HH.out.2.1 HH.out.2.2.1 HH.out.2.2.2.1 HH.out.2.2.2.2 _ rfl; have h3c := HS3.out.1) | (go_at_call 57; go_fit (HRK.out _ (Below.drew (by assumption))); rintro e w2 ⟨g, c, vo, rfl, hcs, hv, hfz, HH⟩; have HS3 : Hid _ := HFT.out w2 g c HH.out.1 HH.out.2.1 HH.out.2.2.1 HH.out.2.2.2.1 HH.out.2.2.2.2 _ rfl; have h3c := HS3.out.1))
    all_goals
      obtain ⟨x0, x10, xs⟩ := h3c
      clear hcs hv hfz HH HFT HRK c0 c10 cd0 cd10 e
      generalize w2.setCell ⟨gsk, i, none⟩ (.slice (some ⟨g, 0, none⟩) (X.n + 1) c) = W3 at *
      go_wp2
      go_ret
      exact ⟨⟨_, _, rfl, HS3.out.2.1⟩, HS3.out.2.2⟩
  · have n1 := non72 ⟨g, 0, none⟩ (X.n + 1) c
    have HE : Hid ((Bml w (some ⟨g, 0, none⟩) (X.F k i) (X.n + 1) ∧ ∀ p : Addr, some (⟨g, 0, none⟩ : Addr) = some p → ¬ Z p.block ∧ ¬ MSd X p.block) ∧ ShT X w Z ∧ Kp (MSd X) w w) := ⟨⟨.inr ⟨g, 0, rfl, hg.2.2, fun j hj => by rw [Nat.zero_add]; exact hc j hj⟩, fun p ep => by cases ep; exact ⟨hg.1, hg.2.1⟩⟩, h, Kp.refl _ _⟩
    clear hR h hZ hc hg
    go_enter Try.func34, Try.ntmps34
    go_wp2
    go_ret
    exact ⟨⟨_, _, rfl, HE.out.1⟩, HE.out.2⟩
end Go.Proofs.Ytbciclnffokjjaa
/- The reference's matching: reckon at leaves. -/
namespace Go.Proofs.Ytbciclnffokjjaa
open Go.RowKit Go.Lib

/-- reckon under way: its node in a box, what it will answer in a row of its own. -/
structure RkI (X : Shd) (w : World) (Z : Nat → Prop) (d : Nd) (g : Nat) (u : Nat → Bool) (w' : World) : Prop where
  row : w'.ownsRow w.heap.size 4 1 (.slice (some ⟨g, 0, none⟩) (X.n + 1) (X.n + 1)) (X.n + 1) (bcS u (X.n + 1))
  sh : ShT X w' (fun b => Z b ∨ b = g)
  bx : Cs w' w.heap.size 0 d
  gl : w.heap.size < g
  kp : Kp (fun b => MSd X b ∨ b = g) w w'
  ms : ∀ b, MSd X b → b < w.heap.size
theorem RkI.start {X : Shd} {w W W2 : World} {Z : Nat → Prop} {d : Nd} (h : ShT X w Z) (hb : Below w.heap.size w W) (hx : Cs W w.heap.size 0 d) (hz : w.heap.size < W.heap.size) (o : W2.ownsRow w.heap.size 4 1 (.slice (some ⟨W.heap.size, 0, none⟩) (X.n + 1) (X.n + 1)) (X.n + 1) (bcS (fun _ => false) (X.n + 1))) (b : Below W.heap.size W W2) : RkI X w Z d W.heap.size (fun _ => false) W2 := by
  have h1 : ShT X W (fun b => Z b ∨ b = W.heap.size) := (h.zkp (Z' := Z) (Kp.of hb) (fun _ _ e => e)).zkp (Kp.refl _ _) (fun b hb e => e.elim id (fun e => by omega))
  exact ⟨o, h1.zkp (Kp.of b) (fun _ _ e => e), hx.kp (M := fun _ => False) (Kp.of b) id, hz, (Kp.of hb).trans (Kp.of b), fun b ⟨q, hq, e⟩ => by subst e; exact (h.sb q hq).2.1⟩
theorem RkI.put {X : Shd} {w : World} {Z : Nat → Prop} {d : Nd} {g : Nat} {u : Nat → Bool} {w' : World} (h : RkI X w Z d g u w') (i : Nat) (x : Bool) : RkI X w Z d g (up u i x) (w'.setCell ⟨g, i, none⟩ (.bool x)) := by
  have kb : Kp (fun b => b = g) w' (w'.setCell ⟨g, i, none⟩ (.bool x)) := (Kp.refl (fun b => b = g) w').setCell (p := ⟨g, i, none⟩) (show g = g from rfl) _
  refine ⟨?_, h.sh.zkp (kb.mono (fun b _ e => .inr e)) (fun _ _ e => e), h.bx.kp kb (fun e => by have e' : w.heap.size = g := e; have := h.gl; omega), h.gl, h.kp.trans (kb.mono (fun b _ e => .inr e)), h.ms⟩
  rw [← bcS_put]
  exact (World.ownsRow.stored h.row i (.bool x)).1
theorem RkI.drew {X : Shd} {w : World} {Z : Nat → Prop} {d : Nd} {g : Nat} {u : Nat → Bool} {w' : World} (h : RkI X w Z d g u w') : RkI X w Z d g u w'.drew := ⟨h.row, h.sh.zkp (Kp.refl _ _).drew (fun _ _ e => e), h.bx.kp (M := fun _ => False) (Kp.refl _ _).drew id, h.gl, h.kp.drew, h.ms⟩
theorem RkI.fin {X : Shd} {w : World} {Z : Nat → Prop} {d : Nd} {g : Nat} {u : Nat → Bool} {w' : World} {k i : Nat} (h : RkI X w Z d g u w') (hu : ∀ j, j < X.n + 1 → u j = X.F k i j) : (w.heap.size ≤ g ∧ g < w'.heap.size ∧ (∀ j, j < X.n + 1 → w'.cell? ⟨g, j, none⟩ = some (.bool (X.F k i j))) ∧ ShT X w' (fun b => Z b ∨ b = g)) ∧ Kp (MSd X) w w' := by
  have gl := h.gl
  refine ⟨⟨by omega, (h.row.lt g rfl).2, fun j hj => ?_, h.sh⟩, h.kp.mono (fun b hb e => e.elim id (fun e => by omega))⟩
  rw [World.ownsRow.cellAt h.row j (by omega), bcS_get _ _ _ hj, hu j hj]
theorem RkI.cell {X : Shd} {w : World} {Z : Nat → Prop} {d : Nd} {g : Nat} {u : Nat → Bool} {w' : World} (h : RkI X w Z d g u w') (i : Nat) (hi : i < X.n + 1) : w'.cell? ⟨g, i, none⟩ = some (.bool (u i)) ∧ w'.frozen? ⟨g, i, none⟩ = false := ⟨by rw [World.ownsRow.cellAt h.row i (by omega), bcS_get _ _ _ hi], World.ownsRow.frozenAt h.row i⟩
set_option maxHeartbeats 4000000 in
set_option maxRecDepth 100000 in
theorem reckon_1 (X : Shd) (k : Nat) (hk : k < X.N) (hN : X.N ≤ 1000000) (hn : X.n ≤ 100000) (hkind : (X.D k).kind = 1) (hF : ∀ i j, i < X.n + 1 → j < X.n + 1 → X.F k i j = decide (j = i)) : RkC X k := by
  intro i w Z hi h hZ
  obtain ⟨cs, c9, _⟩ := h.nd k hk
  obtain ⟨W, hW⟩ : ∃ W, W = (w.alloc (ndX (X.D k))).drew := ⟨_, rfl⟩
  have HW : Hid (W = (w.alloc (ndX (X.D k))).drew) := hW
  have hb0 : Below w.heap.size w W := by rw [hW]; exact ((Below.refl _ w).alloc (Nat.le_refl _) _).drew
  have hz : w.heap.size < W.heap.size := by rw [hW]; show w.heap.size < (w.alloc (ndX (X.D k))).heap.size; simp
  have hx : Cs W w.heap.size 0 (X.D k) := by rw [hW]; exact ndX_cells (w := w) (X.D k) (Below.refl _ _).drew
  obtain ⟨W2, r2, o2, b2⟩ := make_b W w.heap.size (X.n + 1) (Nat.le_of_lt hz) (by omega)
  push_cast at r2
  have HI : Hid (RkI X w Z (X.D k) W.heap.size (fun _ => false) W2) := RkI.start h hb0 hx hz o2 b2
  have hW1 := (h.zkp (Z' := Z) (Kp.of hb0) (fun _ _ e => e)).h1
  obtain ⟨g, hg⟩ : ∃ g, g = W.heap.size := ⟨_, rfl⟩
  rw [← hg] at r2 HI
  obtain ⟨p0, p1, p2, p3, p4, p5, p6, p7, p8⟩ := cs
  have c0 := h.h0
  obtain ⟨x0, x1, x2, x3, x4, x5, x6, x7, x8⟩ := HI.out.bx
  simp only [Nat.zero_add] at x0 x1 x2 x3 x4 x5 x6 x7 x8
  have hkI : (k : Int) < X.N := by omega
  have hNI : (X.N : Int) ≤ 1000000 := by omega
  have hiI : (i : Int) < (X.n : Int) + 1 := by omega
  have hnI : (X.n : Int) ≤ 100000 := by omega
  have HKD : Hid ((X.D k).kind = 1) := hkind
  obtain ⟨y1, y2⟩ := HI.out.cell i hi
  have HE : Hid _ := (HI.out.put i true).fin (k := k) (i := i) (fun j hj => by
    rw [hF i j hi hj]
    by_cases e : j = i
    · subst e; rw [up_same]; simp
    · rw [up_other _ _ _ _ e, decide_eq_false e])
  rw [hkind] at x0
  clear hkind hF HI
  clear h hZ hW hb0 hz hx o2 b2 hg
  generalize X.D k = d at *
  go_enter Try.func57, Try.ntmps57
  go_wp2_with fail
  go_region_held3 (fun w' => w'.cell? ⟨X.H, 0, none⟩ = some (.slice (some ⟨X.gn, 0, none⟩) X.N X.cN) ∧ w'.cell? ⟨X.gn, k * 11, none⟩ = some (.int .i64 d.kind) ∧ w'.cell? ⟨X.gn, k * 11 + 1, none⟩ = some (.int .i32 d.r) ∧ w'.cell? ⟨X.gn, k * 11 + 2, none⟩ = some (.slice d.ra d.rn d.rc) ∧ w'.cell? ⟨X.gn, k * 11 + 3, none⟩ = some (.int .i64 d.mn) ∧ w'.cell? ⟨X.gn, k * 11 + 4, none⟩ = some (.int .i64 d.mx) ∧ w'.cell? ⟨X.gn, k * 11 + 5, none⟩ = some (.bool d.lz) ∧ w'.cell? ⟨X.gn, k * 11 + 6, none⟩ = some (.int .i64 d.cp) ∧ w'.cell? ⟨X.gn, k * 11 + 7, none⟩ = some (.string d.nm) ∧ w'.cell? ⟨X.gn, k * 11 + 8, none⟩ = some (.slice d.ka d.kn d.kc) ∧ w'.cell? ⟨X.gn, k * 11 + 9, none⟩ = some (.slice (X.ka k) d.kn (X.kc k))) (first | exact ⟨c0, p0, p1, p2, p3, p4, p5, p6, p7, p8, c9⟩ | go_keep) (fail)
  rw [show (w.alloc (.cells #[.int .i64 d.kind, .int .i32 d.r, .slice d.ra d.rn d.rc, .int .i64 d.mn, .int .i64 d.mx, .bool d.lz, .int .i64 d.cp, .string d.nm, .slice d.ka d.kn d.kc] 33)).drew = W from HW.out.symm]
  clear p0 p1 p2 p3 p4 p5 p6 p7 p8 c0 c9
  go_wp2
  go_ret
  exact ⟨⟨_, _, rfl, HE.out.1⟩, HE.out.2⟩
set_option maxHeartbeats 4000000 in
set_option maxRecDepth 100000 in
theorem reckon_pl (X : Shd) (k : Nat) (hk : k < X.N) (hN : X.N ≤ 1000000) (hn : X.n ≤ 100000) (hkind : 8 ≤ (X.D k).kind) (hF : ∀ i j, i < X.n + 1 → j < X.n + 1 → X.F k i j = (decide (j = i) && rpB (X.D k).kind X.r X.n i)) : RkC X k := by
  intro i w Z hi h hZ
  obtain ⟨cs, c9, _⟩ := h.nd k hk
  obtain ⟨W, hW⟩ : ∃ W, W = (w.alloc (ndX (X.D k))).drew := ⟨_, rfl⟩
  have HW : Hid (W = (w.alloc (ndX (X.D k))).drew) := hW
  have hb0 : Below w.heap.size w W := by rw [hW]; exact ((Below.refl _ w).alloc (Nat.le_refl _) _).drew
  have hz : w.heap.size < W.heap.size := by rw [hW]; show w.heap.size < (w.alloc (ndX (X.D k))).heap.size; simp
  have hx : Cs W w.heap.size 0 (X.D k) := by rw [hW]; exact ndX_cells (w := w) (X.D k) (Below.refl _ _).drew
  obtain ⟨W2, r2, o2, b2⟩ := make_b W w.heap.size (X.n + 1) (Nat.le_of_lt hz) (by omega)
  push_cast at r2
  have HI : Hid (RkI X w Z (X.D k) W.heap.size (fun _ => false) W2) := RkI.start h hb0 hx hz o2 b2
  have hW1 := (h.zkp (Z' := Z) (Kp.of hb0) (fun _ _ e => e)).h1
  obtain ⟨g, hg⟩ : ∃ g, g = W.heap.size := ⟨_, rfl⟩
  rw [← hg] at r2 HI
  obtain ⟨p0, p1, p2, p3, p4, p5, p6, p7, p8⟩ := cs
  have c0 := h.h0
  obtain ⟨x0, x1, x2, x3, x4, x5, x6, x7, x8⟩ := HI.out.bx
  simp only [Nat.zero_add] at x0 x1 x2 x3 x4 x5 x6 x7 x8
  have hkI : (k : Int) < X.N := by omega
  have hNI : (X.N : Int) ≤ 1000000 := by omega
  have hiI : (i : Int) < (X.n : Int) + 1 := by omega
  have hnI : (X.n : Int) ≤ 100000 := by omega
  obtain ⟨y1, y2⟩ := HI.out.cell i hi
  have HE : Hid _ := (HI.out.put i (rpB (X.D k).kind X.r X.n i)).fin (k := k) (i := i) (fun j hj => by
    rw [hF i j hi hj]
    by_cases e : j = i
    · subst e; rw [up_same]; simp
    · rw [up_other _ _ _ _ e, decide_eq_false e]; rfl)
  have HE2 : Hid _ := (HI.out.put i (rpB (X.D k).kind X.r X.n i)).drew.fin (k := k) (i := i) (fun j hj => by
    rw [hF i j hi hj]
    by_cases e : j = i
    · subst e; rw [up_same]; simp
    · rw [up_other _ _ _ _ e, decide_eq_false e]; rfl)
  have v1 := HI.out.sh.h1
  have HRR : Hid (∀ w', Below W2.heap.size W2 w' → Iml w' X.sa X.r X.n) := fun w' b => (show Iml W2 X.sa X.r X.n from HI.out.sh.rr.imp id (fun ⟨g, o, e, hg, hc⟩ => ⟨g, o, e, hg.2.2, hc⟩)).below b
  have HPL : Hid (∀ w', Below W2.heap.size W2 w' → Calls Try.prog 79 #[.int .i64 (X.D k).kind, .slice X.sa X.n X.sc, .int .i64 (i : Int)] w' fun e w3 => e = .returned (.bool (rpB (X.D k).kind X.r X.n i)) ∧ w3 = w') := fun w' b => place_any (X.D k).kind X.sa X.n X.sc i X.r w' (HRR.out w' b) (by omega) (by omega)
  have t1 : ((X.D k).kind == 1) = false := by simp; omega
  have t2 : ((X.D k).kind == 2) = false := by simp; omega
  have t3 : ((X.D k).kind == 3) = false := by simp; omega
  have t4 : ((X.D k).kind == 4) = false := by simp; omega
  have t5 : ((X.D k).kind == 5) = false := by simp; omega
  have t6 : ((X.D k).kind == 6) = false := by simp; omega
  have t7 : ((X.D k).kind == 7) = false := by simp; omega
  have hgH : g ≠ X.H := fun e => HI.out.sh.hb.1 (.inr e.symm)
  have hgB : g ≠ w.heap.size := by have := HI.out.gl; omega
  clear hkind hF HI HRR
  clear h hZ hW hb0 hz hx o2 b2 hg
  generalize X.D k = d at *
  go_enter Try.func57, Try.ntmps57
  go_wp2_with fail
  go_region_held3 (fun w' => w'.cell? ⟨X.H, 0, none⟩ = some (.slice (some ⟨X.gn, 0, none⟩) X.N X.cN) ∧ w'.cell? ⟨X.gn, k * 11, none⟩ = some (.int .i64 d.kind) ∧ w'.cell? ⟨X.gn, k * 11 + 1, none⟩ = some (.int .i32 d.r) ∧ w'.cell? ⟨X.gn, k * 11 + 2, none⟩ = some (.slice d.ra d.rn d.rc) ∧ w'.cell? ⟨X.gn, k * 11 + 3, none⟩ = some (.int .i64 d.mn) ∧ w'.cell? ⟨X.gn, k * 11 + 4, none⟩ = some (.int .i64 d.mx) ∧ w'.cell? ⟨X.gn, k * 11 + 5, none⟩ = some (.bool d.lz) ∧ w'.cell? ⟨X.gn, k * 11 + 6, none⟩ = some (.int .i64 d.cp) ∧ w'.cell? ⟨X.gn, k * 11 + 7, none⟩ = some (.string d.nm) ∧ w'.cell? ⟨X.gn, k * 11 + 8, none⟩ = some (.slice d.ka d.kn d.kc) ∧ w'.cell? ⟨X.gn, k * 11 + 9, none⟩ = some (.slice (X.ka k) d.kn (X.kc k))) (first | exact ⟨c0, p0, p1, p2, p3, p4, p5, p6, p7, p8, c9⟩ | go_keep) (fail)
  rw [show (w.alloc (.cells #[.int .i64 d.kind, .int .i32 d.r, .slice d.ra d.rn d.rc, .int .i64 d.mn, .int .i64 d.mx, .bool d.lz, .int .i64 d.cp, .string d.nm, .slice d.ka d.kn d.kc] 33)).drew = W from HW.out.symm]
  clear p0 p1 p2 p3 p4 p5 p6 p7 p8 c0 c9
  go_wp2_with fail
  generalize rpB d.kind X.r X.n i = pb at *
  have hb0 : Below W2.heap.size W2 W2 := Below.refl _ _
  have hS3 : ∀ v, (W2.setCell ⟨g, i, none⟩ v).cell? ⟨w.heap.size, 0, none⟩ = some (.int .i64 d.kind) ∧ (W2.setCell ⟨g, i, none⟩ v).cell? ⟨X.H, 1, none⟩ = some (.slice X.sa X.n X.sc) := fun v => ⟨by rw [World.cell?_setCell_other _ _ _ _ (fun e => hgB (by injection e))]; exact x0, by rw [World.cell?_setCell_other _ _ _ _ (fun e => hgH (by injection e))]; exact v1⟩
  go_region_held3 (fun w' => w'.cell? ⟨w.heap.size, 0, none⟩ = some (.int .i64 d.kind) ∧ w'.cell? ⟨X.H, 1, none⟩ = some (.slice X.sa X.n X.sc)) (first | exact ⟨x0, v1⟩ | exact hS3 _) (first | (go_at_call 79; go_fit (HPL.out _ (by assumption)); rintro e w3 ⟨rfl, hw3⟩; subst hw3) | (go_at_call 79; go_fit (HPL.out _ (Below.drew (by assumption))); rintro e w3 ⟨rfl, hw3⟩; subst hw3))
  all_goals
    clear hS3 HPL
    go_wp2
    go_ret
    first
      | exact ⟨⟨_, _, rfl, HE2.out.1⟩, HE2.out.2⟩
      | exact ⟨⟨_, _, rfl, HE.out.1⟩, HE.out.2⟩
end Go.Proofs.Ytbciclnffokjjaa
