/- A bundle of texts. -/
import Derived.Test.YtbciclnffokjjaaBm22
/- The reference's sheet: rows of nodes; a sheet that is being laid. -/
namespace Go.Proofs.Ytbciclnffokjjaa
open Go.RowKit Go.Lib

/-- A row of things of several cells each. -/
def nR (c : Nat → List Value) (n : Nat) : List Value := (List.range n).flatMap c
theorem nR_succ (c : Nat → List Value) (n : Nat) : nR c (n + 1) = nR c n ++ c n := by
  unfold nR
  rw [List.range_succ, List.flatMap_append]
  simp
theorem nR_len {c : Nat → List Value} {W : Nat} (h : ∀ j, (c j).length = W) (n : Nat) : (nR c n).length = n * W := by
  induction n with
  | zero => simp [nR]
  | succ n ih => rw [nR_succ, List.length_append, ih, h, Nat.add_mul, Nat.one_mul]
theorem nR_congr {c d : Nat → List Value} (n : Nat) (h : ∀ j, j < n → c j = d j) : nR c n = nR d n := by
  induction n with
  | zero => rfl
  | succ n ih => rw [nR_succ, nR_succ, ih (fun j hj => h j (by omega)), h n (by omega)]
theorem nR_get {c : Nat → List Value} {W : Nat} (h : ∀ j, (c j).length = W) : ∀ (n j k : Nat), j < n → k < W → (nR c n)[j * W + k]? = (c j)[k]?
  | 0, j, k, hj, _ => by omega
  | n + 1, j, k, hj, hk => by
    rw [nR_succ]
    by_cases e : j = n
    · subst e
      rw [List.getElem?_append_right (by rw [nR_len h]; omega), nR_len h]
      congr 1
      omega
    · have h1 : j * W + k < n * W := by
        have : (j + 1) * W ≤ n * W := Nat.mul_le_mul_right _ (by omega)
        rw [Nat.add_mul, Nat.one_mul] at this
        omega
      rw [List.getElem?_append_left (by rw [nR_len h]; exact h1)]
      exact nR_get h n j k (by omega) hk
theorem nR_set {c : Nat → List Value} {W : Nat} (h : ∀ j, (c j).length = W) : ∀ (n j k : Nat) (v : Value), j < n → k < W → (nR c n).set (j * W + k) v = nR (up c j ((c j).set k v)) n
  | 0, j, k, _, hj, _ => by omega
  | n + 1, j, k, v, hj, hk => by
    rw [nR_succ, nR_succ]
    by_cases e : j = n
    · subst e
      rw [List.set_append_right _ _ (by rw [nR_len h]; omega), nR_len h, up_same, nR_congr (d := c) j (fun i hi => up_other _ _ _ _ (by omega))]
      congr 2
      omega
    · have h1 : j * W + k < n * W := by
        have : (j + 1) * W ≤ n * W := Nat.mul_le_mul_right _ (by omega)
        rw [Nat.add_mul, Nat.one_mul] at this
        omega
      rw [List.set_append_left _ _ (by rw [nR_len h]; exact h1), nR_set h n j k v (by omega) hk, up_other _ _ _ _ (by omega)]

/-- The nodes of a sheet that is being laid. -/
structure Lyd where
  N : Nat
  D : Nat → Nd
  ka : Nat → Option Addr
  kl : Nat → Nat
  kc : Nat → Nat
  kd : Nat → Nat → Nat
  gs : Nat → Nat
  TT : Nat → Tr
  FU : Nat → Nat
def c11 (d : Nd) (ka : Option Addr) (kl kc g n : Nat) : List Value := [.int .i64 d.kind, .int .i32 d.r, .slice d.ra d.rn d.rc, .int .i64 d.mn, .int .i64 d.mx, .bool d.lz, .int .i64 d.cp, .string d.nm, .slice d.ka d.kn d.kc, .slice ka kl kc, .slice (some ⟨g, 0, none⟩) (n + 1) (n + 1)]
def lyC (n : Nat) (y : Lyd) (k : Nat) : List Value := c11 (y.D k) (y.ka k) (y.kl k) (y.kc k) (y.gs k) n
theorem lyC_len (n : Nat) (y : Lyd) (k : Nat) : (lyC n y k).length = 11 := rfl
/-- The first a nodes are the same. -/
structure Agr (a : Nat) (y y' : Lyd) : Prop where
  D : ∀ k, k < a → y'.D k = y.D k
  ka : ∀ k, k < a → y'.ka k = y.ka k
  kl : ∀ k, k < a → y'.kl k = y.kl k
  kc : ∀ k, k < a → y'.kc k = y.kc k
  kd : ∀ k, k < a → y'.kd k = y.kd k
  gs : ∀ k, k < a → y'.gs k = y.gs k
  TT : ∀ k, k < a → y'.TT k = y.TT k
  FU : ∀ k, k < a → y'.FU k = y.FU k
theorem Agr.refl (a : Nat) (y : Lyd) : Agr a y y := ⟨fun _ _ => rfl, fun _ _ => rfl, fun _ _ => rfl, fun _ _ => rfl, fun _ _ => rfl, fun _ _ => rfl, fun _ _ => rfl, fun _ _ => rfl⟩
theorem Agr.trans {a b : Nat} {x y z : Lyd} (h : Agr a x y) (k : Agr b y z) (hab : a ≤ b) : Agr a x z :=
  ⟨fun i hi => (k.D i (by omega)).trans (h.D i hi), fun i hi => (k.ka i (by omega)).trans (h.ka i hi), fun i hi => (k.kl i (by omega)).trans (h.kl i hi), fun i hi => (k.kc i (by omega)).trans (h.kc i hi), fun i hi => (k.kd i (by omega)).trans (h.kd i hi), fun i hi => (k.gs i (by omega)).trans (h.gs i hi), fun i hi => (k.TT i (by omega)).trans (h.TT i hi), fun i hi => (k.FU i (by omega)).trans (h.FU i hi)⟩
theorem Agr.lyC {a n : Nat} {y y' : Lyd} (h : Agr a y y') {k : Nat} (hk : k < a) : lyC n y' k = lyC n y k := by
  unfold Go.Proofs.Ytbciclnffokjjaa.lyC
  rw [h.D k hk, h.ka k hk, h.kl k hk, h.kc k hk, h.gs k hk]
/-- The nodes from a on, up to b, are whole. -/
def LyG (H : Nat) (W0 : World) (y : Lyd) (a b : Nat) : Prop := ∀ k, a ≤ k → k < b → (y.D k = y.TT k [] ∧ y.kl k = (y.D k).kn ∧ WF (y.FU k) (y.TT k) ∧ Tat H W0 (y.TT k)) ∧ ∀ q, q < (y.D k).kn → y.kd k q < b ∧ y.TT (y.kd k q) = kid (y.TT k) q ∧ y.FU (y.kd k q) + 1 = y.FU k
theorem LyG.agr {H : Nat} {W0 : World} {y y' : Lyd} {a b b' : Nat} (h : LyG H W0 y a b) (g : Agr b y y') (hb : b ≤ b') : ∀ k, a ≤ k → k < b → (y'.D k = y'.TT k [] ∧ y'.kl k = (y'.D k).kn ∧ WF (y'.FU k) (y'.TT k) ∧ Tat H W0 (y'.TT k)) ∧ ∀ q, q < (y'.D k).kn → y'.kd k q < b' ∧ y'.TT (y'.kd k q) = kid (y'.TT k) q ∧ y'.FU (y'.kd k q) + 1 = y'.FU k := by
  intro k h1 h2
  obtain ⟨q1, q2⟩ := h k h1 h2
  rw [g.D k h2, g.kl k h2, g.TT k h2, g.FU k h2, g.kd k h2]
  refine ⟨q1, fun q hq => ?_⟩
  obtain ⟨r1, r2, r3⟩ := q2 q hq
  rw [g.TT _ r1, g.FU _ r1]
  exact ⟨by omega, r2, r3⟩
theorem LyG.join {H : Nat} {W0 : World} {y y' : Lyd} {a b b' : Nat} (h : LyG H W0 y a b) (g : Agr b y y') (hb : b ≤ b') (h' : LyG H W0 y' b b') : LyG H W0 y' a b' := fun k h1 h2 => by
  by_cases e : k < b
  · exact h.agr g hb k h1 e
  · exact h' k (by omega) h2
/-- A sheet in memory that is being laid: off the blocks of Z, at S and behind; its own block H. -/
structure LyT (H S n : Nat) (y : Lyd) (nv sv : Value) (Z : Nat → Prop) (w : World) : Prop where
  h0 : w.cell? ⟨H, 0, none⟩ = some nv
  h1 : w.cell? ⟨H, 1, none⟩ = some sv
  hf : w.frozen? ⟨H, 0, none⟩ = false
  hH : H < S
  hS : S ≤ w.heap.size
  hZ : ¬ Z H ∧ ∀ b, nv.ownBlock = some b → ¬ Z b
  row : w.ownsRow S 96 11 nv y.N (nR (lyC n y) y.N)
  sn : ∀ k, k < y.N → (S ≤ y.gs k ∧ y.gs k < w.heap.size ∧ nv.ownBlock ≠ some (y.gs k) ∧ ¬ Z (y.gs k)) ∧ (∀ q, w.frozen? ⟨y.gs k, q, none⟩ = false) ∧ ∀ i, i < n + 1 → w.cell? ⟨y.gs k, i, none⟩ = some (.slice none 0 0)
  two : ∀ k k', k < y.N → k' < y.N → y.gs k = y.gs k' → k = k'
  kd : ∀ k, k < y.N → y.kl k = 0 ∨ ∃ g, y.ka k = some ⟨g, 0, none⟩ ∧ (S ≤ g ∧ g < w.heap.size ∧ nv.ownBlock ≠ some g ∧ ¬ Z g ∧ ∀ k', k' < y.N → y.gs k' ≠ g) ∧ ∀ j, j < y.kl k → w.cell? ⟨g, j, none⟩ = some (.int .i64 (y.kd k j : Int))
namespace LyT
variable {H S n : Nat} {y : Lyd} {nv sv : Value} {Z Z' : Nat → Prop} {w w' : World}
/-- What is changed lies off the sheet. -/
theorem kp (h : LyT H S n y nv sv Z w) (k : Kp Z w w') (hz : ∀ b, b < w.heap.size → Z' b → Z b) : LyT H S n y nv sv Z' w' := by
  have hHs : H < w.heap.size := Nat.lt_of_lt_of_le h.hH h.hS
  refine ⟨k.cell h.h0 h.hZ.1, k.cell h.h1 h.hZ.1, k.frozen h.h0 h.hf h.hZ.1, h.hH, Nat.le_trans h.hS k.size, ⟨fun e => h.hZ.1 (hz H hHs e), fun b e e2 => h.hZ.2 b e (hz b (h.row.lt b e).2 e2)⟩, k.row h.row (fun b e => h.hZ.2 b e), fun i hi => ?_, h.two, fun i hi => ?_⟩
  · obtain ⟨⟨a1, a2, a3, a4⟩, a5, a6⟩ := h.sn i hi
    refine ⟨⟨a1, Nat.lt_of_lt_of_le a2 k.size, a3, fun e => a4 (hz _ a2 e)⟩, fun q => ?_, fun q hq => k.cell (a6 q hq) a4⟩
    rw [World.frozen?_of_block (w := w) (k.block _ a2 a4)]
    exact a5 q
  · refine (h.kd i hi).imp id (fun ⟨g, e, ⟨a1, a2, a3, a4, a5⟩, hc⟩ => ⟨g, e, ⟨a1, Nat.lt_of_lt_of_le a2 k.size, a3, fun e => a4 (hz _ a2 e), a5⟩, fun j hj => k.cell (hc j hj) a4⟩)
/-- One node more: w1 is the world in which its row of nils is laid, w2 that behind the append, w3 that behind the store. -/
theorem push (h : LyT H S n y nv sv Z w) {w1 w2 : World} {g gr cr : Nat} {d : Nd} {t : Tr} {m : Nat} (k1 : Kp (fun _ => False) w w1) (hg : w.heap.size ≤ g ∧ g < w1.heap.size) (hfz : ∀ q, w1.frozen? ⟨g, q, none⟩ = false) (hnil : ∀ i, i < n + 1 → w1.cell? ⟨g, i, none⟩ = some (.slice none 0 0)) (hZl : ∀ b, Z b → b < w.heap.size)
    (o2 : w2.ownsRow S 96 11 (.slice (some ⟨gr, 0, none⟩) (y.N + 1) cr) (y.N + 1) (nR (lyC n y) y.N ++ c11 d none 0 0 g n)) (k2 : Kp (fun b => nv.ownBlock = some b) w1 w2) (hgr : nv.ownBlock = some gr ∨ w1.heap.size ≤ gr) :
    ∃ y', Agr y.N y y' ∧ y'.N = y.N + 1 ∧ (y'.D y.N = d ∧ y'.TT y.N = t ∧ y'.FU y.N = m ∧ y'.kl y.N = 0) ∧ LyT H S n y' (.slice (some ⟨gr, 0, none⟩) (y.N + 1) cr) sv Z (w2.setCell ⟨H, 0, none⟩ (.slice (some ⟨gr, 0, none⟩) (y.N + 1) cr)) ∧ Kp (fun b => b = H ∨ nv.ownBlock = some b) w (w2.setCell ⟨H, 0, none⟩ (.slice (some ⟨gr, 0, none⟩) (y.N + 1) cr)) := by
  obtain ⟨y', hy⟩ : ∃ y' : Lyd, y' = ⟨y.N + 1, up y.D y.N d, up y.ka y.N none, up y.kl y.N 0, up y.kc y.N 0, up y.kd y.N (fun _ => 0), up y.gs y.N g, up y.TT y.N t, up y.FU y.N m⟩ := ⟨_, rfl⟩
  have ag : Agr y.N y y' := by
    rw [hy]
    exact ⟨fun k hk => up_other _ _ _ _ (by omega), fun k hk => up_other _ _ _ _ (by omega), fun k hk => up_other _ _ _ _ (by omega), fun k hk => up_other _ _ _ _ (by omega), fun k hk => up_other _ _ _ _ (by omega), fun k hk => up_other _ _ _ _ (by omega), fun k hk => up_other _ _ _ _ (by omega), fun k hk => up_other _ _ _ _ (by omega)⟩
  have hHs : H < w.heap.size := Nat.lt_of_lt_of_le h.hH h.hS
  have hown : ∀ b, nv.ownBlock = some b → S ≤ b ∧ b < w.heap.size := fun b e => h.row.lt b e
  have hgrS := (o2.lt gr rfl)
  have s1 := k1.size
  have s2 := k2.size
  have hHnv : nv.ownBlock ≠ some H := fun e => by have := hown H e; have := h.hH; omega
  obtain ⟨w3, hw3⟩ : ∃ w3, w3 = w2.setCell ⟨H, 0, none⟩ (.slice (some ⟨gr, 0, none⟩) (y.N + 1) cr) := ⟨_, rfl⟩
  have k3 : Kp (fun b => b = H) w2 w3 := by rw [hw3]; exact (Kp.refl (fun b => b = H) w2).setCell (p := ⟨H, 0, none⟩) (show H = H from rfl) _
  have s3 := k3.size
  have k12 : Kp (fun b => nv.ownBlock = some b) w w2 := (k1.mono (fun _ _ e => e.elim)).trans k2
  have ka : Kp (fun b => b = H ∨ nv.ownBlock = some b) w w3 := (k12.mono (fun _ _ e => .inr e)).trans (k3.mono (fun _ _ e => .inl e))
  have kb : Kp (fun b => b = H ∨ nv.ownBlock = some b) w1 w3 := (k2.mono (fun _ _ e => .inr e)).trans (k3.mono (fun _ _ e => .inl e))
  rw [← hw3]
  have hc2 : w2.cell? ⟨H, 0, none⟩ = some nv := k12.cell h.h0 hHnv
  have hnew : ∀ b, b < w.heap.size → nv.ownBlock ≠ some b → gr ≠ b := fun b hb e e2 => by
    rcases hgr with e3 | e3
    · exact e (by rw [e3, e2])
    · omega
  refine ⟨y', ag, by rw [hy], by rw [hy]; exact ⟨up_same _ _ _, up_same _ _ _, up_same _ _ _, up_same _ _ _⟩, ⟨?_, ?_, ?_, h.hH, by have := h.hS; omega, ⟨h.hZ.1, fun b e => ?_⟩, ?_, fun k hk => ?_, fun k k' hk hk' e => ?_, fun k hk => ?_⟩, ka⟩
  · rw [hw3]
    exact World.cell?_setCell_same _ _ _ hc2
  · rw [hw3, World.cell?_setCell_other _ _ _ _ (fun e => by injection e with _ e2; cases e2)]
    exact k12.cell h.h1 hHnv
  · rw [hw3, World.frozen?_setCell]
    exact k12.frozen h.h0 h.hf hHnv
  · have e' : gr = b := Option.some.inj e
    rcases hgr with e3 | e3
    · rw [← e']; exact h.hZ.2 gr e3
    · intro e4
      have := hZl b e4
      omega
  · have e1 : nR (lyC n y') y'.N = nR (lyC n y) y.N ++ c11 d none 0 0 g n := by
      rw [hy]
      show nR _ (y.N + 1) = _
      rw [nR_succ, ← hy, nR_congr y.N (fun j hj => ag.lyC hj)]
      congr 1
      rw [hy]
      show c11 (up y.D y.N d y.N) (up y.ka y.N none y.N) (up y.kl y.N 0 y.N) (up y.kc y.N 0 y.N) (up y.gs y.N g y.N) n = _
      rw [up_same, up_same, up_same, up_same, up_same]
    rw [e1, show y'.N = y.N + 1 by rw [hy]]
    exact k3.row o2 (fun b e e2 => by
      have e3 : gr = b := Option.some.inj e
      have e4 : b = H := e2
      have := h.hH
      omega)
  · have hkk : k = y.N ∨ k < y.N := by rw [hy] at hk; dsimp only at hk; omega
    rcases hkk with rfl | hk'
    · have eg : y'.gs y.N = g := by rw [hy]; exact up_same _ _ _
      have gH : ¬ (g = H ∨ nv.ownBlock = some g) := fun e => e.elim (fun e => by omega) (fun e => by have := hown g e; omega)
      rw [eg]
      refine ⟨⟨by have := h.hS; omega, by omega, fun e => ?_, fun e => by have := hZl g e; omega⟩, fun q => ?_, fun i hi => kb.cell (hnil i hi) gH⟩
      · have e2 : gr = g := Option.some.inj e
        rcases hgr with e3 | e3
        · have := hown gr e3; omega
        · omega
      · rw [World.frozen?_of_block (w := w1) (kb.block _ hg.2 gH)]
        exact hfz q
    · obtain ⟨⟨a1, a2, a3, a4⟩, a5, a6⟩ := h.sn k hk'
      rw [ag.gs k hk']
      have nH : ¬ (y.gs k = H ∨ nv.ownBlock = some (y.gs k)) := fun e => e.elim (fun e => by have := h.hH; omega) a3
      refine ⟨⟨a1, by omega, fun e => ?_, a4⟩, fun q => ?_, fun i hi => ka.cell (a6 i hi) nH⟩
      · have e2 : gr = y.gs k := Option.some.inj e
        exact hnew _ a2 a3 e2
      · rw [World.frozen?_of_block (w := w) (ka.block _ a2 nH)]
        exact a5 q
  · have hkk : k = y.N ∨ k < y.N := by rw [hy] at hk; dsimp only at hk; omega
    have hkk' : k' = y.N ∨ k' < y.N := by rw [hy] at hk'; dsimp only at hk'; omega
    have eg : y'.gs y.N = g := by rw [hy]; exact up_same _ _ _
    rcases hkk with rfl | h1
    · rcases hkk' with rfl | h2
      · rfl
      · rw [eg, ag.gs k' h2] at e
        have := (h.sn k' h2).1.2.1
        omega
    · rcases hkk' with rfl | h2
      · rw [eg, ag.gs k h1] at e
        have := (h.sn k h1).1.2.1
        omega
      · rw [ag.gs k h1, ag.gs k' h2] at e
        exact h.two k k' h1 h2 e
  · have hkk : k = y.N ∨ k < y.N := by rw [hy] at hk; dsimp only at hk; omega
    rcases hkk with rfl | hk'
    · exact .inl (by rw [hy]; exact up_same _ _ _)
    · rw [ag.kl k hk', ag.ka k hk', ag.kd k hk']
      refine (h.kd k hk').imp id (fun ⟨gk, e, ⟨a1, a2, a3, a4, a5⟩, hc⟩ => ⟨gk, e, ⟨a1, by omega, fun e => ?_, a4, fun k2 hk2 => ?_⟩, fun j hj => ?_⟩)
      · have e2 : gr = gk := Option.some.inj e
        exact hnew _ a2 a3 e2
      · have hkk2 : k2 = y.N ∨ k2 < y.N := by rw [hy] at hk2; dsimp only at hk2; omega
        rcases hkk2 with rfl | h2
        · have eg : y'.gs y.N = g := by rw [hy]; exact up_same _ _ _
          rw [eg]; omega
        · rw [ag.gs k2 h2]; exact a5 k2 h2
      · exact ka.cell (hc j hj) (fun e => e.elim (fun e => by have e3 : gk = H := e; have := h.hH; omega) a3)
/-- A node's kids are put down. -/
theorem shut {gr cr : Nat} {kv : Value} (h : LyT H S n y (.slice (some ⟨gr, 0, none⟩) y.N cr) sv (fun b => Z b ∨ kv.ownBlock = some b) w) {k0 kn kc0 : Nat} {ks : Option Addr} {js : List Nat} (hk0 : k0 < y.N) (hkv : kv = .slice ks kn kc0) {T : Nat} (hT : S ≤ T) (ok : w.ownsRow T 3 1 kv kn (jc js)) (hZk : ∀ b, kv.ownBlock = some b → ¬ Z b) :
    ∃ y' : Lyd, (y'.N = y.N ∧ (∀ k, k ≠ k0 → y'.ka k = y.ka k ∧ y'.kl k = y.kl k ∧ y'.kc k = y.kc k ∧ y'.kd k = y.kd k) ∧ (∀ k, y'.D k = y.D k ∧ y'.gs k = y.gs k ∧ y'.TT k = y.TT k ∧ y'.FU k = y.FU k) ∧ y'.kl k0 = kn ∧ (∀ q, q < kn → js[q]? = some (y'.kd k0 q))) ∧ LyT H S n y' (.slice (some ⟨gr, 0, none⟩) y.N cr) sv Z (w.setCell ⟨gr, k0 * 11 + 9, none⟩ kv) ∧ Kp (fun b => b = gr) w (w.setCell ⟨gr, k0 * 11 + 9, none⟩ kv) := by
  obtain ⟨y', hy⟩ : ∃ y' : Lyd, y' = ⟨y.N, y.D, up y.ka k0 ks, up y.kl k0 kn, up y.kc k0 kc0, up y.kd k0 (fun q => js.getD q 0), y.gs, y.TT, y.FU⟩ := ⟨_, rfl⟩
  obtain ⟨w', hw'⟩ : ∃ w', w' = w.setCell ⟨gr, k0 * 11 + 9, none⟩ kv := ⟨_, rfl⟩
  have kw : Kp (fun b => b = gr) w w' := by rw [hw']; exact (Kp.refl (fun b => b = gr) w).setCell (p := ⟨gr, k0 * 11 + 9, none⟩) (show gr = gr from rfl) _
  have hgr := h.row.lt gr rfl
  have hH := h.hH
  have hsz := kw.size
  have hjl : js.length = kn := by have := ok.1; simpa [jc] using this
  have ho : ∀ k, k ≠ k0 → y'.ka k = y.ka k ∧ y'.kl k = y.kl k ∧ y'.kc k = y.kc k ∧ y'.kd k = y.kd k := fun k hk => by
    rw [hy]
    exact ⟨up_other _ _ _ _ hk, up_other _ _ _ _ hk, up_other _ _ _ _ hk, up_other _ _ _ _ hk⟩
  have hs : ∀ k, y'.D k = y.D k ∧ y'.gs k = y.gs k ∧ y'.TT k = y.TT k ∧ y'.FU k = y.FU k := fun k => by rw [hy]; exact ⟨rfl, rfl, rfl, rfl⟩
  have hN : y'.N = y.N := by rw [hy]
  have e1 : y'.ka k0 = ks := by rw [hy]; exact up_same _ _ _
  have e2 : y'.kl k0 = kn := by rw [hy]; exact up_same _ _ _
  have e3 : y'.kc k0 = kc0 := by rw [hy]; exact up_same _ _ _
  have e4 : y'.kd k0 = fun q => js.getD q 0 := by rw [hy]; exact up_same _ _ _
  have hjs : ∀ q, q < kn → js[q]? = some (y'.kd k0 q) := fun q hq => by
    rw [e4]
    dsimp only
    rw [List.getD_eq_getElem?_getD, List.getElem?_eq_getElem (by omega)]
    rfl
  clear hy
  rw [← hw']
  have hrow : w'.ownsRow S 96 11 (.slice (some ⟨gr, 0, none⟩) y.N cr) y.N (nR (lyC n y') y.N) := by
    have o := (World.ownsRow.stored h.row (k0 * 11 + 9) kv).1
    rw [nR_set (lyC_len n y) y.N k0 9 kv hk0 (by omega)] at o
    rw [hw']
    rw [nR_congr (c := lyC n y') (d := up (lyC n y) k0 ((lyC n y k0).set 9 kv)) y.N (fun j hj => ?_)]
    · exact o
    · by_cases e : j = k0
      · subst e
        rw [up_same]
        unfold lyC
        rw [(hs j).1, (hs j).2.1, e1, e2, e3, hkv]
        rfl
      · rw [up_other _ _ _ _ e]
        unfold lyC
        rw [(hs j).1, (hs j).2.1, (ho j e).1, (ho j e).2.1, (ho j e).2.2.1]
  refine ⟨y', ⟨hN, ho, hs, e2, hjs⟩, ⟨kw.cell h.h0 (fun e => by have e' : H = gr := e; omega), kw.cell h.h1 (fun e => by have e' : H = gr := e; omega), kw.frozen h.h0 h.hf (fun e => by have e' : H = gr := e; omega), h.hH, Nat.le_trans h.hS kw.size, ⟨fun e => h.hZ.1 (.inl e), fun b e e2 => h.hZ.2 b e (.inl e2)⟩, by rw [hN]; exact hrow, fun k hk => ?_, fun k k' hk hk' e => ?_, fun k hk => ?_⟩, kw⟩
  · rw [hN] at hk
    obtain ⟨⟨a1, a2, a3, a4⟩, a5, a6⟩ := h.sn k hk
    have ne : ¬ (y.gs k = gr) := fun e => a3 (by rw [e]; rfl)
    rw [(hs k).2.1]
    refine ⟨⟨a1, by omega, a3, fun e => a4 (.inl e)⟩, fun q => ?_, fun i hi => kw.cell (a6 i hi) ne⟩
    rw [World.frozen?_of_block (w := w) (kw.block _ a2 ne)]
    exact a5 q
  · rw [hN] at hk hk'
    rw [(hs k).2.1, (hs k').2.1] at e
    exact h.two k k' hk hk' e
  · rw [hN] at hk
    by_cases e : k = k0
    · subst e
      rw [e2, e1]
      by_cases h0 : kn = 0
      · exact .inl h0
      · refine .inr ?_
        rcases ok.2 with ⟨_, h9⟩ | ⟨g, cap, cur, e9, hB, hg, _⟩
        · exact absurd h9 h0
        · have hob : kv.ownBlock = some g := by rw [e9]; rfl
          have hks : ks = some ⟨g, 0, none⟩ := by
            rw [hkv] at e9
            cases e9
            rfl
          have hgl : g < w.heap.size := (Array.getElem?_eq_some_iff.1 hg).1
          have hngr : g ≠ gr := fun e => h.hZ.2 gr rfl (.inr (by rw [hob, e]))
          refine ⟨g, hks, ⟨by omega, by omega, fun e => hngr (Option.some.inj e).symm, hZk g hob, fun k' hk' e => ?_⟩, fun j hj => ?_⟩
          · rw [hN] at hk'
            rw [(hs k').2.1] at e
            exact (h.sn k' hk').1.2.2.2 (.inr (by rw [hob, e]))
          · have okg := ok
            rw [e9] at okg
            have := World.ownsRow.cellAt okg j (by omega)
            rw [jc_get js j _ (hjs j hj)] at this
            exact kw.cell this (fun e => hngr e)
    · rw [(ho k e).2.1, (ho k e).1, (ho k e).2.2.2]
      refine (h.kd k hk).imp id (fun ⟨g, e', ⟨a1, a2, a3, a4, a5⟩, hc⟩ => ⟨g, e', ⟨a1, by omega, a3, fun e => a4 (.inl e), fun k' hk' => ?_⟩, fun j hj => kw.cell (hc j hj) (fun e => a3 (by have e'' : g = gr := e; rw [e'']; rfl))⟩)
      rw [hN] at hk'
      rw [(hs k').2.1]
      exact a5 k' hk'
end LyT
end Go.Proofs.Ytbciclnffokjjaa
/- The reference's lay: what it keeps while it goes on. -/
namespace Go.Proofs.Ytbciclnffokjjaa
open Go.RowKit Go.Lib

theorem inf72 : (Try.prog.info? 72).map (fun i => (i.zero, i.size, i.bytes)) = some (some (.slice none 0 0), 1, 24) := by kernel_rfl
theorem inf96 : (Try.prog.info? 96).map (fun i => (i.zero, i.size, i.bytes)) = some (some (.agg #[.int .i64 0, .int .i32 0, .slice none 0 0, .int .i64 0, .int .i64 0, .bool false, .int .i64 0, .string ⟨#[]⟩, .slice none 0 0, .slice none 0 0, .slice none 0 0]), 11, 160) := by kernel_rfl
/-- A row of nils. -/
theorem make_s (w : World) (n : Nat) (hn : n ≤ 1000000) : ∃ w', (Instr.makeSlice 94 (.int .i64 (n : Int)) (.int .i64 (n : Int))).run Try.prog w = .ok (.slice (some ⟨w.heap.size, 0, none⟩) n n) w' ∧ (w.heap.size < w'.heap.size ∧ (∀ q, w'.frozen? ⟨w.heap.size, q, none⟩ = false) ∧ ∀ i, i < n → w'.cell? ⟨w.heap.size, i, none⟩ = some (.slice none 0 0)) ∧ Below w.heap.size w w' := by
  obtain ⟨i0, hi, hz0, hz1, hz2⟩ := info_parts inf72
  obtain ⟨w1, r, o, g⟩ := run_make_full (P := Try.prog) w w.heap.size 94 72 i0 (.slice none 0 0) 1 Try.underlying94 hi hz0 hz1 .i64 .i64 n (by rw [hz2]; omega) (by unfold maxLen; omega) (Nat.le_refl _)
  refine ⟨w1, r, ⟨(o.lt _ rfl).2, World.ownsRow.frozenAt o, fun i hi => ?_⟩, (Below.refl _ w).grown g (Nat.le_refl _) (fun k hk => by cases hk)⟩
  rw [World.ownsRow.cellAt o i (by omega), Nat.mul_one, show (Value.slice none 0 0).cells = #[.slice none 0 0] from rfl, toList_madeCells_one]
  simp [hi]
abbrev nX (d : Nd) (g n : Nat) : Obj := .cells #[.int .i64 d.kind, .int .i32 d.r, .slice d.ra d.rn d.rc, .int .i64 d.mn, .int .i64 d.mx, .bool d.lz, .int .i64 d.cp, .string d.nm, .slice d.ka d.kn d.kc, .slice none 0 0, .slice (some ⟨g, 0, none⟩) (n + 1) (n + 1)] 96
/-- One node more. -/
theorem append_11 (w : World) (S : Nat) (v : Value) (N : Nat) (xs : List Value) (d : Nd) (gg n : Nat) (hS : S ≤ w.heap.size) (hn : (N + 1) * 160 ≤ 140737488355328) (o : w.ownsRow S 96 11 v N xs) :
    ∃ g c w', (Builtin.append_ #[69, 69] 69 #[v, .slice (some ⟨w.heap.size, 0, none⟩) 1 1]).run Try.prog (w.alloc (nX d gg n)) = .ok (.slice (some ⟨g, 0, none⟩) (N + 1) c) w' ∧ w'.ownsRow S 96 11 (.slice (some ⟨g, 0, none⟩) (N + 1) c) (N + 1) (xs ++ c11 d none 0 0 gg n) ∧ Kp (fun k => v.ownBlock = some k) w w' ∧ (v.ownBlock = some g ∨ w.heap.size ≤ g) := by
  obtain ⟨i0, hi, hz0, hz1, hz2⟩ := info_parts inf96
  have o0 := World.ownsRow.alloc o (nX d gg n)
  have e : (w.alloc (nX d gg n)).heap[w.heap.size]? = some (nX d gg n) := heap_alloc_new w _
  obtain ⟨v', w', r, o', g, _, h5⟩ := run_append_own_at (P := Try.prog) (w.alloc (nX d gg n)) S 69 69 96 i0 _ 11 160 Try.underlying69 hi hz0 hz1 hz2 rfl (by decide) _ N xs o0 ⟨w.heap.size, 0, none⟩ 1 1 (c11 d none 0 0 gg n) (by rfl)
    (fun j u hj => by
      rw [Go.WideShapes.add_plain, Nat.zero_add]
      unfold World.cell?
      rw [e]
      unfold c11 at hj
      simpa using hj) (by intro u hu; unfold c11 at hu; simp at hu; rcases hu with rfl | rfl | rfl | rfl | rfl | rfl | rfl | rfl | rfl | rfl | rfl <;> rfl) (by unfold maxLen; omega) hn (by simp; omega)
  rcases o'.2 with ⟨_, h0⟩ | ⟨G, C, cur, rfl, _⟩
  · omega
  · refine ⟨G, C, w', r, o', ((Kp.refl _ w).alloc _).grown g (fun k hk _ => hk), ?_⟩
    rcases h5 with h5 | h5
    · exact .inl (h5.symm.trans rfl)
    · have h6 : G = (w.alloc (nX d gg n)).heap.size := Option.some.inj h5
      rw [World.size_alloc] at h6
      exact .inr (by omega)
/-- How a call of lay ends. -/
def LyP (m : Nat) (t : Tr) (H S n : Nat) (y : Lyd) (nv sv : Value) (s1 : St) (Z : Nat → Prop) (W0 w w' : World) : Prop :=
  ∃ y' nv', LyT H S n y' nv' sv Z w' ∧ y'.N = s1.k ∧ Agr y.N y y' ∧ LyG H W0 y' y.N y'.N ∧ (y.N < y'.N ∧ y'.TT y.N = t ∧ y'.FU y.N = m) ∧ Kp (fun b => b = H ∨ nv.ownBlock = some b) w w' ∧ (∀ b, nv'.ownBlock = some b → nv.ownBlock = some b ∨ w.heap.size ≤ b)
def LyK (m : Nat) : Prop := ∀ (t : Tr) (op : Int) (s s1 : St) (H S n : Nat) (y : Lyd) (nv : Value) (sa : Option Addr) (sc : Nat) (W0 w : World) (Z : Nat → Prop), vd m t op s = some s1 → WF m t → Tat H W0 t → Below H W0 w → LyT H S n y nv (.slice sa n sc) Z w → (∀ b, Z b → b < w.heap.size) → y.N = s.k → n ≤ 100000 →
  Calls Try.prog 33 #[.pointer (some ⟨H, 0, none⟩), ndV (t [])] w fun e w' => e = .returned (.int .i64 (y.N : Int)) ∧ Hid (LyP m t H S n y nv (.slice sa n sc) s1 Z W0 w w')
/-- lay under way: i kids are laid. -/
structure LyI (m : Nat) (t : Tr) (op : Int) (s2 : St) (H S n : Nat) (y0 : Lyd) (nv0 sv : Value) (Z : Nat → Prop) (W0 w : World) (i : Nat) (kv : Value) (w' : World) : Prop where
  ex : ∃ (y : Lyd) (nv : Value) (si : St) (js : List Nat), (vds (vd m) t op i s2 = some si ∧ y.N = si.k) ∧ LyT H S n y nv sv (fun b => (Z b ∨ b = w.heap.size) ∨ kv.ownBlock = some b) w' ∧ Agr y0.N y0 y ∧ (y0.N < y.N ∧ y.D y0.N = t [] ∧ y.TT y0.N = t ∧ y.FU y0.N = m + 1) ∧ LyG H W0 y (y0.N + 1) y.N ∧ (js.length = i ∧ ∀ q x, js[q]? = some x → x < y.N ∧ y.TT x = kid t q ∧ y.FU x = m) ∧ w'.ownsRow (w.heap.size + 1) 3 1 kv i (jc js) ∧ (∀ b, nv.ownBlock = some b → nv0.ownBlock = some b ∨ w.heap.size ≤ b)
  bx : w'.cell? ⟨w.heap.size, 8, none⟩ = some (.slice (t []).ka (t []).kn (t []).kc)
  kp : Kp (fun b => b = H ∨ nv0.ownBlock = some b) w w'
  lt : w.heap.size < w'.heap.size
theorem vds_some {F : Tr → Int → St → Option St} {t : Tr} {op : Int} {s s1 : St} {n : Nat} (h : vds F t op n s = some s1) (i : Nat) (hi : i ≤ n) : ∃ si, vds F t op i s = some si := by
  cases e : vds F t op i s with
  | none => rw [vds_none e hi] at h; cases h
  | some si => exact ⟨si, rfl⟩
/-- The first step: the node's row. -/
theorem LyI.start {m : Nat} {t : Tr} {op : Int} {s s2 : St} {H S n : Nat} {y : Lyd} {nv : Value} {sv : Value} {Z : Nat → Prop} {W0 w wB W1 w2 : World} {g gr cr : Nat}
    (hv : LyT H S n y nv sv Z w) (hZ : ∀ b, Z b → b < w.heap.size) (hN : y.N = s.k) (hm : mid (t []) { s with k := s.k + 1 } = some s2)
    (kB : Below w.heap.size w wB) (hB : w.heap.size < wB.heap.size) (hbx : wB.cell? ⟨w.heap.size, 8, none⟩ = some (.slice (t []).ka (t []).kn (t []).kc))
    (k1 : Below wB.heap.size wB W1) (hg : wB.heap.size ≤ g ∧ g < W1.heap.size) (hfz : ∀ q, W1.frozen? ⟨g, q, none⟩ = false) (hnil : ∀ i, i < n + 1 → W1.cell? ⟨g, i, none⟩ = some (.slice none 0 0))
    (o2 : w2.ownsRow S 96 11 (.slice (some ⟨gr, 0, none⟩) (y.N + 1) cr) (y.N + 1) (nR (lyC n y) y.N ++ c11 (t []) none 0 0 g n)) (k2 : Kp (fun b => nv.ownBlock = some b) W1 w2) (hgr : nv.ownBlock = some gr ∨ W1.heap.size ≤ gr) :
    LyI m t op s2 H S n y nv sv Z W0 w 0 (.slice none 0 0) (w2.setCell ⟨H, 0, none⟩ (.slice (some ⟨gr, 0, none⟩) (y.N + 1) cr)) := by
  have hvB : LyT H S n y nv sv (fun b => Z b ∨ b = w.heap.size) wB := hv.kp (Kp.of kB) (fun b hb e => e.elim id (fun e => by omega))
  obtain ⟨y', ag, eN, ⟨e1, e2, e3, e4⟩, hl, hk⟩ := hvB.push (d := t []) (t := t) (m := m + 1) (Kp.of k1) hg hfz hnil (fun b e => e.elim (fun e => by have := hZ b e; omega) (fun e => by omega)) o2 k2 hgr
  have hHs : H < w.heap.size := Nat.lt_of_lt_of_le hv.hH hv.hS
  have hsz := kB.size
  have hszk := hk.size
  refine ⟨⟨y', _, s2, [], ⟨rfl, by rw [eN, mid_k hm, hN]⟩, hl.kp (Kp.refl _ _) (fun b _ e => e.elim id (fun e => by cases e)), ag, ⟨by omega, e1, e2, e3⟩, fun k h1 h2 => by omega, ⟨rfl, fun q x e => by cases e⟩, World.ownsRow_nil _ _ _ _, fun b e => ?_⟩, ?_, ?_, by omega⟩
  · have e' : gr = b := Option.some.inj e
    rcases hgr with h | h
    · exact .inl (by rw [← e']; exact h)
    · exact .inr (by have := k1.size; omega)
  · exact hk.cell hbx (fun e => e.elim (fun e => by have e' : w.heap.size = H := e; omega) (fun e => by have := (hv.row.lt _ e).2; have e' : (⟨w.heap.size, 8, none⟩ : Addr).block = w.heap.size := rfl; omega))
  · exact (Kp.of kB).trans hk
/-- One kid more. -/
theorem LyI.next {m : Nat} {t : Tr} {op : Int} {s2 sj : St} {H S n : Nat} {y0 y : Lyd} {nv0 nv sv : Value} {Z : Nat → Prop} {W0 w : World} {i : Nat} {kv : Value} {w' : World} {js : List Nat} (h : LyI m t op s2 H S n y0 nv0 sv Z W0 w i kv w')
    (hv : LyT H S n y nv sv (fun b => (Z b ∨ b = w.heap.size) ∨ kv.ownBlock = some b) w') (hag : Agr y0.N y0 y) (htop : y0.N < y.N ∧ y.D y0.N = t [] ∧ y.TT y0.N = t ∧ y.FU y0.N = m + 1) (hg : LyG H W0 y (y0.N + 1) y.N) (hjs : js.length = i ∧ ∀ q x, js[q]? = some x → x < y.N ∧ y.TT x = kid t q ∧ y.FU x = m) (hrow : w'.ownsRow (w.heap.size + 1) 3 1 kv i (jc js)) (hnv : ∀ b, nv.ownBlock = some b → nv0.ownBlock = some b ∨ w.heap.size ≤ b)
    (hH : H < w.heap.size) (hsj : vds (vd m) t op (i + 1) s2 = some sj)
    {w5 w7 : World} {g c : Nat} (hp : LyP m (kid t i) H S n y nv sv sj (fun b => (Z b ∨ b = w.heap.size) ∨ kv.ownBlock = some b) W0 w' w5)
    (o7 : w7.ownsRow (w.heap.size + 1) 3 1 (.slice (some ⟨g, 0, none⟩) (i + 1) c) (i + 1) (jc (js ++ [y.N]))) (k7 : Kp (fun k => kv.ownBlock = some k) w5 w7) (hg7 : kv.ownBlock = some g ∨ w5.heap.size ≤ g) :
    LyI m t op s2 H S n y0 nv0 sv Z W0 w (i + 1) (.slice (some ⟨g, 0, none⟩) (i + 1) c) w7 := by
  obtain ⟨y', nv', l5, eN, ag, g5, ⟨t1, t2, t3⟩, k5, ow⟩ := hp
  have hkv : ∀ b, kv.ownBlock = some b → w.heap.size + 1 ≤ b ∧ b < w'.heap.size := fun b e => hrow.lt b e
  have s5 := k5.size
  have s7 := k7.size
  have hlt := h.lt
  have kall : Kp (fun b => (b = H ∨ nv.ownBlock = some b) ∨ kv.ownBlock = some b) w' w7 := (k5.mono (fun _ _ e => .inl e)).trans (k7.mono (fun _ _ e => .inr e))
  have nB : nv.ownBlock ≠ some w.heap.size := fun e => hv.hZ.2 _ e (.inl (.inr rfl))
  refine ⟨⟨y', nv', sj, js ++ [y.N], ⟨hsj, eN⟩, ?_, hag.trans ag (by omega), ⟨by omega, ?_, ?_, ?_⟩, ?_, ⟨by simp [hjs.1], fun q x e => ?_⟩, o7, fun b e => ?_⟩, ?_, ?_, by omega⟩
  · refine l5.kp (k7.mono (fun b _ e => .inr e)) (fun b hb e => ?_)
    rcases e with e | e
    · exact .inl e
    · have e' : g = b := Option.some.inj e
      rcases hg7 with h7 | h7
      · exact .inr (by rw [← e']; exact h7)
      · omega
  · rw [ag.D _ htop.1]; exact htop.2.1
  · rw [ag.TT _ htop.1]; exact htop.2.2.1
  · rw [ag.FU _ htop.1]; exact htop.2.2.2
  · exact hg.join ag (by omega) g5
  · by_cases hq : q < js.length
    · rw [List.getElem?_append_left hq] at e
      obtain ⟨r1, r2, r3⟩ := hjs.2 q x e
      rw [ag.TT x r1, ag.FU x r1]
      exact ⟨by omega, r2, r3⟩
    · rw [List.getElem?_append_right (by omega)] at e
      have hq2 : q - js.length = 0 := by
        by_cases h0 : q - js.length = 0
        · exact h0
        · rw [List.getElem?_eq_none (by simp; omega)] at e; cases e
      rw [hq2] at e
      have ex : y.N = x := Option.some.inj e
      have eq : q = i := by omega
      rw [← ex, eq]
      exact ⟨t1, t2, t3⟩
  · rcases ow b e with h1 | h1
    · exact hnv b h1
    · exact .inr (by have := h.kp.size; omega)
  · refine kall.cell h.bx (fun e => ?_)
    rcases e with (e | e) | e
    · have e' : w.heap.size = H := e; omega
    · exact nB e
    · have := (hkv _ e).1
      have e' : (⟨w.heap.size, 8, none⟩ : Addr).block = w.heap.size := rfl
      omega
  · refine h.kp.trans' kall (fun b hb e => ?_)
    rcases e with (e | e) | e
    · exact .inl e
    · rcases hnv b e with h1 | h1
      · exact .inr h1
      · omega
    · have := (hkv b e).1; omega
/-- The last step: the kids are put down. -/
theorem LyI.fin {m : Nat} {t : Tr} {op : Int} {s1 s2 : St} {H S n : Nat} {y0 : Lyd} {nv0 sv : Value} {Z : Nat → Prop} {W0 w : World} {kv : Value} {w' : World} (h : LyI m t op s2 H S n y0 nv0 sv Z W0 w (t []).kn kv w') (hw : WF (m + 1) t) (hT : Tat H W0 t) (hs : vds (vd m) t op (t []).kn s2 = some s1) (hs1 : s1.k ≤ 8194) (hS : S ≤ w.heap.size) (hZ : ∀ b, Z b → b < w.heap.size) :
    ∃ ks kc0, kv = .slice ks (t []).kn kc0 ∧ ∃ gr cr N, w'.cell? ⟨H, 0, none⟩ = some (.slice (some ⟨gr, 0, none⟩) N cr) ∧ y0.N < N ∧ N ≤ 8194 ∧ (∃ v, w'.cell? ⟨gr, y0.N * 11 + 9, none⟩ = some v) ∧ w'.frozen? ⟨gr, y0.N * 11 + 9, none⟩ = false ∧ LyP (m + 1) t H S n y0 nv0 sv s1 Z W0 w (w'.setCell ⟨gr, y0.N * 11 + 9, none⟩ kv) := by
  obtain ⟨y, nv, si, js, ⟨q1, q2⟩, hv, hag, ⟨t1, t2, t3, t4⟩, hg, ⟨j1, j2⟩, hrow, hnv⟩ := h.ex
  rw [hs] at q1
  cases q1
  obtain ⟨ks, kc0, hkv⟩ := Sp.form hrow
  obtain ⟨gr, cr, hnvd⟩ : ∃ gr cr, nv = .slice (some ⟨gr, 0, none⟩) y.N cr := by
    rcases hv.row.2 with ⟨_, h0⟩ | ⟨g, cap, cur, e, _⟩
    · omega
    · exact ⟨g, cap, e⟩
  subst hnvd
  have hcell := World.ownsRow.cellAt hv.row (y0.N * 11 + 9) (by omega)
  rw [nR_get (lyC_len n y) y.N y0.N 9 t1 (by omega)] at hcell
  have hkz : ∀ b, kv.ownBlock = some b → ¬ (Z b ∨ b = w.heap.size) := fun b e e2 => by
    have := (hrow.lt b e).1
    rcases e2 with e2 | e2
    · have := hZ b e2; omega
    · omega
  obtain ⟨y', ⟨n1, n2, n3, n4, n5⟩, l, k⟩ := hv.shut (k0 := y0.N) t1 hkv (T := w.heap.size + 1) (by omega) hrow hkz
  refine ⟨ks, kc0, hkv, gr, cr, y.N, hv.h0, t1, by rw [q2]; exact hs1, ⟨_, hcell⟩, World.ownsRow.frozenAt hv.row _, y', _, l.kp (Kp.refl _ _) (fun b hb e => .inl e), by rw [n1, q2], ?_, ?_, ⟨by rw [n1]; exact t1, by rw [(n3 _).2.2.1]; exact t3, by rw [(n3 _).2.2.2]; exact t4⟩, ?_, hnv⟩
  · refine ⟨fun i hi => by rw [(n3 i).1]; exact hag.D i hi, fun i hi => ?_, fun i hi => ?_, fun i hi => ?_, fun i hi => ?_, fun i hi => by rw [(n3 i).2.1]; exact hag.gs i hi, fun i hi => by rw [(n3 i).2.2.1]; exact hag.TT i hi, fun i hi => by rw [(n3 i).2.2.2]; exact hag.FU i hi⟩
    · rw [(n2 i (by omega)).1]; exact hag.ka i hi
    · rw [(n2 i (by omega)).2.1]; exact hag.kl i hi
    · rw [(n2 i (by omega)).2.2.1]; exact hag.kc i hi
    · rw [(n2 i (by omega)).2.2.2]; exact hag.kd i hi
  · intro i h1 h2
    rw [n1] at h2
    by_cases e : i = y0.N
    · subst e
      rw [(n3 _).1, (n3 _).2.2.1, (n3 _).2.2.2, n4, t2, t3, t4]
      refine ⟨⟨rfl, rfl, hw, hT⟩, fun q hq => ?_⟩
      obtain ⟨r1, r2, r3⟩ := j2 q _ (n5 q hq)
      rw [(n3 _).2.2.1, (n3 _).2.2.2, r2, r3, n1]
      exact ⟨r1, rfl, rfl⟩
    · obtain ⟨r1, r2⟩ := hg i (by omega) h2
      rw [(n3 _).1, (n3 _).2.2.1, (n3 _).2.2.2, (n2 i e).2.1, (n2 i e).2.2.2, n1]
      refine ⟨r1, fun q hq => ?_⟩
      rw [(n3 _).2.2.1, (n3 _).2.2.2]
      exact r2 q hq
  · refine h.kp.trans' k (fun b hb e => ?_)
    have e' : b = gr := e
    subst e'
    rcases hnv b rfl with h1 | h1
    · exact .inr h1
    · omega
end Go.Proofs.Ytbciclnffokjjaa
