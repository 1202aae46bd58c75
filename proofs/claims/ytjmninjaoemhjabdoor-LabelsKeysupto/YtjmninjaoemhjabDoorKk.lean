/- LabelsKeys: what lies in memory under way. -/
import Derived.Test.YtjmninjaoemhjabDoorKj
namespace Go.Proofs.YtjmninjaoemhjabDoor
open Go.RowKit Go.Lib

/-- One ask. -/
structure Ak where
  la : Option Addr
  ln : Nat
  lc : Nat
  f : Nat → Lb
  nm : ByteArray
  vl : ByteArray
  na : Option Addr
  nn : Nat
  nc : Nat
  nf : Nat → ByteArray
  wo : Bool
abbrev akX (q : Ak) : Obj := .cells #[.slice q.la q.ln q.lc, .string q.nm, .string q.vl, .slice q.na q.nn q.nc, .bool q.wo] 30
/-- An ask that lies in w. -/
structure Aok (w : World) (q : Ak) : Prop where
  ls : Lm w q.la q.f q.ln
  ns : Smb w.heap.size w q.na q.nf q.nn
  l0 : q.ln ≤ 1048576
  n0 : q.nn ≤ 1048576
  s0 : szF q.f q.ln ≤ 70368744177664
theorem Smb.size {w w' : World} {a : Option Addr} {f : Nat → ByteArray} {n : Nat} (h : Smb w.heap.size w a f n) (hb : Below w.heap.size w w') : Smb w'.heap.size w' a f n := by
  rcases h with h | ⟨g, o, e, hg, hc⟩
  · exact .inl h
  · exact .inr ⟨g, o, e, Nat.lt_of_lt_of_le hg hb.size, fun j hj => (hb.cell (p := ⟨g, o + j, none⟩) hg).trans (hc j hj)⟩
theorem Aok.below {w w' : World} {q : Ak} (h : Aok w q) (hb : Below w.heap.size w w') : Aok w' q := ⟨h.ls.below hb, h.ns.size hb, h.l0, h.n0, h.s0⟩
/-- Asks that a slice shows. -/
def Am (w : World) (a : Option Addr) (q : Nat → Ak) (n : Nat) : Prop := n = 0 ∨ ∃ g o, a = some ⟨g, o, none⟩ ∧ g < w.heap.size ∧ ∀ j, j < n → (w.cell? ⟨g, o + j * 5, none⟩ = some (.slice (q j).la (q j).ln (q j).lc) ∧ w.cell? ⟨g, o + j * 5 + 1, none⟩ = some (.string (q j).nm) ∧ w.cell? ⟨g, o + j * 5 + 2, none⟩ = some (.string (q j).vl) ∧ w.cell? ⟨g, o + j * 5 + 3, none⟩ = some (.slice (q j).na (q j).nn (q j).nc) ∧ w.cell? ⟨g, o + j * 5 + 4, none⟩ = some (.bool (q j).wo)) ∧ Aok w (q j)
theorem Am.at {w : World} {a : Option Addr} {q : Nat → Ak} {n : Nat} (h : Am w a q n) (j : Nat) (hj : j < n) : ∃ g o, a = some ⟨g, o, none⟩ ∧ g < w.heap.size ∧ (w.cell? ⟨g, o + j * 5, none⟩ = some (.slice (q j).la (q j).ln (q j).lc) ∧ w.cell? ⟨g, o + j * 5 + 1, none⟩ = some (.string (q j).nm) ∧ w.cell? ⟨g, o + j * 5 + 2, none⟩ = some (.string (q j).vl) ∧ w.cell? ⟨g, o + j * 5 + 3, none⟩ = some (.slice (q j).na (q j).nn (q j).nc) ∧ w.cell? ⟨g, o + j * 5 + 4, none⟩ = some (.bool (q j).wo)) ∧ Aok w (q j) := by
  rcases h with h | ⟨g, o, e, hg, hat⟩
  · omega
  · exact ⟨g, o, e, hg, hat j hj⟩
/-- What is kept of an ask. -/
def kO (q : Ak) : List Lb := keptL q.f (lf q.nf q.nn) q.wo q.ln
def kyB (ls : List Lb) : ByteArray := ⟨(keyL ls).toArray⟩
theorem kyB_eq (a b : List Lb) : ((kyB a).toList == (kyB b).toList) = decide (a = b) := by
  rw [Lib.toList_data, Lib.toList_data]
  unfold kyB
  rw [Bool.eq_iff_iff, beq_iff_eq, decide_eq_true_eq]
  constructor
  · intro h
    exact keyL_inj a b (by simpa using h)
  · rintro rfl
    rfl
theorem kp_set (W : World) (g k : Nat) (v : Value) : Kp (· = g) W (W.setCell ⟨g, k, none⟩ v) :=
  ⟨rfl, rfl, rfl, by simp, fun i _ hm => Below.heap_setCell _ _ _ _ (fun e => hm e)⟩

/-- A round under way. -/
structure Rn (w : World) (n Gk Gp G B : Nat) (q : Nat → Ak) (i : Nat) (W : World) (kF : Nat → ByteArray) (V : Nat → Value) (I : Nat) (ff : Nat → Lb) : Prop where
  hS : w.heap.size ≤ Gk
  hS2 : Gk < Gp
  hB : Gp < B
  hG : Gp < G
  hBG : B ≠ G
  keys : W.ownsRow w.heap.size 9 1 (.slice (some ⟨Gk, 0, none⟩) n n) n (ss (lf kF n))
  kept : W.ownsRow w.heap.size 25 1 (.slice (some ⟨Gp, 0, none⟩) n n) n ((List.range n).map V)
  each : ∀ j, j < I → W.ownsRow (Gp + 1) 24 2 (V j) (kO (q j)).length (lcL (kO (q j))) ∧ ∀ k, (V j).ownBlock = some k → k ≠ G ∧ k ≠ B
  low : Below w.heap.size w W
  box : W.heap[B]? = some (akX (q i))
  full : W.ownsRow (Gp + 1) 24 2 (.slice (some ⟨G, 0, none⟩) ((q i).ln + 40) ((q i).ln + 40)) ((q i).ln + 40) (lc ff ((q i).ln + 40))
section
variable {w : World} {n Gk Gp G B : Nat} {q : Nat → Ak} {i : Nat} {W W' : World} {kF : Nat → ByteArray} {V : Nat → Value} {I : Nat} {ff : Nat → Lb}
theorem Rn.kp {M : Nat → Prop} (h : Rn w n Gk Gp G B q i W kF V I ff) (k : Kp M W W') (hk : ¬ M Gk) (hp : ¬ M Gp) (hg : ¬ M G) (hb : ¬ M B) (he : ∀ j, j < I → ∀ k, (V j).ownBlock = some k → ¬ M k) (hl : ∀ k, k < w.heap.size → ¬ M k) : Rn w n Gk Gp G B q i W' kF V I ff :=
  { hS := h.hS, hS2 := h.hS2, hB := h.hB, hG := h.hG, hBG := h.hBG
    keys := k.row h.keys (fun x e => by cases e; exact hk)
    kept := k.row h.kept (fun x e => by cases e; exact hp)
    each := fun j hj => ⟨k.row (h.each j hj).1 (he j hj), (h.each j hj).2⟩
    low := h.low.trans (k.below h.low.size hl)
    box := (k.block B (Array.getElem?_eq_some_iff.1 h.box).1 hb).trans h.box
    full := k.row h.full (fun x e => by cases e; exact hg) }
theorem Rn.below (h : Rn w n Gk Gp G B q i W kF V I ff) (hb : Below W.heap.size W W') : Rn w n Gk Gp G B q i W' kF V I ff :=
  h.kp (Kp.of (M := fun _ => False) hb) id id id id (fun _ _ _ _ => id) (fun _ _ => id)
theorem Rn.eachGe (h : Rn w n Gk Gp G B q i W kF V I ff) (j : Nat) (hj : j < I) (k : Nat) (e : (V j).ownBlock = some k) : Gp < k := by
  have := (own_bd (h.each j hj).1 k e).1
  omega
theorem ss_set (kF : Nat → ByteArray) (j : Nat) (x : ByteArray) : ∀ n, (ss (lf kF n)).set j (.string x) = ss (lf (up kF j x) n) := by
  intro n
  apply List.ext_getElem?
  intro k
  rw [List.getElem?_set]
  by_cases hk : k < n
  · by_cases e : j = k
    · subst e
      simp [ss, lf, hk, up]
    · have e' : ¬ k = j := fun x => e x.symm
      simp [ss, lf, hk, up, e, e']
  · by_cases e : j = k <;> simp [ss, lf, hk, e]
theorem V_set (V : Nat → Value) (j : Nat) (x : Value) : ∀ n, ((List.range n).map V).set j x = (List.range n).map (up V j x) := by
  intro n
  apply List.ext_getElem?
  intro k
  rw [List.getElem?_set]
  by_cases hk : k < n
  · by_cases e : j = k
    · subst e
      simp [hk, up]
    · have e' : ¬ k = j := fun x => e x.symm
      simp [hk, up, e, e']
  · by_cases e : j = k <;> simp [hk, e]
theorem Rn.setKey (h : Rn w n Gk Gp G B q i W kF V I ff) (j : Nat) (x : ByteArray) : Rn w n Gk Gp G B q i (W.setCell ⟨Gk, j, none⟩ (.string x)) (up kF j x) V I ff := by
  have k := kp_set W Gk j (.string x)
  have h1 := h.hS; have h2 := h.hS2; have h3 := h.hB; have h4 := h.hG
  exact { hS := h.hS, hS2 := h.hS2, hB := h.hB, hG := h.hG, hBG := h.hBG
          keys := by rw [← ss_set]; exact (World.ownsRow.stored h.keys j (.string x)).1
          kept := k.row h.kept (fun x e => by cases e; dsimp only; omega)
          each := fun j hj => ⟨k.row (h.each j hj).1 (fun x e => by have := h.eachGe j hj x e; omega), (h.each j hj).2⟩
          low := h.low.trans (k.below h.low.size (fun x hx => by omega))
          box := (k.block B (Array.getElem?_eq_some_iff.1 h.box).1 (by omega)).trans h.box
          full := k.row h.full (fun x e => by cases e; dsimp only; omega) }
theorem Rn.setKept (h : Rn w n Gk Gp G B q i W kF V I ff) (v : Value) (hv : W.ownsRow (Gp + 1) 24 2 v (kO (q I)).length (lcL (kO (q I)))) (hv2 : ∀ k, v.ownBlock = some k → k ≠ G ∧ k ≠ B) : Rn w n Gk Gp G B q i (W.setCell ⟨Gp, I, none⟩ v) kF (up V I v) (I + 1) ff := by
  have k := kp_set W Gp I v
  have h1 := h.hS; have h2 := h.hS2; have h3 := h.hB; have h4 := h.hG
  exact { hS := h.hS, hS2 := h.hS2, hB := h.hB, hG := h.hG, hBG := h.hBG
          keys := k.row h.keys (fun x e => by cases e; dsimp only; omega)
          kept := by rw [← V_set]; exact (World.ownsRow.stored h.kept I v).1
          each := fun j hj => by
            by_cases e : j = I
            · subst e
              rw [up_same]
              exact ⟨k.row hv (fun x e => by have := (own_bd hv x e).1; omega), hv2⟩
            · rw [up_other _ _ _ _ e]
              exact ⟨k.row (h.each j (by omega)).1 (fun x e => by have := h.eachGe j (by omega) x e; omega), (h.each j (by omega)).2⟩
          low := h.low.trans (k.below h.low.size (fun x hx => by omega))
          box := (k.block B (Array.getElem?_eq_some_iff.1 h.box).1 (by omega)).trans h.box
          full := k.row h.full (fun x e => by cases e; dsimp only; omega) }
theorem lc_set2 (f : Nat → Lb) (j : Nat) (x : ByteArray) (n : Nat) (hj : j < n) : (lc f n).set (j * 2 + 1) (.string x) = lc (up f j ((f j).1, x)) n := by
  rw [← lc_set f j ((f j).1, x) n hj]
  congr 1
  apply List.ext_getElem?
  intro k
  rw [List.getElem?_set]
  by_cases e : j * 2 = k
  · subst e
    have := lc_get f n j 0 hj (by omega)
    rw [Nat.add_zero] at this
    rw [if_pos rfl, if_pos (by rw [lc_len]; omega), this]
    rfl
  · rw [if_neg e]
theorem Rn.setIn (h : Rn w n Gk Gp G B q i W kF V I ff) (j : Nat) (hj : j < (q i).ln + 40) (x : ByteArray) : Rn w n Gk Gp G B q i (W.setCell ⟨G, j * 2 + 1, none⟩ (.string x)) kF V I (up ff j ((ff j).1, x)) := by
  have k := kp_set W G (j * 2 + 1) (.string x)
  have h1 := h.hS; have h2 := h.hS2; have h3 := h.hB; have h4 := h.hG; have h5 := h.hBG
  exact { hS := h.hS, hS2 := h.hS2, hB := h.hB, hG := h.hG, hBG := h.hBG
          keys := k.row h.keys (fun x e => by cases e; dsimp only; omega)
          kept := k.row h.kept (fun x e => by cases e; dsimp only; omega)
          each := fun j hj => ⟨k.row (h.each j hj).1 (fun x e => ((h.each j hj).2 x e).1), (h.each j hj).2⟩
          low := h.low.trans (k.below h.low.size (fun x hx => by omega))
          box := (k.block B (Array.getElem?_eq_some_iff.1 h.box).1 h5).trans h.box
          full := by rw [← lc_set2 ff j x _ hj]; exact (World.ownsRow.stored h.full (j * 2 + 1) (.string x)).1 }
theorem Rn.keyAt (h : Rn w n Gk Gp G B q i W kF V I ff) (j : Nat) (hj : j < n) : W.cell? ⟨Gk, j, none⟩ = some (.string (kF j)) := by
  rw [World.ownsRow.cellAt h.keys j (by omega)]
  simp [ss, lf, hj]
theorem Rn.keptAt (h : Rn w n Gk Gp G B q i W kF V I ff) (j : Nat) (hj : j < n) : W.cell? ⟨Gp, j, none⟩ = some (V j) := by
  rw [World.ownsRow.cellAt h.kept j (by omega)]
  simp [hj]
theorem Rn.slice (h : Rn w n Gk Gp G B q i W kF V I ff) (j : Nat) (hj : j < I) : ∃ a c, V j = .slice a (kO (q j)).length c ∧ Lm W a (gL (kO (q j))) (kO (q j)).length := by
  have hr := (h.each j hj).1
  rw [lcL_lc] at hr
  rcases hr.2 with ⟨e, h0⟩ | ⟨g, cap, cur, e, _⟩
  · rw [e, h0]
    exact ⟨none, 0, rfl, .inl rfl⟩
  · rw [e] at hr
    exact ⟨_, cap, e, Lm.of_row hr⟩
theorem Rn.ins (h : Rn w n Gk Gp G B q i W kF V I ff) : Lm W (some ⟨G, 0, none⟩) ff ((q i).ln + 40) := Lm.of_row h.full
end
end Go.Proofs.YtjmninjaoemhjabDoor
