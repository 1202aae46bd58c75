/- Labels: their order, and rows of them in memory. -/
import Derived.Test.YtjmninjaoemhjaaDoorProg
import Derived.WalkKit
import Derived.Below
import Derived.Laws.OwnMore
import Derived.Laws.MakeOwn
import Derived.Laws.AppendOwn
import Derived.Laws.StructEq
import Derived.Maps.AppendAt
import Derived.Deep.RegionLaw
import Derived.Deep.RegionHeld3
import Derived.BigRegion
import Derived.Lib.QuietBelow
import Derived.BigQuiet
import Derived.Deep.DeepFit
import Derived.Lib.Bytealg
import Derived.Lib.Strings
import Derived.Laws.Cover1
import Derived.Deep.RegionWith
namespace Go.Proofs.YtjmninjaoemhjaaDoor
open Go.RowKit

abbrev Lb := ByteArray × ByteArray
/-- One text against another. -/
def od (x y : ByteArray) : Int := Lib.compareBytes x.data.toList y.data.toList
theorem cb_less : ∀ l m : List UInt8, (Lib.compareBytes l m = -1 ∧ Op.bytesLess l m = true ∧ (l == m) = false) ∨ (Lib.compareBytes l m = 0 ∧ Op.bytesLess l m = false ∧ (l == m) = true) ∨ (Lib.compareBytes l m = 1 ∧ Op.bytesLess l m = false ∧ (l == m) = false)
  | [], [] => .inr (.inl ⟨rfl, rfl, rfl⟩)
  | [], _ :: _ => .inl ⟨rfl, rfl, rfl⟩
  | _ :: _, [] => .inr (.inr ⟨rfl, rfl, rfl⟩)
  | a :: l, b :: m => by
    have ih := cb_less l m
    by_cases h1 : a < b
    · have hne : a ≠ b := fun e => by subst e; exact absurd h1 (UInt8.lt_irrefl a)
      left
      simp [Lib.compareBytes, Op.bytesLess, h1, hne]
    · by_cases h2 : b < a
      · have hne : a ≠ b := fun e => by subst e; exact absurd h2 (UInt8.lt_irrefl a)
        right; right
        simp [Lib.compareBytes, Op.bytesLess, h1, h2, hne]
      · have he : a = b := UInt8.le_antisymm (UInt8.not_lt.1 h2) (UInt8.not_lt.1 h1)
        subst he
        simpa [Lib.compareBytes, Op.bytesLess, h1] using ih
theorem od_cases (x y : ByteArray) : (od x y = -1 ∧ Op.bytesLess x.toList y.toList = true ∧ (x.toList == y.toList) = false) ∨ (od x y = 0 ∧ Op.bytesLess x.toList y.toList = false ∧ (x.toList == y.toList) = true) ∨ (od x y = 1 ∧ Op.bytesLess x.toList y.toList = false ∧ (x.toList == y.toList) = false) := by
  rw [Lib.toList_data, Lib.toList_data]
  exact cb_less _ _
/-- One label against another. -/
def o2 (a b : Lb) : Int := if od a.1 b.1 = 0 then od a.2 b.2 else od a.1 b.1
/-- Labels from a place on, against others; k of the first are left. -/
def cmF (f g : Nat → Lb) (m : Nat) : Nat → Nat → Int
  | 0, i => if i < m then -1 else 0
  | k + 1, i => if i < m then (if o2 (f i) (g i) = 0 then cmF f g m k (i + 1) else o2 (f i) (g i)) else 1
def cm (f : Nat → Lb) (n : Nat) (g : Nat → Lb) (m : Nat) : Int := cmF f g m n 0
theorem cmF_end {f g : Nat → Lb} {m n i : Nat} (h : i = n) : cmF f g m (n - i) i = if i < m then -1 else 0 := by
  rw [show n - i = 0 by omega]; rfl
theorem cmF_out {f g : Nat → Lb} {m n i : Nat} (h : i < n) (hm : ¬ i < m) : cmF f g m (n - i) i = 1 := by
  rw [show n - i = (n - i - 1) + 1 by omega]
  unfold cmF
  rw [if_neg hm]
theorem cmF_eq {f g : Nat → Lb} {m n i : Nat} (h : i < n) (hm : i < m) (h0 : o2 (f i) (g i) = 0) : cmF f g m (n - i) i = cmF f g m (n - (i + 1)) (i + 1) := by
  rw [show n - i = (n - (i + 1)) + 1 by omega]
  conv => lhs; unfold cmF
  rw [if_pos hm, if_pos h0]
theorem cmF_ne {f g : Nat → Lb} {m n i : Nat} (h : i < n) (hm : i < m) (h0 : ¬ o2 (f i) (g i) = 0) : cmF f g m (n - i) i = o2 (f i) (g i) := by
  rw [show n - i = (n - i - 1) + 1 by omega]
  unfold cmF
  rw [if_pos hm, if_neg h0]

/-- Labels that a slice shows. -/
def Lm (w : World) (a : Option Addr) (f : Nat → Lb) (n : Nat) : Prop := n = 0 ∨ ∃ g o, a = some ⟨g, o, none⟩ ∧ g < w.heap.size ∧ ∀ j, j < n → w.cell? ⟨g, o + j * 2, none⟩ = some (.string (f j).1) ∧ w.cell? ⟨g, o + j * 2 + 1, none⟩ = some (.string (f j).2)
theorem Lm.below {w w' : World} {a : Option Addr} {f : Nat → Lb} {n : Nat} (h : Lm w a f n) (hb : Below w.heap.size w w') : Lm w' a f n := by
  rcases h with h | ⟨g, o, rfl, hg, hc⟩
  · exact .inl h
  · exact .inr ⟨g, o, rfl, Nat.lt_of_lt_of_le hg hb.size, fun j hj => ⟨(hb.cell (p := ⟨g, o + j * 2, none⟩) hg).trans (hc j hj).1, (hb.cell (p := ⟨g, o + j * 2 + 1, none⟩) hg).trans (hc j hj).2⟩⟩
theorem Lm.at {w : World} {a : Option Addr} {f : Nat → Lb} {n : Nat} (h : Lm w a f n) (j : Nat) (hj : j < n) : ∃ g o, a = some ⟨g, o, none⟩ ∧ g < w.heap.size ∧ w.cell? ⟨g, o + j * 2, none⟩ = some (.string (f j).1) ∧ w.cell? ⟨g, o + j * 2 + 1, none⟩ = some (.string (f j).2) := by
  rcases h with h | ⟨g, o, rfl, hg, hat⟩
  · omega
  · exact ⟨g, o, rfl, hg, hat j hj⟩
theorem bcell2 {w w' : World} {p : Addr} {v : Value} (b : Below w.heap.size w w') (h : w.cell? p = some v) : w'.cell? p = some v := by
  rw [b.cell (World.block_lt_of_cell? w p h)]
  exact h
theorem below_drewN {B : Nat} {a w : World} (h : Below B a w) (k : Nat) : Below B a (w.drewN k) := ⟨h.os, h.tape, h.output, h.size, h.block⟩
/-- Labels as cells. -/
def l2 (x : Lb) : List Value := [.string x.1, .string x.2]
def lc (f : Nat → Lb) (n : Nat) : List Value := (List.range n).flatMap fun j => l2 (f j)
theorem lc_succ (f : Nat → Lb) (n : Nat) : lc f (n + 1) = lc f n ++ l2 (f n) := by
  unfold lc
  rw [List.range_succ, List.flatMap_append]
  simp
theorem lc_len (f : Nat → Lb) (n : Nat) : (lc f n).length = n * 2 := by
  induction n with
  | zero => rfl
  | succ n ih => rw [lc_succ, List.length_append, ih]; simp [l2]; omega
theorem lc_get (f : Nat → Lb) : ∀ (n j k : Nat), j < n → k < 2 → (lc f n)[j * 2 + k]? = (l2 (f j))[k]?
  | 0, j, k, h, _ => by omega
  | n + 1, j, k, h, hk => by
    rw [lc_succ]
    by_cases hj : j < n
    · rw [List.getElem?_append_left (by rw [lc_len]; omega)]
      exact lc_get f n j k hj hk
    · obtain rfl : j = n := by omega
      rw [List.getElem?_append_right (by rw [lc_len]; omega), lc_len]
      congr 1
      omega
theorem lc_one (f : Nat → Lb) (n : Nat) : ∀ u ∈ lc f n, u.oneCell' = true := by
  intro u hu
  unfold lc at hu
  rw [List.mem_flatMap] at hu
  obtain ⟨j, _, hu⟩ := hu
  simp [l2] at hu
  rcases hu with rfl | rfl <;> rfl
theorem Lm.cells {w : World} {p : Addr} {f : Nat → Lb} {n : Nat} (h : Lm w (some p) f n) : ∀ j u, (lc f n)[j]? = some u → w.cell? (p.add j) = some u := by
  intro j u hj
  have hjl : j < n * 2 := by
    have := (List.getElem?_eq_some_iff.1 hj).1
    rw [lc_len] at this
    exact this
  rcases h with h | ⟨g, o, e, _, hc⟩
  · omega
  · cases e
    have hj2 : j / 2 * 2 + j % 2 = j := by omega
    rw [← hj2, lc_get f n (j / 2) (j % 2) (by omega) (by omega)] at hj
    obtain ⟨c0, c1⟩ := hc (j / 2) (by omega)
    rw [Go.WideShapes.add_plain]
    rcases Nat.mod_two_eq_zero_or_one j with h0 | h0
    · rw [h0] at hj
      simp [l2] at hj
      rw [show o + j = o + j / 2 * 2 by omega, c0, hj]
    · rw [h0] at hj
      simp [l2] at hj
      rw [show o + j = o + j / 2 * 2 + 1 by omega, c1, hj]
theorem Lm.of_row {w : World} {S n c : Nat} {a : Option Addr} {f : Nat → Lb} (h : w.ownsRow S 26 2 (.slice a n c) n (lc f n)) : Lm w a f n := by
  rcases h.2 with ⟨e, h0⟩ | ⟨g, cap, cur, e, _, hh, _⟩
  · exact .inl h0
  · cases e
    refine .inr ⟨g, 0, rfl, (Array.getElem?_eq_some_iff.1 hh).1, fun j hj => ?_⟩
    rw [Nat.zero_add]
    have h0 := World.ownsRow.cellAt h (j * 2) (by omega)
    have h1 := World.ownsRow.cellAt h (j * 2 + 1) (by omega)
    have e0 := lc_get f n j 0 hj (by omega)
    have e1 := lc_get f n j 1 hj (by omega)
    rw [Nat.add_zero] at e0
    exact ⟨h0.trans e0, h1.trans e1⟩
end Go.Proofs.YtjmninjaoemhjaaDoor
