/- Heaps: what is held against what; rows of ranked things; what a call keeps. -/
import Derived.Test.YtcgpjmpppajfdaaRows
import Derived.WalkKit
import Derived.Below
import Derived.Laws.OwnMore
import Derived.Laws.MakeOwn
import Derived.Laws.AppendOwn
import Derived.Deep.RegionLaw
import Derived.BigRegion
import Derived.Lib.QuietBelow
import Derived.BigQuiet
namespace Go.Proofs.Ytcgpjmpppajfdaa
open Go.RowKit

/-- A thing, and a thing with its rank. -/
abbrev It := Int × Int
abbrev Rk := It × Int
abbrev iv (x : It) : Value := .agg #[.int .i64 x.1, .int .i64 x.2]
abbrev rv (u : Rk) : Value := .agg #[.int .i64 u.1.1, .int .i64 u.1.2, .int .i64 u.2]
def r3 (u : Rk) : List Value := [.int .i64 u.1.1, .int .i64 u.1.2, .int .i64 u.2]
def rc (f : Nat → Rk) (n : Nat) : List Value := (List.range n).flatMap fun j => r3 (f j)
def up {α : Type} (f : Nat → α) (j : Nat) (u : α) : Nat → α := fun i => if i = j then u else f i
theorem up_same {α : Type} (f : Nat → α) (j : Nat) (u : α) : up f j u j = u := if_pos rfl
theorem up_other {α : Type} (f : Nat → α) (j : Nat) (u : α) (i : Nat) (h : i ≠ j) : up f j u i = f i := if_neg h
theorem rc_succ (f : Nat → Rk) (n : Nat) : rc f (n + 1) = rc f n ++ r3 (f n) := by
  unfold rc
  rw [List.range_succ, List.flatMap_append]
  simp
theorem rc_len (f : Nat → Rk) (n : Nat) : (rc f n).length = n * 3 := by
  induction n with
  | zero => rfl
  | succ n ih => rw [rc_succ, List.length_append, ih]; simp [r3]; omega
theorem rc_get (f : Nat → Rk) : ∀ (n j k : Nat), j < n → k < 3 → (rc f n)[j * 3 + k]? = (r3 (f j))[k]?
  | 0, j, k, h, _ => by omega
  | n + 1, j, k, h, hk => by
    rw [rc_succ]
    by_cases hj : j < n
    · rw [List.getElem?_append_left (by rw [rc_len]; omega)]
      exact rc_get f n j k hj hk
    · obtain rfl : j = n := by omega
      rw [List.getElem?_append_right (by rw [rc_len]; omega), rc_len]
      congr 1
      omega
theorem rc_congr (f g : Nat → Rk) (n : Nat) (h : ∀ j, j < n → f j = g j) : rc f n = rc g n := by
  induction n with
  | zero => rfl
  | succ n ih => rw [rc_succ, rc_succ, ih fun j hj => h j (by omega), h n (by omega)]
theorem rc_take (f : Nat → Rk) (n m : Nat) (h : m ≤ n) : (rc f n).take (m * 3) = rc f m := by
  induction n with
  | zero => obtain rfl : m = 0 := by omega
            rfl
  | succ n ih =>
    by_cases hm : m = n + 1
    · subst hm
      rw [List.take_of_length_le (by rw [rc_len]; exact Nat.le_refl _)]
    · rw [rc_succ, List.take_append_of_le_length (by rw [rc_len]; omega)]
      exact ih (by omega)
theorem rc_set (f : Nat → Rk) (j : Nat) (u : Rk) : ∀ n, j < n → (((rc f n).set (j * 3) (.int .i64 u.1.1)).set (j * 3 + 1) (.int .i64 u.1.2)).set (j * 3 + 2) (.int .i64 u.2) = rc (up f j u) n
  | 0, h => by omega
  | n + 1, h => by
    rw [rc_succ, rc_succ]
    by_cases hj : j < n
    · rw [List.set_append_left _ _ (by rw [rc_len]; omega), List.set_append_left _ _ (by rw [List.length_set, rc_len]; omega), List.set_append_left _ _ (by rw [List.length_set, List.length_set, rc_len]; omega), rc_set f j u n hj]
      congr 1
      congr 1
      exact (if_neg (by omega)).symm
    · obtain rfl : j = n := by omega
      rw [List.set_append_right _ _ (by rw [rc_len]; omega), List.set_append_right _ _ (by rw [rc_len]; omega), List.set_append_right _ _ (by rw [rc_len]; omega), rc_len, Nat.sub_self, show j * 3 + 1 - j * 3 = 1 by omega, show j * 3 + 2 - j * 3 = 2 by omega]
      congr 1
      · exact rc_congr _ _ _ fun i hi => (if_neg (by omega)).symm
      · have : up f j u j = u := if_pos rfl
        rw [this]
        rfl
theorem infR : (Try.prog.info? 78).map (fun i => (i.zero, i.size, i.bytes)) = some (some (.agg #[.int .i64 0, .int .i64 0, .int .i64 0]), 3, 24) := by kernel_rfl

theorem below_drewN {B : Nat} {a w : World} (h : Below B a w) (k : Nat) : Below B a (w.drewN k) := ⟨h.os, h.tape, h.output, h.size, h.block⟩
/-- But for the blocks of M all is as it was. -/
structure Kp (M : Nat → Prop) (w w' : World) : Prop where
  os : w'.os = w.os
  tape : w'.tape = w.tape
  output : w'.output = w.output
  size : w.heap.size ≤ w'.heap.size
  block : ∀ k, k < w.heap.size → ¬ M k → w'.heap[k]? = w.heap[k]?
namespace Kp
variable {M N : Nat → Prop} {a b c w w' : World}
theorem refl (M : Nat → Prop) (w : World) : Kp M w w := ⟨rfl, rfl, rfl, Nat.le_refl _, fun _ _ _ => rfl⟩
theorem trans (h : Kp M a b) (k : Kp M b c) : Kp M a c := ⟨k.os.trans h.os, k.tape.trans h.tape, k.output.trans h.output, Nat.le_trans h.size k.size, fun i hi hm => (k.block i (Nat.lt_of_lt_of_le hi h.size) hm).trans (h.block i hi hm)⟩
/-- .. where the second may change new blocks besides. -/
theorem trans' (h : Kp M a b) (k : Kp N b c) (hn : ∀ i, i < a.heap.size → N i → M i) : Kp M a c := ⟨k.os.trans h.os, k.tape.trans h.tape, k.output.trans h.output, Nat.le_trans h.size k.size, fun i hi hm => (k.block i (Nat.lt_of_lt_of_le hi h.size) (fun x => hm (hn i hi x))).trans (h.block i hi hm)⟩
theorem mono (h : Kp M a b) (hn : ∀ i, i < a.heap.size → M i → N i) : Kp N a b := ⟨h.os, h.tape, h.output, h.size, fun i hi hm => h.block i hi (fun x => hm (hn i hi x))⟩
theorem of (h : Below w.heap.size w w') : Kp M w w' := ⟨h.os, h.tape, h.output, h.size, fun k hk _ => h.block k hk⟩
theorem below {B : Nat} (h : Kp M w w') (hB : B ≤ w.heap.size) (hm : ∀ k, k < B → ¬ M k) : Below B w w' := ⟨h.os, h.tape, h.output, h.size, fun k hk => h.block k (by omega) (hm k hk)⟩
theorem drew (h : Kp M a w) : Kp M a w.drew := ⟨h.os, h.tape, h.output, h.size, h.block⟩
theorem alloc (h : Kp M a w) (o : Obj) : Kp M a (w.alloc o) := h.trans (of ((Below.refl _ _).alloc (Nat.le_refl _) o))
theorem setCell (h : Kp M a w) {p : Addr} (hp : M p.block) (u : Value) : Kp M a (w.setCell p u) :=
  h.trans ⟨rfl, rfl, rfl, by simp [World.setCell], fun k hk hm => Below.heap_setCell _ _ _ _ (fun e => hm (e ▸ hp))⟩
theorem grown {row : Option Nat} (h : Kp M a w) (hg : w.grownBy w' row) (hr : ∀ k, row = some k → k < w.heap.size → M k) : Kp M a w' :=
  h.trans ⟨hg.os, hg.tape, hg.output, hg.size, fun k hk hm => hg.block k hk (fun e => hm (hr k e.symm hk))⟩
theorem cell {p : Addr} {v : Value} (h : Kp M w w') (hc : w.cell? p = some v) (hm : ¬ M p.block) : w'.cell? p = some v := by
  rw [World.cell?_of_block (w := w) (h.block p.block (World.block_lt_of_cell? w p hc) hm)]
  exact hc
theorem frozen {p : Addr} {v : Value} {r : Bool} (h : Kp M w w') (hc : w.cell? p = some v) (hf : w.frozen? p = r) (hm : ¬ M p.block) : w'.frozen? p = r := by
  rw [World.frozen?_of_block (w := w) (h.block p.block (World.block_lt_of_cell? w p hc) hm)]
  exact hf
theorem row {S e s n : Nat} {v : Value} {xs : List Value} (h : Kp M w w') (o : w.ownsRow S e s v n xs) (hm : ∀ k, v.ownBlock = some k → ¬ M k) : w'.ownsRow S e s v n xs := by
  refine ⟨o.1, ?_⟩
  rcases o.2 with h0 | ⟨g, cap, cur, hv, hB, hg, r⟩
  · exact .inl h0
  · exact .inr ⟨g, cap, cur, hv, hB, (h.block g (Array.getElem?_eq_some_iff.1 hg).1 (hm g (by rw [hv]; rfl))).trans hg, r⟩
end Kp

/-- A row of ranked things. -/
def Rr (w : World) (g c n : Nat) (f : Nat → Rk) : Prop := w.ownsRow 0 78 3 (.slice (some ⟨g, 0, none⟩) n c) n (rc f n)
section
variable {w : World} {g c n : Nat} {f : Nat → Rk}
theorem Rr.cell (h : Rr w g c n f) (j k : Nat) (hj : j < n) (hk : k < 3) : w.cell? ⟨g, j * 3 + k, none⟩ = (r3 (f j))[k]? := by
  have hl : j * 3 + k < n * 3 := by omega
  rw [World.ownsRow.cellAt h (j * 3 + k) hl]
  exact rc_get f n j k hj hk
theorem Rr.c0 (h : Rr w g c n f) (j : Nat) (hj : j < n) : w.cell? ⟨g, j * 3, none⟩ = some (.int .i64 (f j).1.1) := h.cell j 0 hj (by omega)
theorem Rr.c1 (h : Rr w g c n f) (j : Nat) (hj : j < n) : w.cell? ⟨g, j * 3 + 1, none⟩ = some (.int .i64 (f j).1.2) := h.cell j 1 hj (by omega)
theorem Rr.c2 (h : Rr w g c n f) (j : Nat) (hj : j < n) : w.cell? ⟨g, j * 3 + 2, none⟩ = some (.int .i64 (f j).2) := h.cell j 2 hj (by omega)
theorem Rr.froz (h : Rr w g c n f) (j : Nat) : w.frozen? ⟨g, j, none⟩ = false := World.ownsRow.frozenAt h j
theorem Rr.lt (h : Rr w g c n f) : g < w.heap.size := (World.ownsRow.lt h g rfl).2
theorem Rr.congr {f' : Nat → Rk} (h : Rr w g c n f) (e : ∀ j, j < n → f j = f' j) : Rr w g c n f' := by
  unfold Rr
  rw [← rc_congr f f' n e]
  exact h
theorem Rr.set (h : Rr w g c n f) (j : Nat) (hj : j < n) (u : Rk) : Rr (((w.setCell ⟨g, j * 3, none⟩ (.int .i64 u.1.1)).setCell ⟨g, j * 3 + 1, none⟩ (.int .i64 u.1.2)).setCell ⟨g, j * 3 + 2, none⟩ (.int .i64 u.2)) g c n (up f j u) := by
  unfold Rr
  rw [← rc_set f j u n hj]
  exact (World.ownsRow.stored (World.ownsRow.stored (World.ownsRow.stored h (j * 3) (.int .i64 u.1.1)).1 (j * 3 + 1) (.int .i64 u.1.2)).1 (j * 3 + 2) (.int .i64 u.2)).1
def seW (w : World) (g j : Nat) (u : Rk) : World := ((w.setCell ⟨g, j * 3, none⟩ (.int .i64 u.1.1)).setCell ⟨g, j * 3 + 1, none⟩ (.int .i64 u.1.2)).setCell ⟨g, j * 3 + 2, none⟩ (.int .i64 u.2)
theorem seW_kp {M : Nat → Prop} (w : World) (g j : Nat) (u : Rk) (hm : M g) : Kp M w (seW w g j u) := (((Kp.refl M w).setCell (p := ⟨g, j * 3, none⟩) hm _).setCell (p := ⟨g, j * 3 + 1, none⟩) hm _).setCell (p := ⟨g, j * 3 + 2, none⟩) hm _
/-- Two exchanged. -/
def swW (w : World) (g i j : Nat) (x y : Rk) : World := (seW (seW w g i y) g j x).drew
def swp (f : Nat → Rk) (i j : Nat) : Nat → Rk := up (up f i (f j)) j (f i)
theorem Rr.drew (h : Rr w g c n f) : Rr w.drew g c n f := h
theorem Rr.swap (h : Rr w g c n f) (i j : Nat) (hi : i < n) (hj : j < n) : Rr (swW w g i j (f i) (f j)) g c n (swp f i j) := by
  unfold swW swp
  refine Rr.drew ?_
  have h1 : Rr (seW w g i (f j)) g c n (up f i (f j)) := h.set i hi (f j)
  exact h1.set j hj (f i)
theorem swW_kp {M : Nat → Prop} (w : World) (g i j : Nat) (x y : Rk) (hm : M g) : Kp M w (swW w g i j x y) := ((seW_kp w g i y hm).trans (seW_kp _ g j x hm)).drew
theorem Rr.kp {M : Nat → Prop} {w' : World} (h : Rr w g c n f) (k : Kp M w w') (hm : ¬ M g) : Rr w' g c n f := k.row h (fun j e => by cases e; exact hm)
end

/-- A heap's steps. -/
def undr (A : Rk → Rk → Bool) (n : Nat) (f : Nat → Rk) (i : Nat) : Nat := if n ≤ 2 * i + 1 then 0 else if 2 * i + 2 < n ∧ A (f (2 * i + 2)) (f (2 * i + 1)) = true then 2 * i + 2 else 2 * i + 1
theorem undr_cases (A : Rk → Rk → Bool) (n : Nat) (f : Nat → Rk) (i : Nat) : undr A n f i = 0 ∧ n ≤ 2 * i + 1 ∨ i < undr A n f i ∧ undr A n f i < n := by
  unfold undr
  split
  · exact .inl ⟨rfl, by omega⟩
  · split
    · exact .inr ⟨by omega, by omega⟩
    · exact .inr ⟨by omega, by omega⟩
def riseG (A : Rk → Rk → Bool) : Nat → (Nat → Rk) → Nat → Nat → Rk
  | 0, f, _ => f
  | k + 1, f, i => if 0 < i then (if A (f i) (f ((i - 1) / 2)) = true then riseG A k (swp f i ((i - 1) / 2)) ((i - 1) / 2) else f) else f
def riseF (A : Rk → Rk → Bool) (f : Nat → Rk) (i : Nat) : Nat → Rk := riseG A i f i
theorem riseG_zero (A : Rk → Rk → Bool) (k : Nat) (f : Nat → Rk) : riseG A k f 0 = f := by
  cases k with
  | zero => rfl
  | succ k => rw [riseG, if_neg (by omega)]
theorem riseG_fuel (A : Rk → Rk → Bool) (k : Nat) : ∀ (f : Nat → Rk) (i : Nat), i ≤ k → riseG A k f i = riseG A i f i := by
  induction k using Nat.strongRecOn with
  | ind k ih =>
    intro f i hi
    cases i with
    | zero => rw [riseG_zero, riseG_zero]
    | succ j =>
      cases k with
      | zero => omega
      | succ k =>
        rw [riseG, riseG]
        split
        · split
          · rw [ih k (by omega) _ ((j + 1 - 1) / 2) (by omega), ih j (by omega) _ ((j + 1 - 1) / 2) (by omega)]
          · rfl
        · rfl
def sinkG (A : Rk → Rk → Bool) (n : Nat) : Nat → (Nat → Rk) → Nat → Nat → Rk
  | 0, f, _ => f
  | k + 1, f, i => if undr A n f i = 0 then f else if A (f (undr A n f i)) (f i) = true then sinkG A n k (swp f i (undr A n f i)) (undr A n f i) else f
def sinkF (A : Rk → Rk → Bool) (n : Nat) (f : Nat → Rk) (i : Nat) : Nat → Rk := sinkG A n (n - i) f i
theorem sinkG_fuel (A : Rk → Rk → Bool) (n k : Nat) : ∀ (f : Nat → Rk) (i : Nat), n - i ≤ k → sinkG A n k f i = sinkG A n (n - i) f i := by
  induction k using Nat.strongRecOn with
  | ind k ih =>
    intro f i hi
    cases k with
    | zero => rw [show n - i = 0 by omega]
    | succ k =>
      have hc := undr_cases A n f i
      cases hm : n - i with
      | zero => rw [sinkG, sinkG, if_pos (by omega)]
      | succ m =>
        rw [sinkG, sinkG]
        split
        · rfl
        · split
          · rw [ih k (by omega) _ _ (by omega), ih m (by omega) _ _ (by omega)]
          · rfl
theorem riseF_zero (A : Rk → Rk → Bool) (f : Nat → Rk) : riseF A f 0 = f := rfl
theorem riseF_no (A : Rk → Rk → Bool) (f : Nat → Rk) (i : Nat) (h : A (f i) (f ((i - 1) / 2)) = false) : riseF A f i = f := by
  unfold riseF
  cases i with
  | zero => rfl
  | succ k => rw [riseG, if_pos (by omega), if_neg (by rw [h]; simp)]
theorem riseF_yes (A : Rk → Rk → Bool) (f : Nat → Rk) (i : Nat) (h0 : 0 < i) (h : A (f i) (f ((i - 1) / 2)) = true) : riseF A f i = riseF A (swp f i ((i - 1) / 2)) ((i - 1) / 2) := by
  unfold riseF
  cases i with
  | zero => omega
  | succ k => rw [riseG, if_pos h0, if_pos h, riseG_fuel A k _ _ (by omega)]
theorem sinkF_none (A : Rk → Rk → Bool) (n : Nat) (f : Nat → Rk) (i : Nat) (h : undr A n f i = 0) : sinkF A n f i = f := by
  unfold sinkF
  cases n - i with
  | zero => rfl
  | succ k => rw [sinkG, if_pos h]
theorem sinkF_no (A : Rk → Rk → Bool) (n : Nat) (f : Nat → Rk) (i : Nat) (h0 : undr A n f i ≠ 0) (h : A (f (undr A n f i)) (f i) = false) : sinkF A n f i = f := by
  unfold sinkF
  cases n - i with
  | zero => rfl
  | succ k => rw [sinkG, if_neg h0, if_neg (by rw [h]; simp)]
theorem sinkF_yes (A : Rk → Rk → Bool) (n : Nat) (f : Nat → Rk) (i : Nat) (h0 : undr A n f i ≠ 0) (h : A (f (undr A n f i)) (f i) = true) : sinkF A n f i = sinkF A n (swp f i (undr A n f i)) (undr A n f i) := by
  have hc := undr_cases A n f i
  unfold sinkF
  cases hm : n - i with
  | zero => omega
  | succ k => rw [sinkG, if_neg h0, if_pos h, sinkG_fuel A n k _ _ (by omega)]

/-- The function that tells what is ahead, its captured box. -/
abbrev av (bx : Nat) : Value := .func (.func 62) #[] #[.pointer (some ⟨bx, 0, none⟩)]
/-- What it answers, where the box holds the less lv. -/
def AhC (lv : Value) (A : Rk → Rk → Bool) : Prop := ∀ (W : World) (bx : Nat), W.cell? ⟨bx, 0, none⟩ = some lv → ∀ x y : Rk, Calls Try.prog 62 #[rv x, rv y, .pointer (some ⟨bx, 0, none⟩)] W fun r w' => r = .returned (.bool (A x y)) ∧ Below W.heap.size W w'
/-- A heap in memory. -/
structure Hp (w : World) (b bx : Nat) (lv v : Value) (n : Nat) (f : Nat → Rk) : Prop where
  ah : w.cell? ⟨b, 0, none⟩ = some (av bx)
  ls : w.cell? ⟨b, 1, none⟩ = some v
  fz : w.frozen? ⟨b, 1, none⟩ = false
  bxc : w.cell? ⟨bx, 0, none⟩ = some lv
  row : w.ownsRow 0 78 3 v n (rc f n)
  gb : v.ownBlock ≠ some b
  gx : v.ownBlock ≠ some bx
  bb : b ≠ bx
namespace Hp
variable {w : World} {b bx g c n : Nat} {lv v : Value} {f : Nat → Rk}
theorem kp {M : Nat → Prop} {w' : World} (h : Hp w b bx lv v n f) (k : Kp M w w') (h1 : ¬ M b) (h2 : ¬ M bx) (h3 : ∀ j, v.ownBlock = some j → ¬ M j) : Hp w' b bx lv v n f :=
  ⟨k.cell h.ah h1, k.cell h.ls h1, k.frozen h.ls h.fz h1, k.cell h.bxc h2, k.row h.row h3, h.gb, h.gx, h.bb⟩
theorem below {w' : World} (h : Hp w b bx lv v n f) (k : Below w.heap.size w w') : Hp w' b bx lv v n f := h.kp (Kp.of (M := fun _ => False) k) id id (fun _ _ => id)
theorem rowed {f' : Nat → Rk} {w' : World} (h : Hp w b bx lv (.slice (some ⟨g, 0, none⟩) n c) n f) (k : Kp (· = g) w w') (r : Rr w' g c n f') : Hp w' b bx lv (.slice (some ⟨g, 0, none⟩) n c) n f' :=
  ⟨k.cell h.ah (fun (e : b = g) => h.gb (by rw [e]; rfl)), k.cell h.ls (fun (e : b = g) => h.gb (by rw [e]; rfl)), k.frozen h.ls h.fz (fun (e : b = g) => h.gb (by rw [e]; rfl)), k.cell h.bxc (fun (e : bx = g) => h.gx (by rw [e]; rfl)), r, h.gb, h.gx, h.bb⟩
end Hp
end Go.Proofs.Ytcgpjmpppajfdaa
