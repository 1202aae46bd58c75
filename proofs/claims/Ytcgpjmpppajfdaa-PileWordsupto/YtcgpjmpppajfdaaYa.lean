
/- A heap of ranked lists: rows, steps, the closure's world. -/
import Derived.Test.YtcgpjmpppajfdaaWr
import Derived.Test.YtcgpjmpppajfdaaWb
import Derived.Lib.QuietBelow
namespace Go.Proofs.Ytcgpjmpppajfdaa.Ws.Li
open Go.RowKit

/-- A list as it lies there, with its things; and with its rank. -/
abbrev Ls := Option Addr × Nat × Nat × (Nat → ByteArray)
abbrev Lk := Ls × Int
abbrev rv (u : Lk) : Value := .agg #[.slice u.1.1 u.1.2.1 u.1.2.2.1, .int .i64 u.2]
def r3 (u : Lk) : List Value := [.slice u.1.1 u.1.2.1 u.1.2.2.1, .int .i64 u.2]
def rc (f : Nat → Lk) (n : Nat) : List Value := (List.range n).flatMap fun j => r3 (f j)
theorem rc_succ (f : Nat → Lk) (n : Nat) : rc f (n + 1) = rc f n ++ r3 (f n) := by
  unfold rc
  rw [List.range_succ, List.flatMap_append]
  simp
theorem rc_len (f : Nat → Lk) (n : Nat) : (rc f n).length = n * 2 := by
  induction n with
  | zero => rfl
  | succ n ih => rw [rc_succ, List.length_append, ih]; simp [r3]; omega
theorem rc_get (f : Nat → Lk) : ∀ (n j k : Nat), j < n → k < 2 → (rc f n)[j * 2 + k]? = (r3 (f j))[k]?
  | 0, j, k, h, _ => by omega
  | n + 1, j, k, h, hk => by
    rw [rc_succ]
    by_cases hj : j < n
    · rw [List.getElem?_append_left (by rw [rc_len]; omega)]
      exact rc_get f n j k hj hk
    · obtain rfl : j = n := by omega
      rw [List.getElem?_append_right (by rw [rc_len]; omega), rc_len]
      congr 1
      omega
theorem rc_congr (f g : Nat → Lk) (n : Nat) (h : ∀ j, j < n → f j = g j) : rc f n = rc g n := by
  induction n with
  | zero => rfl
  | succ n ih => rw [rc_succ, rc_succ, ih fun j hj => h j (by omega), h n (by omega)]
theorem rc_take (f : Nat → Lk) (n m : Nat) (h : m ≤ n) : (rc f n).take (m * 2) = rc f m := by
  induction n with
  | zero => obtain rfl : m = 0 := by omega
            rfl
  | succ n ih =>
    by_cases hm : m = n + 1
    · subst hm
      rw [List.take_of_length_le (by rw [rc_len]; exact Nat.le_refl _)]
    · rw [rc_succ, List.take_append_of_le_length (by rw [rc_len]; omega)]
      exact ih (by omega)
theorem rc_set (f : Nat → Lk) (j : Nat) (u : Lk) : ∀ n, j < n → ((rc f n).set (j * 2) (.slice u.1.1 u.1.2.1 u.1.2.2.1)).set (j * 2 + 1) (.int .i64 u.2) = rc (up f j u) n
  | 0, h => by omega
  | n + 1, h => by
    rw [rc_succ, rc_succ]
    by_cases hj : j < n
    · rw [List.set_append_left _ _ (by rw [rc_len]; omega), List.set_append_left _ _ (by rw [List.length_set, rc_len]; omega), rc_set f j u n hj]
      congr 1
      congr 1
      exact (if_neg (by omega)).symm
    · obtain rfl : j = n := by omega
      rw [List.set_append_right _ _ (by rw [rc_len]; omega), List.set_append_right _ _ (by rw [rc_len]; omega), rc_len, Nat.sub_self, show j * 2 + 1 - j * 2 = 1 by omega]
      congr 1
      · exact rc_congr _ _ _ fun i hi => (if_neg (by omega)).symm
      · have : up f j u j = u := if_pos rfl
        rw [this]
        rfl
theorem infR : (Try.prog.info? 104).map (fun i => (i.zero, i.size, i.bytes)) = some (some (.agg #[.slice none 0 0, .int .i64 0]), 2, 32) := by kernel_rfl

/-- A row of ranked lists. -/
def Rr (w : World) (g c n : Nat) (f : Nat → Lk) : Prop := w.ownsRow 0 104 2 (.slice (some ⟨g, 0, none⟩) n c) n (rc f n)
section
variable {w : World} {g c n : Nat} {f : Nat → Lk}
theorem Rr.cell (h : Rr w g c n f) (j k : Nat) (hj : j < n) (hk : k < 2) : w.cell? ⟨g, j * 2 + k, none⟩ = (r3 (f j))[k]? := by
  have hl : j * 2 + k < n * 2 := by omega
  rw [World.ownsRow.cellAt h (j * 2 + k) hl]
  exact rc_get f n j k hj hk
theorem Rr.c0 (h : Rr w g c n f) (j : Nat) (hj : j < n) : w.cell? ⟨g, j * 2, none⟩ = some (.slice (f j).1.1 (f j).1.2.1 (f j).1.2.2.1) := h.cell j 0 hj (by omega)
theorem Rr.c1 (h : Rr w g c n f) (j : Nat) (hj : j < n) : w.cell? ⟨g, j * 2 + 1, none⟩ = some (.int .i64 (f j).2) := h.cell j 1 hj (by omega)
theorem Rr.froz (h : Rr w g c n f) (j : Nat) : w.frozen? ⟨g, j, none⟩ = false := World.ownsRow.frozenAt h j
theorem Rr.lt (h : Rr w g c n f) : g < w.heap.size := (World.ownsRow.lt h g rfl).2
theorem Rr.congr {f' : Nat → Lk} (h : Rr w g c n f) (e : ∀ j, j < n → f j = f' j) : Rr w g c n f' := by
  unfold Rr
  rw [← rc_congr f f' n e]
  exact h
theorem Rr.set (h : Rr w g c n f) (j : Nat) (hj : j < n) (u : Lk) : Rr ((w.setCell ⟨g, j * 2, none⟩ (.slice u.1.1 u.1.2.1 u.1.2.2.1)).setCell ⟨g, j * 2 + 1, none⟩ (.int .i64 u.2)) g c n (up f j u) := by
  unfold Rr
  rw [← rc_set f j u n hj]
  exact (World.ownsRow.stored (World.ownsRow.stored h (j * 2) (.slice u.1.1 u.1.2.1 u.1.2.2.1)).1 (j * 2 + 1) (.int .i64 u.2)).1
def seW (w : World) (g j : Nat) (u : Lk) : World := (w.setCell ⟨g, j * 2, none⟩ (.slice u.1.1 u.1.2.1 u.1.2.2.1)).setCell ⟨g, j * 2 + 1, none⟩ (.int .i64 u.2)
theorem seW_kp {M : Nat → Prop} (w : World) (g j : Nat) (u : Lk) (hm : M g) : Kp M w (seW w g j u) := ((Kp.refl M w).setCell (p := ⟨g, j * 2, none⟩) hm _).setCell (p := ⟨g, j * 2 + 1, none⟩) hm _
/-- Two exchanged. -/
def swW (w : World) (g i j : Nat) (x y : Lk) : World := (seW (seW w g i y) g j x).drew
def swp (f : Nat → Lk) (i j : Nat) : Nat → Lk := up (up f i (f j)) j (f i)
theorem Rr.drew (h : Rr w g c n f) : Rr w.drew g c n f := h
theorem Rr.swap (h : Rr w g c n f) (i j : Nat) (hi : i < n) (hj : j < n) : Rr (swW w g i j (f i) (f j)) g c n (swp f i j) := by
  unfold swW swp
  refine Rr.drew ?_
  have h1 : Rr (seW w g i (f j)) g c n (up f i (f j)) := h.set i hi (f j)
  exact h1.set j hj (f i)
theorem swW_kp {M : Nat → Prop} (w : World) (g i j : Nat) (x y : Lk) (hm : M g) : Kp M w (swW w g i j x y) := ((seW_kp w g i y hm).trans (seW_kp _ g j x hm)).drew
theorem Rr.kp {M : Nat → Prop} {w' : World} (h : Rr w g c n f) (k : Kp M w w') (hm : ¬ M g) : Rr w' g c n f := k.row h (fun j e => by cases e; exact hm)
end

/-- A heap's steps. -/
def undr (A : Lk → Lk → Bool) (n : Nat) (f : Nat → Lk) (i : Nat) : Nat := if n ≤ 2 * i + 1 then 0 else if 2 * i + 2 < n ∧ A (f (2 * i + 2)) (f (2 * i + 1)) = true then 2 * i + 2 else 2 * i + 1
theorem undr_cases (A : Lk → Lk → Bool) (n : Nat) (f : Nat → Lk) (i : Nat) : undr A n f i = 0 ∧ n ≤ 2 * i + 1 ∨ i < undr A n f i ∧ undr A n f i < n := by
  unfold undr
  split
  · exact .inl ⟨rfl, by omega⟩
  · split
    · exact .inr ⟨by omega, by omega⟩
    · exact .inr ⟨by omega, by omega⟩
def riseG (A : Lk → Lk → Bool) : Nat → (Nat → Lk) → Nat → Nat → Lk
  | 0, f, _ => f
  | k + 1, f, i => if 0 < i then (if A (f i) (f ((i - 1) / 2)) = true then riseG A k (swp f i ((i - 1) / 2)) ((i - 1) / 2) else f) else f
def riseF (A : Lk → Lk → Bool) (f : Nat → Lk) (i : Nat) : Nat → Lk := riseG A i f i
theorem riseG_zero (A : Lk → Lk → Bool) (k : Nat) (f : Nat → Lk) : riseG A k f 0 = f := by
  cases k with
  | zero => rfl
  | succ k => rw [riseG, if_neg (by omega)]
theorem riseG_fuel (A : Lk → Lk → Bool) (k : Nat) : ∀ (f : Nat → Lk) (i : Nat), i ≤ k → riseG A k f i = riseG A i f i := by
  induction k using Nat.strongRecOn with
  | ind k ih =>
    intro f i hi
    cases i with
    | zero => rw [riseG_zero, riseG_zero]
    | succ j =>
      cases k with
      | zero => omega
      | succ k =>
        rw [riseG, riseG]
        split
        · split
          · rw [ih k (by omega) _ ((j + 1 - 1) / 2) (by omega), ih j (by omega) _ ((j + 1 - 1) / 2) (by omega)]
          · rfl
        · rfl
def sinkG (A : Lk → Lk → Bool) (n : Nat) : Nat → (Nat → Lk) → Nat → Nat → Lk
  | 0, f, _ => f
  | k + 1, f, i => if undr A n f i = 0 then f else if A (f (undr A n f i)) (f i) = true then sinkG A n k (swp f i (undr A n f i)) (undr A n f i) else f
def sinkF (A : Lk → Lk → Bool) (n : Nat) (f : Nat → Lk) (i : Nat) : Nat → Lk := sinkG A n (n - i) f i
theorem sinkG_fuel (A : Lk → Lk → Bool) (n k : Nat) : ∀ (f : Nat → Lk) (i : Nat), n - i ≤ k → sinkG A n k f i = sinkG A n (n - i) f i := by
  induction k using Nat.strongRecOn with
  | ind k ih =>
    intro f i hi
    cases k with
    | zero => rw [show n - i = 0 by omega]
    | succ k =>
      have hc := undr_cases A n f i
      cases hm : n - i with
      | zero => rw [sinkG, sinkG, if_pos (by omega)]
      | succ m =>
        rw [sinkG, sinkG]
        split
        · rfl
        · split
          · rw [ih k (by omega) _ _ (by omega), ih m (by omega) _ _ (by omega)]
          · rfl
theorem riseF_zero (A : Lk → Lk → Bool) (f : Nat → Lk) : riseF A f 0 = f := rfl
theorem riseF_no (A : Lk → Lk → Bool) (f : Nat → Lk) (i : Nat) (h : A (f i) (f ((i - 1) / 2)) = false) : riseF A f i = f := by
  unfold riseF
  cases i with
  | zero => rfl
  | succ k => rw [riseG, if_pos (by omega), if_neg (by rw [h]; simp)]
theorem riseF_yes (A : Lk → Lk → Bool) (f : Nat → Lk) (i : Nat) (h0 : 0 < i) (h : A (f i) (f ((i - 1) / 2)) = true) : riseF A f i = riseF A (swp f i ((i - 1) / 2)) ((i - 1) / 2) := by
  unfold riseF
  cases i with
  | zero => omega
  | succ k => rw [riseG, if_pos h0, if_pos h, riseG_fuel A k _ _ (by omega)]
theorem sinkF_none (A : Lk → Lk → Bool) (n : Nat) (f : Nat → Lk) (i : Nat) (h : undr A n f i = 0) : sinkF A n f i = f := by
  unfold sinkF
  cases n - i with
  | zero => rfl
  | succ k => rw [sinkG, if_pos h]
theorem sinkF_no (A : Lk → Lk → Bool) (n : Nat) (f : Nat → Lk) (i : Nat) (h0 : undr A n f i ≠ 0) (h : A (f (undr A n f i)) (f i) = false) : sinkF A n f i = f := by
  unfold sinkF
  cases n - i with
  | zero => rfl
  | succ k => rw [sinkG, if_neg h0, if_neg (by rw [h]; simp)]
theorem sinkF_yes (A : Lk → Lk → Bool) (n : Nat) (f : Nat → Lk) (i : Nat) (h0 : undr A n f i ≠ 0) (h : A (f (undr A n f i)) (f i) = true) : sinkF A n f i = sinkF A n (swp f i (undr A n f i)) (undr A n f i) := by
  have hc := undr_cases A n f i
  unfold sinkF
  cases hm : n - i with
  | zero => omega
  | succ k => rw [sinkG, if_neg h0, if_pos h, sinkG_fuel A n k _ _ (by omega)]


/-- The world that stays, and the box that the closure holds. -/
abbrev Ev := World × Nat
abbrev av (bx : Nat) : Value := .func (.func 74) #[] #[.pointer (some ⟨bx, 0, none⟩)]
/-- A list that is there, with something in it. -/
def Lok (w : World) (u : Lk) : Prop := Iml w u.1.1 u.1.2.2.2 u.1.2.1 ∧ 0 < u.1.2.1 ∧ u.1.2.1 ≤ u.1.2.2.1
def Bx (w : World) (bx : Nat) (lv : Ev) : Prop := bx = lv.2 ∧ Below lv.1.heap.size lv.1 w
theorem Bx.kp {w w' : World} {bx : Nat} {lv : Ev} {M : Nat → Prop} (h : Bx w bx lv) (k : Kp M w w') (h1 : ∀ j, j < lv.1.heap.size → ¬ M j) : Bx w' bx lv := ⟨h.1, h.2.trans (k.below h.2.size h1)⟩
theorem bx_regrown {w : World} {bx : Nat} {lv : Ev} (h : Bx w bx lv) (d : Nat) (os : Array Obj) : Bx (Go.Sort.grow (redrawn w d) os) bx lv := h.kp (Kp.of (M := fun _ => False) (below_regrown w d os)) (fun _ _ => id)
def AhC (lv : Ev) (A : Lk → Lk → Bool) : Prop := ∀ (W : World) (bx : Nat), Bx W bx lv → ∀ x y : Lk, Lok lv.1 x → Lok lv.1 y → Calls Try.prog 74 #[rv x, rv y, .pointer (some ⟨bx, 0, none⟩)] W fun r w' => r = .returned (.bool (A x y)) ∧ Below W.heap.size W w'
/-- A heap of lists in memory. -/
structure Hp (w : World) (b bx : Nat) (lv : Ev) (v : Value) (n : Nat) (f : Nat → Lk) : Prop where
  ah : w.cell? ⟨b, 0, none⟩ = some (av bx)
  ls : w.cell? ⟨b, 1, none⟩ = some v
  fz : w.frozen? ⟨b, 1, none⟩ = false
  bxc : Bx w bx lv
  row : w.ownsRow 0 104 2 v n (rc f n)
  gb : v.ownBlock ≠ some b
  gx : ∀ j, v.ownBlock = some j → lv.1.heap.size ≤ j
  bb : lv.1.heap.size ≤ b
  lok : ∀ j, j < n → Lok lv.1 (f j)
namespace Hp
variable {w : World} {b bx g c n : Nat} {lv : Ev} {v : Value} {f : Nat → Lk}
theorem kp {M : Nat → Prop} {w' : World} (h : Hp w b bx lv v n f) (k : Kp M w w') (h1 : ¬ M b) (h2 : ∀ j, j < lv.1.heap.size → ¬ M j) (h3 : ∀ j, v.ownBlock = some j → ¬ M j) : Hp w' b bx lv v n f :=
  ⟨k.cell h.ah h1, k.cell h.ls h1, k.frozen h.ls h.fz h1, h.bxc.kp k h2, k.row h.row h3, h.gb, h.gx, h.bb, h.lok⟩
theorem below {w' : World} (h : Hp w b bx lv v n f) (k : Below w.heap.size w w') : Hp w' b bx lv v n f := h.kp (Kp.of (M := fun _ => False) k) id (fun _ _ => id) (fun _ _ => id)
theorem rowed {f' : Nat → Lk} {w' : World} (h : Hp w b bx lv (.slice (some ⟨g, 0, none⟩) n c) n f) (k : Kp (· = g) w w') (r : Rr w' g c n f') (hl : ∀ j, j < n → Lok lv.1 (f' j)) : Hp w' b bx lv (.slice (some ⟨g, 0, none⟩) n c) n f' :=
  ⟨k.cell h.ah (fun (e : b = g) => h.gb (by rw [e]; rfl)), k.cell h.ls (fun (e : b = g) => h.gb (by rw [e]; rfl)), k.frozen h.ls h.fz (fun (e : b = g) => h.gb (by rw [e]; rfl)), h.bxc.kp k (fun j hj (e : j = g) => by have := h.gx g rfl; omega), r, h.gb, h.gx, h.bb, hl⟩
end Hp
theorem lok_up {w : World} {n i : Nat} {f : Nat → Lk} {u : Lk} (h : ∀ j, j < n → Lok w (f j)) (hu : Lok w u) : ∀ j, j < n → Lok w (up f i u j) := fun j hj => by
  by_cases e : j = i
  · rw [e, up_same]; exact hu
  · rw [up_other _ _ _ _ e]; exact h j hj
theorem lok_swp {w : World} {n i p : Nat} {f : Nat → Lk} (h : ∀ j, j < n → Lok w (f j)) (hi : i < n) (hp : p < n) : ∀ j, j < n → Lok w (swp f i p j) := by
  unfold swp
  exact lok_up (lok_up h (h p hp)) (h i hi)
abbrev rX (x : Lk) : Obj := .cells #[.slice x.1.1 x.1.2.1 x.1.2.2.1, .int .i64 x.2] 104
theorem rX_cell (w : World) (x : Lk) (j : Nat) (u : Value) (h : (r3 x)[j]? = some u) : (w.alloc (rX x)).cell? ⟨w.heap.size, j, none⟩ = some u := by
  unfold World.cell?
  rw [show (w.alloc (rX x)).heap[w.heap.size]? = some (rX x) from heap_alloc_new w _]
  simpa [r3] using h
theorem rc_push (f : Nat → Lk) (n : Nat) (x : Lk) : rc (up f n x) (n + 1) = rc f n ++ r3 x := by
  rw [rc_succ, up_same]
  congr 1
  exact rc_congr _ _ _ fun j hj => up_other f n x j (by omega)
theorem append_r (w : World) (v : Value) (n : Nat) (f : Nat → Lk) (x : Lk) (hn : (n + 1) * 32 ≤ 140737488355328) (o : w.ownsRow 0 104 2 v n (rc f n)) :
    ∃ g c w', (Builtin.append_ #[99, 99] 99 #[v, .slice (some ⟨w.heap.size, 0, none⟩) 1 1]).run Try.prog (w.alloc (rX x)) = .ok (.slice (some ⟨g, 0, none⟩) (n + 1) c) w' ∧ Rr w' g c (n + 1) (up f n x) ∧ Kp (fun k => v.ownBlock = some k) w w' ∧ (v.ownBlock = some g ∨ w.heap.size ≤ g) := by
  obtain ⟨i0, hi, hz0, hz1, hz2⟩ := info_parts infR
  have o0 := World.ownsRow.alloc o (rX x)
  obtain ⟨v', w', r, o', g, _, h5⟩ := run_append_own_at (P := Try.prog) (w.alloc (rX x)) 0 99 99 104 i0 (.agg #[.slice none 0 0, .int .i64 0]) 2 32 Try.underlying99 hi hz0 hz1 hz2 rfl (by decide) _ n (rc f n) o0 ⟨w.heap.size, 0, none⟩ 1 1 (r3 x) (by rfl)
    (fun j u hj => by
      rw [Go.WideShapes.add_plain, Nat.zero_add]
      exact rX_cell w x j u hj) (by intro u hu; simp [r3] at hu; rcases hu with rfl | rfl <;> rfl) (by unfold maxLen; omega) hn (by simp)
  rw [← rc_push] at o'
  rcases o'.2 with ⟨_, h0⟩ | ⟨G, C, cur, rfl, _⟩
  · omega
  · refine ⟨G, C, w', r, o', ((Kp.refl _ w).alloc _).grown g (fun k hk _ => hk), ?_⟩
    rcases h5 with h5 | h5
    · exact .inl (h5.symm.trans rfl)
    · have h6 : G = (w.alloc (rX x)).heap.size := Option.some.inj h5
      rw [World.size_alloc] at h6
      exact .inr (by omega)

end Go.Proofs.Ytcgpjmpppajfdaa.Ws.Li
