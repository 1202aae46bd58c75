/- A bundle of texts. -/
import Derived.Test.YtebjklppbkkinaaGreatDoorBp01
import Derived.Shelf.SlLaysF0
import Derived.Shelf.SlGeneric
import Derived.Test.YtebjklppbkkinaaGreatDoorProg
import Derived.Test.YtebjklppbkkinaaGreatDoorBp02
import Derived.Shelf.SlSortCmp.WholeK
import Derived.Shelf.SlSortCmp.NoneTotal
/- Labels: the order of lists is an order. -/
namespace Go.Proofs.YtebjklppbkkinaaGreatDoor
open Go.RowKit

/-- What an order answers. -/
structure Od {α : Type} (c : α → α → Int) : Prop where
  rng : ∀ x y, c x y = -1 ∨ c x y = 0 ∨ c x y = 1
  anti : ∀ x y, c y x = - c x y
  eq : ∀ x y, c x y = 0 ↔ x = y
  lt : ∀ x y z, c x y ≤ 0 → c y z ≤ 0 → c x z ≤ 0
/-- Lists, by the first difference. -/
def lx {α : Type} (c : α → α → Int) : List α → List α → Int
  | [], [] => 0
  | [], _ :: _ => -1
  | _ :: _, [] => 1
  | x :: l, y :: m => if c x y = 0 then lx c l m else c x y
theorem lx_rng {α : Type} {c : α → α → Int} (h : Od c) : ∀ x y, lx c x y = -1 ∨ lx c x y = 0 ∨ lx c x y = 1
  | [], [] => .inr (.inl rfl)
  | [], _ :: _ => .inl rfl
  | _ :: _, [] => .inr (.inr rfl)
  | x :: l, y :: m => by
    unfold lx
    split
    · exact lx_rng h l m
    · exact h.rng x y
theorem lx_anti {α : Type} {c : α → α → Int} (h : Od c) : ∀ x y, lx c y x = - lx c x y
  | [], [] => rfl
  | [], _ :: _ => rfl
  | _ :: _, [] => rfl
  | x :: l, y :: m => by
    have e := h.anti x y
    unfold lx
    by_cases h0 : c x y = 0
    · rw [if_pos (by omega), if_pos h0]
      exact lx_anti h l m
    · rw [if_neg (by omega), if_neg h0, e]
theorem lx_eq {α : Type} {c : α → α → Int} (h : Od c) : ∀ x y, lx c x y = 0 ↔ x = y
  | [], [] => by simp [lx]
  | [], _ :: _ => by simp [lx]
  | _ :: _, [] => by simp [lx]
  | x :: l, y :: m => by
    have e := h.eq x y
    have ih := lx_eq h l m
    unfold lx
    by_cases h0 : c x y = 0
    · rw [if_pos h0, ih, List.cons.injEq]
      exact ⟨fun k => ⟨e.1 h0, k⟩, fun k => k.2⟩
    · rw [if_neg h0, List.cons.injEq]
      exact ⟨fun k => absurd k h0, fun k => absurd (e.2 k.1) h0⟩
theorem lx_lt {α : Type} {c : α → α → Int} (h : Od c) : ∀ x y z, lx c x y ≤ 0 → lx c y z ≤ 0 → lx c x z ≤ 0
  | [], _, [], _, _ => by simp [lx]
  | [], _, _ :: _, _, _ => by simp [lx]
  | _ :: _, [], _, h1, _ => by simp [lx] at h1
  | _ :: _, _ :: _, [], _, h2 => by simp [lx] at h2
  | x :: l, y :: m, z :: n, h1, h2 => by
    unfold lx at h1 h2 ⊢
    have t := h.lt x y z
    by_cases a : c x y = 0
    · rw [if_pos a] at h1
      obtain rfl := (h.eq x y).1 a
      by_cases b : c x z = 0
      · rw [if_pos b] at h2 ⊢
        exact lx_lt h l m n h1 h2
      · rw [if_neg b] at h2 ⊢
        exact h2
    · rw [if_neg a] at h1
      by_cases b : c y z = 0
      · obtain rfl := (h.eq y z).1 b
        rw [if_neg a]
        exact h1
      · rw [if_neg b] at h2
        have t2 := t h1 h2
        by_cases d : c x z = 0
        · exfalso
          obtain rfl := (h.eq x z).1 d
          have := h.anti x y
          have r := h.rng x y
          omega
        · rw [if_neg d]
          exact t2
theorem lx_od {α : Type} {c : α → α → Int} (h : Od c) : Od (lx c) := ⟨lx_rng h, lx_anti h, lx_eq h, lx_lt h⟩
def bc (a b : UInt8) : Int := if a < b then -1 else if b < a then 1 else 0
theorem bc_nat (a b : UInt8) : bc a b = if a.toNat < b.toNat then -1 else if b.toNat < a.toNat then 1 else 0 := by
  unfold bc
  simp only [UInt8.lt_iff_toNat_lt]
theorem bc_od : Od bc := by
  refine ⟨fun x y => ?_, fun x y => ?_, fun x y => ?_, fun x y z h1 h2 => ?_⟩
  · rw [bc_nat]
    repeat' split
    all_goals simp
  · rw [bc_nat, bc_nat]
    repeat' split
    all_goals omega
  · rw [bc_nat, ← UInt8.toNat_inj]
    repeat' split
    all_goals omega
  · rw [bc_nat] at h1 h2 ⊢
    repeat' split at h1
    all_goals repeat' split at h2
    all_goals repeat' split
    all_goals omega
theorem cb_lx : ∀ l m : List UInt8, Lib.compareBytes l m = lx bc l m
  | [], [] => rfl
  | [], _ :: _ => rfl
  | _ :: _, [] => rfl
  | a :: l, b :: m => by
    have ih := cb_lx l m
    unfold Lib.compareBytes lx
    by_cases h1 : a < b
    · have e : bc a b = -1 := by unfold bc; rw [if_pos h1]
      rw [if_pos h1, e]
      rfl
    · by_cases h2 : b < a
      · have e : bc a b = 1 := by unfold bc; rw [if_neg h1, if_pos h2]
        rw [if_neg h1, if_pos h2, e]
        rfl
      · have e : bc a b = 0 := by unfold bc; rw [if_neg h1, if_neg h2]
        rw [if_neg h1, if_neg h2, e, ih]
        rfl
theorem od_od : Od od := by
  have h := lx_od bc_od
  refine ⟨fun x y => ?_, fun x y => ?_, fun x y => ?_, fun x y z h1 h2 => ?_⟩
  · unfold od; rw [cb_lx]; exact h.rng _ _
  · unfold od; rw [cb_lx, cb_lx]; exact h.anti _ _
  · unfold od
    rw [cb_lx, h.eq]
    constructor
    · intro e
      rw [ByteArray.ext_iff]
      exact Array.toList_inj.1 e
    · rintro rfl
      rfl
  · unfold od at h1 h2 ⊢
    rw [cb_lx] at h1 h2 ⊢
    exact h.lt _ _ _ h1 h2
theorem o2_od : Od o2 := by
  have h := od_od
  refine ⟨fun x y => ?_, fun x y => ?_, fun x y => ?_, fun x y z h1 h2 => ?_⟩
  · unfold o2
    split
    · exact h.rng _ _
    · exact h.rng _ _
  · unfold o2
    have a1 := h.anti x.1 y.1
    have a2 := h.anti x.2 y.2
    by_cases e : od x.1 y.1 = 0
    · rw [if_pos (by omega), if_pos e, a2]
    · rw [if_neg (by omega), if_neg e, a1]
  · unfold o2
    by_cases e : od x.1 y.1 = 0
    · rw [if_pos e, h.eq, Prod.ext_iff]
      exact ⟨fun k => ⟨(h.eq _ _).1 e, k⟩, fun k => k.2⟩
    · rw [if_neg e, Prod.ext_iff]
      exact ⟨fun k => absurd k e, fun k => absurd ((h.eq _ _).2 k.1) e⟩
  · unfold o2 at h1 h2 ⊢
    by_cases a : od x.1 y.1 = 0
    · rw [if_pos a] at h1
      have ea := (h.eq _ _).1 a
      by_cases b : od y.1 z.1 = 0
      · rw [if_pos b] at h2
        rw [ea, if_pos b]
        exact h.lt _ _ _ h1 h2
      · rw [if_neg b] at h2
        rw [ea, if_neg b]
        exact h2
    · rw [if_neg a] at h1
      by_cases b : od y.1 z.1 = 0
      · have eb := (h.eq _ _).1 b
        rw [← eb, if_neg a]
        exact h1
      · rw [if_neg b] at h2
        have t2 := h.lt _ _ _ h1 h2
        by_cases d : od x.1 z.1 = 0
        · exfalso
          have ed := (h.eq _ _).1 d
          rw [← ed] at h2 b
          have := h.anti x.1 y.1
          omega
        · rw [if_neg d]
          exact t2
/-- The labels from a place on. -/
def lst (f : Nat → Lb) (i : Nat) : Nat → List Lb
  | 0 => []
  | k + 1 => f i :: lst f (i + 1) k
theorem cmF_lx (f g : Nat → Lb) (m : Nat) : ∀ k i, i ≤ m → cmF f g m k i = lx o2 (lst f i k) (lst g i (m - i))
  | 0, i, hi => by
    unfold cmF
    by_cases h : i < m
    · rw [if_pos h, show m - i = (m - i - 1) + 1 by omega]
      rfl
    · rw [if_neg h, show m - i = 0 by omega]
      rfl
  | k + 1, i, hi => by
    unfold cmF
    by_cases h : i < m
    · rw [if_pos h, cmF_lx f g m k (i + 1) (by omega), show m - i = (m - (i + 1)) + 1 by omega]
      rfl
    · rw [if_neg h, show m - i = 0 by omega]
      rfl
theorem cm_lx (f g : Nat → Lb) (n m : Nat) : cm f n g m = lx o2 (lst f 0 n) (lst g 0 m) := cmF_lx f g m n 0 (Nat.zero_le _)
theorem cm_anti (f g : Nat → Lb) (n m : Nat) : cm g m f n = - cm f n g m := by rw [cm_lx, cm_lx]; exact lx_anti o2_od _ _
theorem cm_trans (f g h : Nat → Lb) (n m k : Nat) (h1 : cm f n g m ≤ 0) (h2 : cm g m h k ≤ 0) : cm f n h k ≤ 0 ∧ (cm f n h k = 0 → cm f n g m = 0 ∧ cm g m h k = 0) := by
  rw [cm_lx] at h1 h2 ⊢
  rw [cm_lx, cm_lx]
  refine ⟨lx_lt o2_od _ _ _ h1 h2, fun e => ?_⟩
  have ee := (lx_eq o2_od _ _).1 e
  rw [← ee] at h2 ⊢
  have := lx_anti o2_od (lst f 0 n) (lst g 0 m)
  omega
theorem lst_len (f : Nat → Lb) : ∀ k i, (lst f i k).length = k
  | 0, _ => rfl
  | k + 1, i => by
    show (lst f (i + 1) k).length + 1 = _
    rw [lst_len f k]
theorem lst_eq (f g : Nat → Lb) : ∀ k i, lst f i k = lst g i k ↔ ∀ j, i ≤ j → j < i + k → f j = g j
  | 0, i => by
    constructor
    · intro _ j h1 h2; omega
    · intro _; rfl
  | k + 1, i => by
    show f i :: lst f (i + 1) k = g i :: lst g (i + 1) k ↔ _
    rw [List.cons.injEq, lst_eq f g k (i + 1)]
    constructor
    · rintro ⟨a, b⟩ j h1 h2
      by_cases e : j = i
      · subst e; exact a
      · exact b j (by omega) (by omega)
    · intro h
      exact ⟨h i (by omega) (by omega), fun j h1 h2 => h j (by omega) (by omega)⟩
theorem cm_zero (f g : Nat → Lb) (n m : Nat) : cm f n g m = 0 ↔ n = m ∧ ∀ j, j < n → f j = g j := by
  rw [cm_lx, lx_eq o2_od]
  constructor
  · intro e
    have hl := congrArg List.length e
    rw [lst_len, lst_len] at hl
    subst hl
    exact ⟨rfl, fun j hj => (lst_eq f g n 0).1 e j (Nat.zero_le _) (by omega)⟩
  · rintro ⟨rfl, h⟩
    exact (lst_eq f g n 0).2 fun j _ hj => h j (by omega)
end Go.Proofs.YtebjklppbkkinaaGreatDoor
/- Labels: the sort by name. -/
namespace Go.Proofs.YtebjklppbkkinaaGreatDoor
open Go.RowKit Go.Lib Go.Shelf Go.Sort

theorem heap_put {w : World} {g n : Nat} {os : Array Obj} {cur : Array Value} {e : TypeId} {fr : Nat × Nat} (F : Array Value) (hb : w.heap[g]? = some (.cells cur e fr)) :
    (grow (putRow id (Sort.ahead w n) g 0 F) os).heap[g]? = some (.cells (putCells id 0 F cur) e fr) := by
  have hg : g < w.heap.size := (Array.getElem?_eq_some_iff.1 hb).1
  rw [heap_grow_old _ _ (by simpa using hg)]
  simp [putRow, mapBlock, Sort.ahead, Array.getElem?_modify, hb, onCells]
theorem kp_put {w : World} {g n : Nat} {os : Array Obj} (F : Array Value) : Kp (fun b => some g = some b) w (grow (putRow id (Sort.ahead w n) g 0 F) os) := by
  refine ⟨rfl, rfl, rfl, by simp, fun k hk hne => ?_⟩
  rw [heap_grow_old _ _ (by simpa using hk)]
  have : g ≠ k := fun e => hne (by rw [e])
  simp [putRow, mapBlock, Sort.ahead, Array.getElem?_modify, this]
theorem take_put (cur F : Array Value) (h : F.size ≤ cur.size) : (putCells id 0 F cur).toList.take F.size = F.toList := by
  apply List.ext_getElem?
  intro j
  by_cases hj : j < F.size
  · rw [List.getElem?_take_of_lt hj, Array.getElem?_toList, Array.getElem?_toList]
    simp [putCells, hj, show j < cur.size by omega]
  · rw [List.getElem?_take_eq_none (by omega), List.getElem?_eq_none (by simp; omega)]
end Go.Proofs.YtebjklppbkkinaaGreatDoor
/- Labels: Make of any pairs, the walk. -/
namespace Go.Proofs.YtebjklppbkkinaaGreatDoor
open Go.RowKit Go.Lib

theorem lcL_app (a : List Lb) (x : Lb) : lcL (a ++ [x]) = lcL a ++ l2 x := by simp [lcL]
theorem row_sl {w : World} {S e s n : Nat} {v : Value} {xs : List Value} (o : w.ownsRow S e s v n xs) : ∃ a c, v = .slice a n c := by
  rcases o.2 with ⟨e, e2⟩ | ⟨g, c, cur, e, _⟩
  · exact ⟨none, 0, by rw [e, e2]⟩
  · exact ⟨_, c, e⟩
end Go.Proofs.YtebjklppbkkinaaGreatDoor
/- Labels: one list against another, as a sort wants it. -/
namespace Go.Proofs.YtebjklppbkkinaaGreatDoor
open Go.RowKit Go.Lib Go.Shelf Go.Sort

/-- New blocks and draws, and nothing else. -/
def Gr (w w' : World) : Prop := ∃ q os', w' = grow (w.drewN q) os'
theorem Gr.refl (w : World) : Gr w w := ⟨0, #[], (grow_empty _).symm⟩
theorem Gr.alloc {w w' : World} (h : Gr w w') (o : Obj) : Gr w (w'.alloc o) := by
  obtain ⟨q, os, rfl⟩ := h
  exact ⟨q, _, by rw [alloc_eq_grow, grow_grow]⟩
theorem Gr.drew {w w' : World} (h : Gr w w') : Gr w w'.drew := by
  obtain ⟨q, os, rfl⟩ := h
  exact ⟨q + 1, os, rfl⟩
theorem Gr.drewN {w w' : World} (h : Gr w w') (k : Nat) : Gr w (w'.drewN k) := by
  obtain ⟨q, os, rfl⟩ := h
  refine ⟨q + k, os, ?_⟩
  show World.drewN (grow (w.drewN q) os) k = grow (w.drewN (q + k)) os
  have e : w.drewN (q + k) = (w.drewN q).drewN k := by simp [World.drewN, Nat.add_assoc]
  rw [e]
  rfl
theorem Gr.trans {w w' w2 : World} (h : Gr w w') (k : Gr w' w2) : Gr w w2 := by
  obtain ⟨q, os, rfl⟩ := k
  obtain ⟨q2, os2, h2⟩ := h.drewN q
  exact ⟨q2, _, by rw [h2, grow_grow]⟩
theorem Gr.below {w w' : World} (h : Gr w w') : Below w.heap.size w w' := by
  obtain ⟨q, os, rfl⟩ := h
  exact ⟨rfl, rfl, rfl, by simp, fun k hk => heap_grow_old _ _ (by simpa using hk)⟩

set_option maxHeartbeats 4000000 in
theorem compareLabels_gr (x y : Lb) (w : World) : Calls Tryz.prog 82 #[lbV x, lbV y] w fun e w' => e = .returned (.int .i64 (o2 x y)) ∧ Gr w w' := by
  obtain ⟨x1, x2⟩ := x
  obtain ⟨y1, y2⟩ := y
  have K1 : Hid (∀ W, Calls Tryz.prog 100 #[.string x1, .string y1] W fun e w' => e = .returned (.int .i64 (od x1 y1)) ∧ w' = W) := fun W => compare_any x1 y1 W
  have K2 : Hid (∀ W, Calls Tryz.prog 100 #[.string x2, .string y2] W fun e w' => e = .returned (.int .i64 (od x2 y2)) ∧ w' = W) := fun W => compare_any x2 y2 W
  show Calls Tryz.prog 82 _ _ fun e w' => e = .returned (.int .i64 (if od x1 y1 = 0 then od x2 y2 else od x1 y1)) ∧ _
  generalize od x1 y1 = C at *
  generalize od x2 y2 = D at *
  obtain ⟨E, hE⟩ : ∃ E, E = if C = 0 then D else C := ⟨_, rfl⟩
  rw [← hE]
  have K3 : Hid (∀ (W : World) (g : Nat), g = W.heap.size → Calls Tryz.prog 128 #[.slice (some ⟨g, 0, none⟩) 2 2] (W.alloc (.cells #[.int .i64 C, .int .i64 D] 3)).drew fun e w' => e = .returned (.int .i64 E) ∧ w' = (W.alloc (.cells #[.int .i64 C, .int .i64 D] 3)).drew) := fun W g hg => by
    subst hg
    have e : ((W.alloc (.cells #[.int .i64 C, .int .i64 D] 3)).drew).heap[W.heap.size]? = some (.cells #[.int .i64 C, .int .i64 D] 3) := heap_alloc_new W _
    rw [hE]
    exact or_two _ C D _ (by unfold World.cell?; rw [e]; rfl) (by unfold World.cell?; rw [e]; rfl)
  have HB : Hid (Gr w ((w.alloc (lbX (x1, x2))).alloc (lbX (y1, y2)))) := ((Gr.refl w).alloc _).alloc _
  have h1 : (w.alloc (lbX (x1, x2))).heap[w.heap.size]? = some (lbX (x1, x2)) := heap_alloc_new w _
  have h2 : ((w.alloc (lbX (x1, x2))).alloc (lbX (y1, y2))).heap[w.heap.size + 1]? = some (lbX (y1, y2)) := by have := heap_alloc_new (w.alloc (lbX (x1, x2))) (lbX (y1, y2)); simpa using this
  have b1 : Below (w.alloc (lbX (x1, x2))).heap.size (w.alloc (lbX (x1, x2))) ((w.alloc (lbX (x1, x2))).alloc (lbX (y1, y2))) := (Below.refl _ _).alloc (Nat.le_refl _) _
  have c0 : ((w.alloc (lbX (x1, x2))).alloc (lbX (y1, y2))).cell? ⟨w.heap.size, 0, none⟩ = some (.string x1) := bcell2 b1 (by unfold World.cell?; rw [h1]; rfl)
  have c1 : ((w.alloc (lbX (x1, x2))).alloc (lbX (y1, y2))).cell? ⟨w.heap.size, 1, none⟩ = some (.string x2) := bcell2 b1 (by unfold World.cell?; rw [h1]; rfl)
  have d0 : ((w.alloc (lbX (x1, x2))).alloc (lbX (y1, y2))).cell? ⟨w.heap.size + 1, 0, none⟩ = some (.string y1) := by unfold World.cell?; rw [h2]; rfl
  have d1 : ((w.alloc (lbX (x1, x2))).alloc (lbX (y1, y2))).cell? ⟨w.heap.size + 1, 1, none⟩ = some (.string y2) := by unfold World.cell?; rw [h2]; rfl
  have hsz : ((w.alloc (lbX (x1, x2))).alloc (lbX (y1, y2))).heap.size = w.heap.size + 2 := by simp
  clear hE h1 h2 b1
  go_enter Tryz.func82, Tryz.ntmps82
  go_wp2_with fail
  generalize hWW : (w.alloc (lbX (x1, x2))).alloc (lbX (y1, y2)) = W at *
  have bb : Below W.heap.size W (W.alloc (.cells #[.int .i64 C, .int .i64 D] 3)).drew := ((Below.refl _ W).alloc (Nat.le_refl _) _).drew
  have HF : Hid (Gr w (W.alloc (.cells #[.int .i64 C, .int .i64 D] 3)).drew) := (HB.out.alloc _).drew
  have HS : Hid ((W.alloc (.cells #[.int .i64 C, .int .i64 D] 3)).drew.cell? ⟨w.heap.size, 0, none⟩ = some (.string x1) ∧ (W.alloc (.cells #[.int .i64 C, .int .i64 D] 3)).drew.cell? ⟨w.heap.size, 1, none⟩ = some (.string x2) ∧ (W.alloc (.cells #[.int .i64 C, .int .i64 D] 3)).drew.cell? ⟨w.heap.size + 1, 0, none⟩ = some (.string y1) ∧ (W.alloc (.cells #[.int .i64 C, .int .i64 D] 3)).drew.cell? ⟨w.heap.size + 1, 1, none⟩ = some (.string y2)) := ⟨bcell2 bb c0, bcell2 bb c1, bcell2 bb d0, bcell2 bb d1⟩
  have k3 := K3.out W W.heap.size rfl
  clear bb HB hWW hsz K3
  go_region_held3 (fun w' => w'.cell? ⟨w.heap.size, 0, none⟩ = some (.string x1) ∧ w'.cell? ⟨w.heap.size, 1, none⟩ = some (.string x2) ∧ w'.cell? ⟨w.heap.size + 1, 0, none⟩ = some (.string y1) ∧ w'.cell? ⟨w.heap.size + 1, 1, none⟩ = some (.string y2)) (first | exact ⟨c0, c1, d0, d1⟩ | exact HS.out) (first | (go_at_call 100; go_fit (K1.out _); rintro e w1 ⟨rfl, rfl⟩) | (go_at_call 100; go_fit (K2.out _); rintro e w1 ⟨rfl, rfl⟩) | (go_at_call 128; go_fit k3; rintro e w1 ⟨rfl, rfl⟩))
  go_wp2
  go_ret
  exact ⟨rfl, HF.out⟩
set_option maxHeartbeats 2000000 in
theorem compareFunc_gr (a b : Option Addr) (n m c d : Nat) (f g : Nat → Lb) (w : World) (ha : Lm w a f n) (hb : Lm w b g m) (hn : n ≤ 1152921504606846976) (_hm : m ≤ 1152921504606846976) :
    Calls Tryz.prog 81 #[.slice a n c, .slice b m d, .func (.func 82) #[] #[]] w fun e w' => e = .returned (.int .i64 (cm f n g m)) ∧ Gr w w' := by
  have HA : Hid (Lm w a f n) := ha
  have HB : Hid (Lm w b g m) := hb
  obtain ⟨C, hC⟩ : ∃ C, C = cm f n g m := ⟨_, rfl⟩
  have HC : Hid (cmF f g m (n - 0) 0 = C) := hC.symm
  rw [← hC]
  clear ha hb hC
  go_enter Tryz.func81, Tryz.ntmps81
  go_wp2
  go_loopw [13] (fun t w' => ∃ i : Nat, t = .int .i64 (i : Int) ∧ i ≤ n ∧ (i = 0 ∨ i ≤ m) ∧ Hid (cmF f g m (n - i) i = C) ∧ Hid (Gr w w')) (fun t _ => n - (RowKit.intOf t).toNat)
  case atStart => exact ⟨0, rfl, by omega, .inl rfl, HC, Gr.refl _⟩
  case round =>
    obtain ⟨i, rfl, hi, him0, HI, HW⟩ := hrel
    by_cases hlt : i < n
    · have hii : (i : Int) < n := by omega
      have hb1 : 0 ≤ (i : Int) ∧ (i : Int) < (n : Int) := by omega
      obtain ⟨g1, p1, rfl, _, x0, x1⟩ := HA.out.at i hlt
      have hb' : Below w.heap.size w wr := HW.out.below
      have e0 := bcell2 hb' x0
      have e1 := bcell2 hb' x1
      by_cases hmm : i < m
      · have him : ¬ (m : Int) ≤ i := by omega
        have hb2 : 0 ≤ (i : Int) ∧ (i : Int) < (m : Int) := by omega
        obtain ⟨g2, p2, rfl, hg2, y0, y1⟩ := HB.out.at i hmm
        obtain ⟨x, hx⟩ : ∃ x, f i = x := ⟨_, rfl⟩
        obtain ⟨y, hy⟩ : ∃ y, g i = y := ⟨_, rfl⟩
        have ba : Below wr.heap.size wr (wr.alloc (lbX x)) := (Below.refl _ _).alloc (Nat.le_refl _) _
        have d0 := bcell2 ba (bcell2 hb' y0)
        have d1 := bcell2 ba (bcell2 hb' y1)
        rw [hx] at e0 e1
        rw [hy] at d0 d1
        have k := compareLabels_gr x y ((wr.alloc (lbX x)).alloc (lbX y))
        have HO : Hid (o2 (f i) (g i) = o2 x y) := by unfold Hid; rw [hx, hy]
        have HBB : Hid (∀ w2, Gr ((wr.alloc (lbX x)).alloc (lbX y)) w2 → Gr w w2) := (show ∀ w2, _ → _ from fun w2 b2 => ((HW.out.alloc _).alloc _).trans b2)
        clear hx hy x0 x1 y0 y1 hb' ba
        obtain ⟨s1, s2⟩ := x
        obtain ⟨t1, t2⟩ := y
        dsimp only at e0 e1 d0 d1
        by_cases hz : o2 (s1, s2) (t1, t2) = 0
        · rw [hz] at k
          have HC2 : Hid (cmF f g m (n - (i + 1)) (i + 1) = C) := by
            unfold Hid
            rw [← cmF_eq hlt hmm (HO.out.trans hz)]
            exact HI.out
          clear hz HO
          go_wp2_with fail
          go_fit k
          rintro e w2 ⟨rfl, b2⟩
          have HN : Hid (Gr w w2) := HBB.out w2 b2
          clear k b2 HBB
          go_wp2
          exact ⟨⟨i + 1, by go_num, by omega, .inr (by omega), HC2, HN⟩, by simp [RowKit.intOf]; omega⟩
        · have HC2 : Hid (C = o2 (s1, s2) (t1, t2)) := by
            unfold Hid
            rw [← HO.out, ← HI.out]
            exact cmF_ne hlt hmm (fun h => hz (HO.out ▸ h))
          generalize o2 (s1, s2) (t1, t2) = Z at *
          have hz1 : (Z != 0) = true := by simpa using hz
          clear HO
          go_wp2_with fail
          go_fit k
          rintro e w2 ⟨rfl, b2⟩
          have HN : Hid (Gr w w2) := HBB.out w2 b2
          clear k b2 HBB
          go_wp2
          go_ret
          exact ⟨by rw [HC2.out]; rfl, HN.out⟩
      · have him : (m : Int) ≤ i := by omega
        have HE : Hid (C = 1) := by unfold Hid; rw [← HI.out]; exact cmF_out hlt hmm
        obtain ⟨⟨s1, s2⟩, hx⟩ : ∃ x, f i = x := ⟨_, rfl⟩
        rw [hx] at e0 e1
        dsimp only at e0 e1
        have HN : Hid (Gr w (wr.alloc (lbX (s1, s2)))) := HW.out.alloc _
        clear hx x0 x1 hb'
        go_wp2
        go_ret
        exact ⟨by rw [HE.out]; rfl, HN.out⟩
    · have hii : ¬ (i : Int) < n := by omega
      obtain rfl : i = n := by omega
      have HE : Hid (C = if i < m then -1 else 0) := by unfold Hid; rw [← HI.out]; exact cmF_end rfl
      by_cases hmm : i < m
      · have h2 : (i : Int) < (m : Int) := by omega
        rw [if_pos hmm] at HE
        go_wp2
        go_ret
        exact ⟨by rw [HE.out]; rfl, HW.out⟩
      · have h2 : ¬ (i : Int) < (m : Int) := by omega
        rw [if_neg hmm] at HE
        go_wp2
        go_ret
        exact ⟨by rw [HE.out]; rfl, HW.out⟩
theorem compareList_gr (a b : Option Addr) (n m c d : Nat) (f g : Nat → Lb) (w : World) (ha : Lm w a f n) (hb : Lm w b g m) (hn : n ≤ 1152921504606846976) (hm : m ≤ 1152921504606846976) :
    Calls Tryz.prog 54 #[.slice a n c, .slice b m d] w fun e w' => e = .returned (.int .i64 (cm f n g m)) ∧ Gr w w' := by
  have k := compareFunc_gr a b n m c d f g w ha hb hn hm
  generalize cm f n g m = C at *
  clear ha hb
  go_enter Tryz.func54, Tryz.ntmps54
  go_wp2_with fail
  go_fit k
  rintro e w2 ⟨rfl, b2⟩
  have H2 : Hid _ := b2
  clear k b2
  go_wp2
  go_ret
  exact ⟨rfl, H2.out⟩
end Go.Proofs.YtebjklppbkkinaaGreatDoor
/- The shelf's slices.SortFunc at the elements, in plain words. -/
namespace Go.Proofs
open Go.Shelf
def Tryz.sortEl_ren : Go.Shelf.Ren := ⟨fun | 6 => 43 | 15 => 75 | 14 => 74 | 28 => 112 | 29 => 113 | 20 => 104 | 21 => 105 | 22 => 106 | 23 => 107 | 24 => 108 | 25 => 109 | 26 => 110 | 27 => 111 | 46 => 154 | 47 => 155 | 48 => 156 | 49 => 157 | 50 => 158 | 57 => 198 | n => n, fun | 22 => 22 | 24 => 31 | 25 => 77 | 3 => 3 | 39 => 103 | 0 => 0 | 53 => 133 | 55 => 65 | 4 => 4 | 46 => 127 | 45 => 126 | 50 => 120 | 5 => 5 | 9 => 9 | 66 => 159 | 70 => 163 | 76 => 183 | 77 => 184 | n => n, fun | n => n⟩
theorem Tryz.sortEl : Go.Proofs.SlLaysF0.n6 Tryz.prog Tryz.sortEl_ren := {
  mixed := by kernel_rfl
  f6 := ⟨Tryz.f43.name, by decide, Tryz.func43.trans (congrArg some (by kernel_rfl))⟩
  f14 := ⟨Tryz.f74.name, by decide, Tryz.func74.trans (congrArg some (by kernel_rfl))⟩
  f15 := Tryz.func75.trans (congrArg some (by kernel_rfl))
  f20 := ⟨Tryz.f104.name, by decide, Tryz.func104.trans (congrArg some (by kernel_rfl))⟩
  f21 := ⟨Tryz.f105.name, by decide, Tryz.func105.trans (congrArg some (by kernel_rfl))⟩
  f22 := ⟨Tryz.f106.name, by decide, Tryz.func106.trans (congrArg some (by kernel_rfl))⟩
  f23 := ⟨Tryz.f107.name, by decide, Tryz.func107.trans (congrArg some (by kernel_rfl))⟩
  f24 := ⟨Tryz.f108.name, by decide, Tryz.func108.trans (congrArg some (by kernel_rfl))⟩
  f25 := ⟨Tryz.f109.name, by decide, Tryz.func109.trans (congrArg some (by kernel_rfl))⟩
  f26 := ⟨Tryz.f110.name, by decide, Tryz.func110.trans (congrArg some (by kernel_rfl))⟩
  f27 := ⟨Tryz.f111.name, by decide, Tryz.func111.trans (congrArg some (by kernel_rfl))⟩
  f28 := Tryz.func112.trans (congrArg some (by kernel_rfl))
  f29 := Tryz.func113.trans (congrArg some (by kernel_rfl))
  f46 := ⟨Tryz.f154.name, by decide, Tryz.func154.trans (congrArg some (by kernel_rfl))⟩
  f47 := Tryz.func155.trans (congrArg some (by kernel_rfl))
  f48 := Tryz.func156.trans (congrArg some (by kernel_rfl))
  f49 := ⟨Tryz.f157.name, by decide, Tryz.func157.trans (congrArg some (by kernel_rfl))⟩
  f50 := ⟨Tryz.f158.name, by decide, Tryz.func158.trans (congrArg some (by kernel_rfl))⟩
  f57 := ⟨Tryz.f198.name, by decide, Tryz.func198.trans (congrArg some (by kernel_rfl))⟩
  t0 := Tryz.underlying0
  a0 := Tryz.isAgg0
  z0 := Tryz.sizeOf0
  v0 := Tryz.zeroValue0
  t3 := Tryz.underlying3
  a3 := Tryz.isAgg3
  z3 := Tryz.sizeOf3
  v3 := Tryz.zeroValue3
  t4 := Tryz.underlying4
  a4 := Tryz.isAgg4
  z4 := Tryz.sizeOf4
  v4 := Tryz.zeroValue4
  t5 := Tryz.underlying5
  a5 := Tryz.isAgg5
  z5 := Tryz.sizeOf5
  v5 := Tryz.zeroValue5
  t9 := Tryz.underlying9
  a9 := Tryz.isAgg9
  z9 := Tryz.sizeOf9
  v9 := Tryz.zeroValue9
  t22 := Tryz.underlying22
  a22 := Tryz.isAgg22
  z22 := Tryz.sizeOf22
  v22 := Tryz.zeroValue22
  t25 := Tryz.underlying77
  a25 := Tryz.isAgg77
  z25 := Tryz.sizeOf77
  v25 := Tryz.zeroValue77
  t39 := Tryz.underlying103
  a39 := Tryz.isAgg103
  z39 := Tryz.sizeOf103
  v39 := Tryz.zeroValue103
  t45 := Tryz.underlying126
  a45 := Tryz.isAgg126
  z45 := Tryz.sizeOf126
  v45 := Tryz.zeroValue126
  t46 := Tryz.underlying127
  a46 := Tryz.isAgg127
  z46 := Tryz.sizeOf127
  v46 := Tryz.zeroValue127
  t50 := Tryz.underlying120
  a50 := Tryz.isAgg120
  z50 := Tryz.sizeOf120
  v50 := Tryz.zeroValue120
  t53 := Tryz.underlying133
  a53 := Tryz.isAgg133
  z53 := Tryz.sizeOf133
  v53 := Tryz.zeroValue133
  t55 := Tryz.underlying65
  a55 := Tryz.isAgg65
  z55 := Tryz.sizeOf65
  v55 := Tryz.zeroValue65
  t66 := Tryz.underlying159
  a66 := Tryz.isAgg159
  z66 := Tryz.sizeOf159
  v66 := Tryz.zeroValue159
  t70 := Tryz.underlying163
  a70 := Tryz.isAgg163
  z70 := Tryz.sizeOf163
  v70 := Tryz.zeroValue163
  t76 := Tryz.underlying183
  a76 := Tryz.isAgg183
  z76 := Tryz.sizeOf183
  v76 := Tryz.zeroValue183
  t77 := Tryz.underlying184
  a77 := Tryz.isAgg184
  z77 := Tryz.sizeOf184
  v77 := Tryz.zeroValue184 }
end Go.Proofs
