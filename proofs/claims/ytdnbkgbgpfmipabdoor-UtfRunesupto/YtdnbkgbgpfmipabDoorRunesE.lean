/- UtfRunes: four rows handed to apart; texts1 of any list. -/
import Derived.Test.YtdnbkgbgpfmipabDoorApC
namespace Go.Proofs.YtdnbkgbgpfmipabDoor
open Go.RowKit Go.Lib

def four {α : Type} (a b c d : α) (i : Nat) : α := if i = 0 then a else if i = 1 then b else if i = 2 then c else d
theorem four_all {α : Type} {P : Nat → α → Prop} {a b c d : α} (h0 : P 0 a) (h1 : P 1 b) (h2 : P 2 c) (h3 : P 3 d) : ∀ i, i < 4 → P i (four a b c d i) := fun i hi => by
  match i, hi with
  | 0, _ => exact h0
  | 1, _ => exact h1
  | 2, _ => exact h2
  | 3, _ => exact h3

/-- Four rows that were made one behind the other are handed to apart. -/
theorem apart_four (B s1 s2 s3 : Nat) (v0 v1 v2 v3 : Value) (x0 x1 x2 x3 : List Int) (w : World) (hB : B ≤ w.heap.size) (hs3 : s1 ≤ s2 ∧ s2 ≤ s3 ∧ B ≤ s1)
    (l0 : x0.length ≤ 1048577) (l1 : x1.length ≤ 1048577) (l2 : x2.length ≤ 1048577) (l3 : x3.length ≤ 1048577)
    (o0 : Own B w v0 x0) (o1 : Own B w v1 x1) (o2 : Own B w v2 x2) (o3 : Own B w v3 x3)
    (c0 : ∀ g, v0.ownBlock = some g → g < s1) (c1 : ∀ g, v1.ownBlock = some g → s1 ≤ g ∧ g < s2) (c2 : ∀ g, v2.ownBlock = some g → s2 ≤ g ∧ g < s3) (c3 : ∀ g, v3.ownBlock = some g → s3 ≤ g) :
    Calls Tryd.prog 18 #[.slice (some ⟨w.heap.size, 0, none⟩) 4 4] (w.alloc (.cells #[v0, v1, v2, v3] 22)) fun e w' => e = .returned (.bool true) ∧ Below B (w.alloc (.cells #[v0, v1, v2, v3] 22)) w' := by
  have hl : ∀ (v : Value) (x : List Int), Own B w v x → ∀ g, v.ownBlock = some g → g ≠ w.heap.size := fun v x o g hg => by have := (o.blk g hg).2; omega
  have hb : ∀ (v : Value) (x : List Int), Own B w v x → ∀ g, v.ownBlock = some g → B ≤ g := fun v x o g hg => (o.blk g hg).1
  let col : Nat → Nat := fun b => if b = w.heap.size then 4 else if b < B then 7 else if b < s1 then 0 else if b < s2 then 1 else if b < s3 then 2 else 3
  refine apart_any B w.heap.size (four v0 v1 v2 v3) (four x0 x1 x2 x3) col _ (four_all (P := fun _ (x : List Int) => x.length ≤ 1048577) l0 l1 l2 l3) ⟨?_, ?_, ?_, ?_⟩ ?_
  · have hn : (w.alloc (.cells #[v0, v1, v2, v3] 22)).heap[w.heap.size]? = some (.cells #[v0, v1, v2, v3] 22) := heap_alloc_new w _
    have hc : ∀ i v, (#[v0, v1, v2, v3] : Array Value)[i]? = some v → (w.alloc (.cells #[v0, v1, v2, v3] 22)).cell? ⟨w.heap.size, i, none⟩ = some v := fun i v h => by
      unfold World.cell?
      rw [hn]
      simpa using h
    exact four_all (P := fun i v => (w.alloc (.cells #[v0, v1, v2, v3] 22)).cell? ⟨w.heap.size, i, none⟩ = some v) (hc 0 v0 rfl) (hc 1 v1 rfl) (hc 2 v2 rfl) (hc 3 v3 rfl)
  · show (if w.heap.size = w.heap.size then 4 else _) = 4
    rw [if_pos rfl]
  · intro b hcb
    have hcb' : (if b = w.heap.size then 4 else if b < B then 7 else if b < s1 then 0 else if b < s2 then 1 else if b < s3 then 2 else 3) < 7 := hcb
    split at hcb'
    · omega
    · split at hcb'
      · omega
      · omega
  · simp
    omega
  · intro i hi
    rw [if_neg (by omega)]
    have mk : ∀ (k : Nat) (v : Value) (x : List Int), Own B w v x → (∀ g, v.ownBlock = some g → col g = k) → OwnC B col k (w.alloc (.cells #[v0, v1, v2, v3] 22)) v x := fun k v x o h => ⟨World.ownsRow.alloc o _, h⟩
    have cc : ∀ (v : Value) (x : List Int), Own B w v x → ∀ g, v.ownBlock = some g → col g = (if g < s1 then 0 else if g < s2 then 1 else if g < s3 then 2 else 3) := fun v x o g hg => by
      show (if g = w.heap.size then 4 else if g < B then 7 else if g < s1 then 0 else if g < s2 then 1 else if g < s3 then 2 else 3) = _
      rw [if_neg (hl v x o g hg), if_neg (by have := hb v x o g hg; omega)]
    match i, hi with
    | 0, _ => exact mk 0 v0 x0 o0 (fun g hg => by rw [cc v0 x0 o0 g hg, if_pos (c0 g hg)])
    | 1, _ => exact mk 1 v1 x1 o1 (fun g hg => by rw [cc v1 x1 o1 g hg, if_neg (by have := c1 g hg; omega), if_pos (c1 g hg).2])
    | 2, _ => exact mk 2 v2 x2 o2 (fun g hg => by rw [cc v2 x2 o2 g hg, if_neg (by have := c2 g hg; omega), if_neg (by have := c2 g hg; omega), if_pos (c2 g hg).2])
    | 3, _ => exact mk 3 v3 x3 o3 (fun g hg => by rw [cc v3 x3 o3 g hg, if_neg (by have := c3 g hg; omega), if_neg (by have := c3 g hg; omega), if_neg (by have := c3 g hg; omega)])

/-- A list that came in, wherever it lies. -/
def ListIn (w : World) (a : Option Addr) (xs : List Int) : Prop := xs.length ≤ 1048576 ∧ (∀ j, j < xs.length → -2147483648 ≤ xs.getD j 0 ∧ xs.getD j 0 ≤ 2147483647) ∧ (xs = [] ∨ ∃ g o, a = some ⟨g, o, none⟩ ∧ RunesAt w g o xs)
theorem ListIn.below {w w' : World} {a : Option Addr} {xs : List Int} (h : ListIn w a xs) (hb : Below w.heap.size w w') : ListIn w' a xs := by
  refine ⟨h.1, h.2.1, ?_⟩
  rcases h.2.2 with h0 | ⟨g, o, rfl, hr⟩
  · exact .inl h0
  · exact .inr ⟨g, o, rfl, fun j hj => (hb.cell (p := ⟨g, o + j, none⟩) (lt_of_cell (hr j hj))).trans (hr j hj)⟩
theorem texts1_in (a : Option Addr) (c : Nat) (xs : List Int) (w : World) (h : ListIn w a xs) : Calls Tryd.prog 19 #[.slice a xs.length c] w fun e w' => e = .returned (.bool true) ∧ Below w.heap.size w w' := by
  rcases h.2.2 with rfl | hr
  · refine texts1_gen a c [] w h.1 ?_ ?_ (fun w' G _ _ => same_none _ _ _ _ w')
    · cases a with
      | none => exact .inl ⟨rfl, rfl⟩
      | some x => exact .inr ⟨x, rfl, fun j u hj => by simp [rcells] at hj⟩
    · refine (rtext_none a c w).mono ?_
      rintro e w' ⟨rfl, rfl⟩
      exact ⟨rfl, Below.refl _ _⟩
  · exact texts1_any a c xs w h.1 h.2.1 (.inr hr)
end Go.Proofs.YtdnbkgbgpfmipabDoor
