/- Sorted of any less: the things are drawn out of the pile. -/
import Derived.Test.YtcgpjmpppajfdaaIa
import Derived.Test.YtcgpjmpppajfdaaDa
namespace Go.Proofs.Ytcgpjmpppajfdaa
open Go.RowKit Go.Shelf

attribute [local go_sem] Oper.semAt_some

theorem drain_any (pt : Option Addr) (w : World) : Calls Try.prog 20 #[.pointer pt] w fun r w' => r = .returned (.func (.func 43) #[] #[.pointer (some ⟨w.heap.size, 0, none⟩)]) ∧ w' = w.alloc (.cells #[.pointer pt] 28) := by
  go_enter Try.func20, Try.ntmps20
  go_wp2
  go_ret
  exact ⟨rfl, rfl⟩

/-- How many things lie in the pile at b. -/
def lenAt (b : Nat) (W : World) : Nat := match W.cell? ⟨b, 1, none⟩ with | some (.slice _ n _) => n | _ => 0
theorem Pl.lenAt {w : World} {b bx n m : Nat} {lv v : Value} {f : Nat → Rk} (h : Pl w b bx lv v n f m) : lenAt b w = n := by
  obtain ⟨a, c, rfl⟩ := slice_of h.hp.row
  unfold Ytcgpjmpppajfdaa.lenAt
  rw [h.hp.ls]

/-- The things that come out, in their order. -/
def outL (A : Rk → Rk → Bool) : Nat → (Nat → Rk) → List It
  | 0, _ => []
  | p + 1, f => (f 0).1 :: outL A p (sinkF A p (up f 0 (f p)) 0)
/-- What is in a pile when all of a list have been put in. -/
def inF (A : Rk → Rk → Bool) (f0 : Nat → Rk) (xs : Nat → It) : Nat → Nat → Rk
  | 0 => f0
  | n + 1 => riseF A (up (inF A f0 xs n) n (xs n, ((n : Nat) : Int))) n
end Go.Proofs.Ytcgpjmpppajfdaa
