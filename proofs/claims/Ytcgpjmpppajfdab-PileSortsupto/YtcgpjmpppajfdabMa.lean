
/- PileMuddled: counts; what comes out is what was put in. -/
import Derived.Test.YtcgpjmpppajfdabSd
import Derived.Deep.AppendSrc
namespace Go.Proofs.Ytcgpjmpppajfdab
open Go.RowKit

theorem outL_perm (A : Rk → Rk → Bool) : ∀ (p : Nat) (f : Nat → Rk), (outL A p f).Perm ((el f p).map (·.1))
  | 0, _ => List.Perm.refl _
  | p + 1, f => by
    rw [outL]
    have h1 := outL_perm A p (sinkF A p (up f 0 (f p)) 0)
    have h2 := (el_pop A f p).map (·.1)
    rw [List.map_cons] at h2
    exact (List.Perm.cons _ h1).trans h2
/-- A list of things as a list. -/
def il (xs : Nat → It) (n : Nat) : List It := (List.range n).map xs
theorem il_succ (xs : Nat → It) (n : Nat) : il xs (n + 1) = il xs n ++ [xs n] := by
  unfold il
  rw [List.range_succ, List.map_append]
  rfl
theorem il_lk (l : List It) : il (lk l) l.length = l := by
  apply List.ext_getElem
  · simp [il]
  · intro j h1 h2
    simp [il, lk, List.getD, h2]
theorem inF_perm (A : Rk → Rk → Bool) (f0 : Nat → Rk) (xs : Nat → It) : ∀ n, ((el (inF A f0 xs n) n).map (·.1)).Perm (il xs n)
  | 0 => List.Perm.refl _
  | n + 1 => by
    have h := (el_push A (inF A f0 xs n) n (xs n, (n : Int))).map (·.1)
    rw [il_succ]
    refine h.trans ?_
    rw [List.map_append]
    exact (inF_perm A f0 xs n).append_right _
theorem out_all (A : Rk → Rk → Bool) (f0 : Nat → Rk) (xs : Nat → It) (n : Nat) : (outL A n (inF A f0 xs n)).Perm (il xs n) := (outL_perm A n _).trans (inF_perm A f0 xs n)

/-- How often a thing stands in a list. -/
def cnt (x : It) (xs : Nat → It) (n : Nat) : Nat := (il xs n).countP (eqB x)
theorem cnt_succ (x : It) (xs : Nat → It) (n : Nat) : cnt x xs (n + 1) = cnt x xs n + if eqB x (xs n) = true then 1 else 0 := by
  unfold cnt
  rw [il_succ, List.countP_append, List.countP_singleton]
theorem cnt_le (x : It) (xs : Nat → It) (n : Nat) : cnt x xs n ≤ n := by
  unfold cnt
  have := List.countP_le_length (p := eqB x) (l := il xs n)
  simpa [il] using this
theorem cnt_out (A : Rk → Rk → Bool) (f0 : Nat → Rk) (xs : Nat → It) (n : Nat) (x : It) : cnt x (lk (outL A n (inF A f0 xs n))) n = cnt x xs n := by
  unfold cnt
  have e := il_lk (outL A n (inF A f0 xs n))
  rw [outL_len] at e
  rw [e]
  exact (out_all A f0 xs n).countP_eq _

end Go.Proofs.Ytcgpjmpppajfdab
