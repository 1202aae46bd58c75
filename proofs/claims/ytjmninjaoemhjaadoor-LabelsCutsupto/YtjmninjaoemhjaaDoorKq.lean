/- The reference's With. -/
import Derived.Test.YtjmninjaoemhjaaDoorKp
namespace Go.Proofs.YtjmninjaoemhjaaDoor.K
open Go.RowKit Go.Lib

attribute [local go_sem] Oper.semAt_some

def gtB (x y : ByteArray) : Bool := !(Op.bytesLess x.toList y.toList || x.toList == y.toList)
/-- With, under way: the labels, and whether the new one is put. -/
def rwS (nm vl : ByteArray) (s : List Lb × Bool) (l : Lb) : List Lb × Bool :=
  if (l.1.toList == nm.toList) then s else if (!s.2 && gtB l.1 nm) then (s.1 ++ [(nm, vl)] ++ [l], true) else (s.1 ++ [l], s.2)
def rwF (f : Nat → Lb) (nm vl : ByteArray) : Nat → List Lb × Bool
  | 0 => ([], vl.toList.isEmpty)
  | i + 1 => rwS nm vl (rwF f nm vl i) (f i)
def rwL (f : Nat → Lb) (nm vl : ByteArray) (n : Nat) : List Lb := if (rwF f nm vl n).2 then (rwF f nm vl n).1 else (rwF f nm vl n).1 ++ [(nm, vl)]
theorem rwF_le (f : Nat → Lb) (nm vl : ByteArray) : ∀ i, (rwF f nm vl i).1.length ≤ i + (if (rwF f nm vl i).2 then 1 else 0)
  | 0 => by simp [rwF]
  | i + 1 => by
    have ih := rwF_le f nm vl i
    show (rwS nm vl (rwF f nm vl i) (f i)).1.length ≤ i + 1 + (if (rwS nm vl (rwF f nm vl i) (f i)).2 then 1 else 0)
    unfold rwS
    split
    · omega
    · split
      · rename_i h
        simp at h
        rw [h.1] at ih
        simp at ih ⊢
        omega
      · simp
        omega
end Go.Proofs.YtjmninjaoemhjaaDoor.K
