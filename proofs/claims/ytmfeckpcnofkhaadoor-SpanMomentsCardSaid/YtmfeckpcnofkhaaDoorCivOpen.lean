/- A struct of ten numbers that is handed in. -/
import Derived.Test.YtmfeckpcnofkhaaDoorMomA
import Derived.ProofKit
namespace Go.Proofs.YtmfeckpcnofkhaaDoor
open Go.ChangeShapes Go.WideShapes Go.ChangeAt Go.RowKit

set_option maxRecDepth 100000 in
theorem civ_open {H : Type} {enc : TypeId × Value → H} {W : World} {base : Nat} {sp : Nat → Bool} {held : Bool} {fuel : Nat} {cs : Array Value} {x : DataW H × List MemPlace} (hsz : cs.size = 10)
    (hf : DataW.trod enc Tryd.prog W base sp held fuel 23 cs.toList = some x) : ∃ Y M D h mi s ml x1 x2 x3 : Int, (.agg cs : Value) = ag Y M D h mi s ml x1 x2 x3 := by
  obtain ⟨xs, n, rfl, hx, hl, hxl, hall⟩ := DataW.trod_struct Tryd.underlying23 hf
  have hxl' : xs.length = 10 := hxl
  have c3 : Tryd.prog.cellsOf 3 = 1 := by kernel_rfl
  have key : ∀ i, i < 10 → DataW.trod enc Tryd.prog W base sp held n 3 ((cs.toList.drop i).take 1) = xs[i]? → ∃ z : Int, cs[i]? = some (.int .i64 z) := by
    intro i hi h
    rw [List.getElem?_eq_getElem (by omega)] at h
    obtain ⟨z, hz, _, _⟩ := DataW.trod_int Tryd.underlying3 h
    refine ⟨z, ?_⟩
    have := congrArg (·[0]?) hz
    simpa [List.getElem?_take, List.getElem?_drop] using this
  have a0 : DataW.trod enc Tryd.prog W base sp held n 3 ((cs.toList.drop 0).take (Tryd.prog.cellsOf 3)) = xs[0]? := hall 0 _ rfl
  have a1 : DataW.trod enc Tryd.prog W base sp held n 3 ((cs.toList.drop 1).take (Tryd.prog.cellsOf 3)) = xs[1]? := hall 1 _ rfl
  have a2 : DataW.trod enc Tryd.prog W base sp held n 3 ((cs.toList.drop 2).take (Tryd.prog.cellsOf 3)) = xs[2]? := hall 2 _ rfl
  have a3 : DataW.trod enc Tryd.prog W base sp held n 3 ((cs.toList.drop 3).take (Tryd.prog.cellsOf 3)) = xs[3]? := hall 3 _ rfl
  have a4 : DataW.trod enc Tryd.prog W base sp held n 3 ((cs.toList.drop 4).take (Tryd.prog.cellsOf 3)) = xs[4]? := hall 4 _ rfl
  have a5 : DataW.trod enc Tryd.prog W base sp held n 3 ((cs.toList.drop 5).take (Tryd.prog.cellsOf 3)) = xs[5]? := hall 5 _ rfl
  have a6 : DataW.trod enc Tryd.prog W base sp held n 3 ((cs.toList.drop 6).take (Tryd.prog.cellsOf 3)) = xs[6]? := hall 6 _ rfl
  have a7 : DataW.trod enc Tryd.prog W base sp held n 3 ((cs.toList.drop 7).take (Tryd.prog.cellsOf 3)) = xs[7]? := hall 7 _ rfl
  have a8 : DataW.trod enc Tryd.prog W base sp held n 3 ((cs.toList.drop 8).take (Tryd.prog.cellsOf 3)) = xs[8]? := hall 8 _ rfl
  have a9 : DataW.trod enc Tryd.prog W base sp held n 3 ((cs.toList.drop 9).take (Tryd.prog.cellsOf 3)) = xs[9]? := hall 9 _ rfl
  rw [c3] at a0 a1 a2 a3 a4 a5 a6 a7 a8 a9
  obtain ⟨z0, e0⟩ := key 0 (by omega) a0
  obtain ⟨z1, e1⟩ := key 1 (by omega) a1
  obtain ⟨z2, e2⟩ := key 2 (by omega) a2
  obtain ⟨z3, e3⟩ := key 3 (by omega) a3
  obtain ⟨z4, e4⟩ := key 4 (by omega) a4
  obtain ⟨z5, e5⟩ := key 5 (by omega) a5
  obtain ⟨z6, e6⟩ := key 6 (by omega) a6
  obtain ⟨z7, e7⟩ := key 7 (by omega) a7
  obtain ⟨z8, e8⟩ := key 8 (by omega) a8
  obtain ⟨z9, e9⟩ := key 9 (by omega) a9
  refine ⟨z0, z1, z2, z3, z4, z5, z6, z7, z8, z9, ?_⟩
  congr 1
  apply Array.ext_getElem?
  intro i
  by_cases hi : i < 10
  · have : i = 0 ∨ i = 1 ∨ i = 2 ∨ i = 3 ∨ i = 4 ∨ i = 5 ∨ i = 6 ∨ i = 7 ∨ i = 8 ∨ i = 9 := by omega
    rcases this with rfl | rfl | rfl | rfl | rfl | rfl | rfl | rfl | rfl | rfl
    · exact e0
    · exact e1
    · exact e2
    · exact e3
    · exact e4
    · exact e5
    · exact e6
    · exact e7
    · exact e8
    · exact e9
  · rw [Array.getElem?_eq_none (by omega), Array.getElem?_eq_none (by simp; omega)]
end Go.Proofs.YtmfeckpcnofkhaaDoor
