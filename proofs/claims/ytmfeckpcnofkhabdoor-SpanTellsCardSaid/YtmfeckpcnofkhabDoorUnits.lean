/- The table of units. -/
import Derived.Test.YtmfeckpcnofkhabDoorRows
import Derived.Lib.LaidU8
import Derived.WalkKit
import Derived.Below
namespace Go.Proofs.YtmfeckpcnofkhabDoor
open Go.Lib Go.RowKit

/-- A unit's name and length. -/
def uname : Nat → ByteArray
  | 0 => ⟨#[121]⟩ | 1 => ⟨#[119]⟩ | 2 => ⟨#[100]⟩ | 3 => ⟨#[104]⟩ | 4 => ⟨#[109]⟩ | 5 => ⟨#[115]⟩ | _ => ⟨#[109, 115]⟩
def ulen : Nat → Int
  | 0 => 31536000000 | 1 => 604800000 | 2 => 86400000 | 3 => 3600000 | 4 => 60000 | 5 => 1000 | _ => 1
/-- The table lies in this world. -/
def Units (w : World) : Prop := 0 < w.heap.size ∧ ∀ i, i < 7 → w.cell? ⟨0, 2 * i, none⟩ = some (.string (uname i)) ∧ w.cell? ⟨0, 2 * i + 1, none⟩ = some (.int .i64 (ulen i))
theorem Units.below {w w' : World} {B : Nat} (h : Units w) (hb : Below B w w') (hB : 0 < B) : Units w' :=
  ⟨Nat.lt_of_lt_of_le h.1 hb.size, fun i hi => by rw [hb.cell hB, hb.cell hB]; exact h.2 i hi⟩
theorem Units.belowS {w w' : World} (h : Units w) (hb : Below w.heap.size w w') : Units w' := h.below hb h.1

theorem bytes_ext {s : ByteArray} {l : List UInt8} (h : s.data.toList = l) : s = ⟨l.toArray⟩ := by
  cases s with
  | mk d => simp at h; subst h; simp

set_option maxRecDepth 100000 in
theorem units_elem {W : World} {fuel : Nat} {cs : List Value} {s : List UInt8} {z : Int} {p : List MemPlace}
    (h : DataW.trod (fun _ => ()) Tryd.prog W 0 (fun _ => true) false fuel 38 cs = some (.agg [.lit (.string s), .lit (.int .i64 z)], p)) : cs = [.string ⟨s.toArray⟩, .int .i64 z] := by
  obtain ⟨xs, n, rfl, hx, hl, hxl, hall⟩ := DataW.trod_struct Tryd.underlying38 h
  have c9 : Tryd.prog.cellsOf 9 = 1 := by kernel_rfl
  have c2 : Tryd.prog.cellsOf 2 = 1 := by kernel_rfl
  have c42 : Tryd.prog.cellsOf 38 = 2 := by kernel_rfl
  have a0 : DataW.trod (fun _ => ()) Tryd.prog W 0 (fun _ => true) false n 9 ((cs.drop 0).take (Tryd.prog.cellsOf 9)) = xs[0]? := hall 0 _ rfl
  have a1 : DataW.trod (fun _ => ()) Tryd.prog W 0 (fun _ => true) false n 2 ((cs.drop 1).take (Tryd.prog.cellsOf 2)) = xs[1]? := hall 1 _ rfl
  rw [c9] at a0
  rw [c2] at a1
  clear hall hxl
  rw [c42] at hl
  have hxs : xs.map (·.1) = [.lit (.string s), .lit (.int .i64 z)] := by
    have := congrArg Prod.fst hx
    simpa using this.symm
  have hlen : xs.length = 2 := by have := congrArg List.length hxs; simpa using this
  obtain ⟨x0, x1, rfl⟩ : ∃ x0 x1, xs = [x0, x1] := by
    clear hx hxs a0 a1
    match xs, hlen with
    | [x0, x1], _ => exact ⟨x0, x1, rfl⟩
  obtain ⟨v0, v1, rfl⟩ : ∃ v0 v1, cs = [v0, v1] := by
    clear h a0 a1
    match cs, hl with
    | [v0, v1], _ => exact ⟨v0, v1, rfl⟩
  simp at hxs
  simp only [List.drop, List.take, List.getElem?_cons_zero, List.getElem?_cons_succ] at a0 a1
  obtain ⟨b, h1, h2, _⟩ := DataW.trod_string Tryd.underlying9 a0
  obtain ⟨m, h3, h4, _⟩ := DataW.trod_int Tryd.underlying2 a1
  rw [h2, h4] at hxs
  simp at hxs h1 h3
  rw [h1, h3, bytes_ext hxs.1, hxs.2]

theorem units_of {W : World} {l : List (String × DataW Unit)} (h : laidMetH Tryd.prog l W) (hm : ("weir/span.units", Rows.laid_weir_span_units) ∈ l) (hl : laidMetH Tryd.prog l W = laidMet Tryd.prog l W) : Units W := by
  rw [hl] at h
  obtain ⟨g, t, cs, fuel, p, hg, hty, hvar, hd⟩ := Lib.laidMet.reads h hm
  obtain rfl : g = 0 := Option.some.inj ((show Tryd.prog.globalNamed "weir/span.units" = some 0 by kernel_rfl).symm.trans hg) |>.symm
  obtain rfl : t = 39 := Option.some.inj ((show (Tryd.prog.globals[0]?).map (·.type) = some 39 by kernel_rfl).symm.trans hty) |>.symm
  have c42 : Tryd.prog.cellsOf 38 = 2 := by kernel_rfl
  have all : ∀ i, i < 7 → W.cell? ⟨0, 2 * i, none⟩ = some (.string (uname i)) ∧ W.cell? ⟨0, 2 * i + 1, none⟩ = some (.int .i64 (ulen i)) := by
    intro i hi
    obtain ⟨fuel', d, q, hdi, he⟩ := array_elem Tryd.underlying39 hd i hi
    rw [c42] at he
    have k : ∃ s, d = .agg [.lit (.string s), .lit (.int .i64 (ulen i))] ∧ uname i = ⟨s.toArray⟩ := by
      have : i = 0 ∨ i = 1 ∨ i = 2 ∨ i = 3 ∨ i = 4 ∨ i = 5 ∨ i = 6 := by omega
      rcases this with rfl | rfl | rfl | rfl | rfl | rfl | rfl
      all_goals exact ⟨_, (Option.some.inj hdi).symm, rfl⟩
    obtain ⟨s, rfl, hs⟩ := k
    have hcs := units_elem he
    have e0 := congrArg (·[0]?) hcs
    have e1 := congrArg (·[1]?) hcs
    simp only [List.getElem?_take, List.getElem?_drop] at e0 e1
    rw [hs]
    constructor
    · rw [World.var?_cell hg hvar (2 * i), ← Array.getElem?_toList]
      simpa [Nat.mul_comm] using e0
    · rw [World.var?_cell hg hvar (2 * i + 1), ← Array.getElem?_toList]
      simpa [Nat.mul_comm] using e1
  exact ⟨World.block_lt_of_cell? _ _ (all 0 (by omega)).1, all⟩
end Go.Proofs.YtmfeckpcnofkhabDoor
