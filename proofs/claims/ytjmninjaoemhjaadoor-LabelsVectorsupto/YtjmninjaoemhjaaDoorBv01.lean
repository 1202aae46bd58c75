/- A bundle of texts. -/
import Derived.Shelf.SlLaysF0
import Derived.Shelf.SlGeneric
import Derived.Test.YtjmninjaoemhjaaDoorProg
import Derived.Shelf.Small.Utf8
import Derived.Shelf.Unicode.DecodeAny
import Derived.WalkKit
import Derived.Below
import Derived.Laws.OwnMore
import Derived.Laws.MakeOwn
import Derived.Laws.AppendOwn
import Derived.Laws.StructEq
import Derived.Maps.AppendAt
import Derived.Deep.RegionLaw
import Derived.Deep.RegionHeld3
import Derived.BigRegion
import Derived.Lib.QuietBelow
import Derived.BigQuiet
import Derived.Deep.DeepFit
import Derived.Lib.Bytealg
import Derived.Lib.Strings
import Derived.Laws.Cover1
import Derived.Deep.RegionWith
import Derived.Shelf.Small.Bits
import Derived.Shelf.Small.Strs
import Derived.Shelf.LaysM
import Derived.Shelf.Strconv.Clone
import Derived.Lib.DecodeN
import Derived.Lib.OthersKept
import Derived.WalkSmall
import Derived.LoopTactic
import Derived.WideShapes
/- The shelf's slices.SortFunc at the labels, in plain words. -/
namespace Go.Proofs
open Go.Shelf
def Tryd.sortLb_ren : Go.Shelf.Ren := ⟨fun | 6 => 30 | 15 => 57 | 14 => 56 | 28 => 82 | 29 => 83 | 20 => 74 | 21 => 75 | 22 => 76 | 23 => 77 | 24 => 78 | 25 => 79 | 26 => 80 | 27 => 81 | 46 => 102 | 47 => 103 | 48 => 104 | 49 => 105 | 50 => 106 | 57 => 116 | n => n, fun | 22 => 22 | 24 => 26 | 25 => 60 | 3 => 3 | 39 => 85 | 0 => 0 | 53 => 107 | 55 => 109 | 4 => 4 | 46 => 101 | 45 => 100 | 50 => 91 | 5 => 5 | 9 => 9 | 66 => 121 | 70 => 125 | 76 => 133 | 77 => 134 | n => n, fun | n => n⟩
theorem Tryd.sortLb : Go.Proofs.SlLaysF0.n6 Tryd.prog Tryd.sortLb_ren := {
  mixed := by kernel_rfl
  f6 := ⟨Tryd.f30.name, by decide, Tryd.func30.trans (congrArg some (by kernel_rfl))⟩
  f14 := ⟨Tryd.f56.name, by decide, Tryd.func56.trans (congrArg some (by kernel_rfl))⟩
  f15 := Tryd.func57.trans (congrArg some (by kernel_rfl))
  f20 := ⟨Tryd.f74.name, by decide, Tryd.func74.trans (congrArg some (by kernel_rfl))⟩
  f21 := ⟨Tryd.f75.name, by decide, Tryd.func75.trans (congrArg some (by kernel_rfl))⟩
  f22 := ⟨Tryd.f76.name, by decide, Tryd.func76.trans (congrArg some (by kernel_rfl))⟩
  f23 := ⟨Tryd.f77.name, by decide, Tryd.func77.trans (congrArg some (by kernel_rfl))⟩
  f24 := ⟨Tryd.f78.name, by decide, Tryd.func78.trans (congrArg some (by kernel_rfl))⟩
  f25 := ⟨Tryd.f79.name, by decide, Tryd.func79.trans (congrArg some (by kernel_rfl))⟩
  f26 := ⟨Tryd.f80.name, by decide, Tryd.func80.trans (congrArg some (by kernel_rfl))⟩
  f27 := ⟨Tryd.f81.name, by decide, Tryd.func81.trans (congrArg some (by kernel_rfl))⟩
  f28 := Tryd.func82.trans (congrArg some (by kernel_rfl))
  f29 := Tryd.func83.trans (congrArg some (by kernel_rfl))
  f46 := ⟨Tryd.f102.name, by decide, Tryd.func102.trans (congrArg some (by kernel_rfl))⟩
  f47 := Tryd.func103.trans (congrArg some (by kernel_rfl))
  f48 := Tryd.func104.trans (congrArg some (by kernel_rfl))
  f49 := ⟨Tryd.f105.name, by decide, Tryd.func105.trans (congrArg some (by kernel_rfl))⟩
  f50 := ⟨Tryd.f106.name, by decide, Tryd.func106.trans (congrArg some (by kernel_rfl))⟩
  f57 := ⟨Tryd.f116.name, by decide, Tryd.func116.trans (congrArg some (by kernel_rfl))⟩
  t0 := Tryd.underlying0
  a0 := Tryd.isAgg0
  z0 := Tryd.sizeOf0
  v0 := Tryd.zeroValue0
  t3 := Tryd.underlying3
  a3 := Tryd.isAgg3
  z3 := Tryd.sizeOf3
  v3 := Tryd.zeroValue3
  t4 := Tryd.underlying4
  a4 := Tryd.isAgg4
  z4 := Tryd.sizeOf4
  v4 := Tryd.zeroValue4
  t5 := Tryd.underlying5
  a5 := Tryd.isAgg5
  z5 := Tryd.sizeOf5
  v5 := Tryd.zeroValue5
  t9 := Tryd.underlying9
  a9 := Tryd.isAgg9
  z9 := Tryd.sizeOf9
  v9 := Tryd.zeroValue9
  t22 := Tryd.underlying22
  a22 := Tryd.isAgg22
  z22 := Tryd.sizeOf22
  v22 := Tryd.zeroValue22
  t25 := Tryd.underlying60
  a25 := Tryd.isAgg60
  z25 := Tryd.sizeOf60
  v25 := Tryd.zeroValue60
  t39 := Tryd.underlying85
  a39 := Tryd.isAgg85
  z39 := Tryd.sizeOf85
  v39 := Tryd.zeroValue85
  t45 := Tryd.underlying100
  a45 := Tryd.isAgg100
  z45 := Tryd.sizeOf100
  v45 := Tryd.zeroValue100
  t46 := Tryd.underlying101
  a46 := Tryd.isAgg101
  z46 := Tryd.sizeOf101
  v46 := Tryd.zeroValue101
  t50 := Tryd.underlying91
  a50 := Tryd.isAgg91
  z50 := Tryd.sizeOf91
  v50 := Tryd.zeroValue91
  t53 := Tryd.underlying107
  a53 := Tryd.isAgg107
  z53 := Tryd.sizeOf107
  v53 := Tryd.zeroValue107
  t55 := Tryd.underlying109
  a55 := Tryd.isAgg109
  z55 := Tryd.sizeOf109
  v55 := Tryd.zeroValue109
  t66 := Tryd.underlying121
  a66 := Tryd.isAgg121
  z66 := Tryd.sizeOf121
  v66 := Tryd.zeroValue121
  t70 := Tryd.underlying125
  a70 := Tryd.isAgg125
  z70 := Tryd.sizeOf125
  v70 := Tryd.zeroValue125
  t76 := Tryd.underlying133
  a76 := Tryd.isAgg133
  z76 := Tryd.sizeOf133
  v76 := Tryd.zeroValue133
  t77 := Tryd.underlying134
  a77 := Tryd.isAgg134
  z77 := Tryd.sizeOf134
  v77 := Tryd.zeroValue134 }
end Go.Proofs
/- The contract of the library's decoder at this program, laid in plain words by the guide's lay-shelf and lay-plain. -/
namespace Go.Proofs
open Go.Shelf Go.RowKit Go.Lib
def Tryd.lays197_ren : Go.Shelf.Ren := ⟨fun | 197 => 101 | 260 => 115 | n => n, fun | 9 => 9 | 21 => 21 | 3 => 3 | 4 => 4 | 5 => 5 | 105 => 96 | 119 => 142 | 0 => 0 | 46 => 85 | 139 => 145 | 138 => 144 | n => n, fun | 3 => 1 | 4 => 2 | n => n⟩
theorem Tryd.lays197 : Go.Proofs.Lays.n197 Tryd.prog Tryd.lays197_ren := {
  mixed := by kernel_rfl
  f197 := Tryd.func101.trans (congrArg some (by kernel_rfl))
  f260 := Tryd.func115.trans (congrArg some (by kernel_rfl))
  t0 := Tryd.underlying0
  a0 := Tryd.isAgg0
  z0 := Tryd.sizeOf0
  v0 := Tryd.zeroValue0
  t3 := Tryd.underlying3
  a3 := Tryd.isAgg3
  z3 := Tryd.sizeOf3
  v3 := Tryd.zeroValue3
  t4 := Tryd.underlying4
  a4 := Tryd.isAgg4
  z4 := Tryd.sizeOf4
  v4 := Tryd.zeroValue4
  t5 := Tryd.underlying5
  a5 := Tryd.isAgg5
  z5 := Tryd.sizeOf5
  v5 := Tryd.zeroValue5
  t9 := Tryd.underlying9
  a9 := Tryd.isAgg9
  z9 := Tryd.sizeOf9
  v9 := Tryd.zeroValue9
  t21 := Tryd.underlying21
  a21 := Tryd.isAgg21
  z21 := Tryd.sizeOf21
  v21 := Tryd.zeroValue21
  t46 := Tryd.underlying85
  a46 := Tryd.isAgg85
  z46 := Tryd.sizeOf85
  v46 := Tryd.zeroValue85
  t105 := Tryd.underlying96
  a105 := Tryd.isAgg96
  z105 := Tryd.sizeOf96
  v105 := Tryd.zeroValue96
  t119 := Tryd.underlying142
  a119 := Tryd.isAgg142
  z119 := Tryd.sizeOf142
  t138 := Tryd.underlying144
  a138 := Tryd.isAgg144
  z138 := Tryd.sizeOf144
  v138 := Tryd.zeroValue144
  t139 := Tryd.underlying145
  a139 := Tryd.isAgg145
  z139 := Tryd.sizeOf145
  v139 := Tryd.zeroValue145
  g3 := by kernel_rfl
  g4 := by kernel_rfl }
theorem Tryd.utf8_DecodeRuneInString (s : ByteArray) (w : World) (hT : Lib.Utf8Tabs 1 2 w) :
    Calls Tryd.prog 101 #[.string s] w fun e w' => e = .returned (.tuple #[.int .i32 (Lib.decodeGo s).1, .int .i64 (Lib.decodeGo s).2]) ∧ Below w.heap.size w w' := Any.utf8_DecodeRuneInString Tryd.lays197 s w hT
end Go.Proofs
/- Labels: their order, and rows of them in memory. -/
namespace Go.Proofs.YtjmninjaoemhjaaDoor
open Go.RowKit

abbrev Lb := ByteArray × ByteArray
/-- One text against another. -/
def od (x y : ByteArray) : Int := Lib.compareBytes x.data.toList y.data.toList
theorem cb_less : ∀ l m : List UInt8, (Lib.compareBytes l m = -1 ∧ Op.bytesLess l m = true ∧ (l == m) = false) ∨ (Lib.compareBytes l m = 0 ∧ Op.bytesLess l m = false ∧ (l == m) = true) ∨ (Lib.compareBytes l m = 1 ∧ Op.bytesLess l m = false ∧ (l == m) = false)
  | [], [] => .inr (.inl ⟨rfl, rfl, rfl⟩)
  | [], _ :: _ => .inl ⟨rfl, rfl, rfl⟩
  | _ :: _, [] => .inr (.inr ⟨rfl, rfl, rfl⟩)
  | a :: l, b :: m => by
    have ih := cb_less l m
    by_cases h1 : a < b
    · have hne : a ≠ b := fun e => by subst e; exact absurd h1 (UInt8.lt_irrefl a)
      left
      simp [Lib.compareBytes, Op.bytesLess, h1, hne]
    · by_cases h2 : b < a
      · have hne : a ≠ b := fun e => by subst e; exact absurd h2 (UInt8.lt_irrefl a)
        right; right
        simp [Lib.compareBytes, Op.bytesLess, h1, h2, hne]
      · have he : a = b := UInt8.le_antisymm (UInt8.not_lt.1 h2) (UInt8.not_lt.1 h1)
        subst he
        simpa [Lib.compareBytes, Op.bytesLess, h1] using ih
theorem od_cases (x y : ByteArray) : (od x y = -1 ∧ Op.bytesLess x.toList y.toList = true ∧ (x.toList == y.toList) = false) ∨ (od x y = 0 ∧ Op.bytesLess x.toList y.toList = false ∧ (x.toList == y.toList) = true) ∨ (od x y = 1 ∧ Op.bytesLess x.toList y.toList = false ∧ (x.toList == y.toList) = false) := by
  rw [Lib.toList_data, Lib.toList_data]
  exact cb_less _ _
/-- One label against another. -/
def o2 (a b : Lb) : Int := if od a.1 b.1 = 0 then od a.2 b.2 else od a.1 b.1
/-- Labels from a place on, against others; k of the first are left. -/
def cmF (f g : Nat → Lb) (m : Nat) : Nat → Nat → Int
  | 0, i => if i < m then -1 else 0
  | k + 1, i => if i < m then (if o2 (f i) (g i) = 0 then cmF f g m k (i + 1) else o2 (f i) (g i)) else 1
def cm (f : Nat → Lb) (n : Nat) (g : Nat → Lb) (m : Nat) : Int := cmF f g m n 0
theorem cmF_end {f g : Nat → Lb} {m n i : Nat} (h : i = n) : cmF f g m (n - i) i = if i < m then -1 else 0 := by
  rw [show n - i = 0 by omega]; rfl
theorem cmF_out {f g : Nat → Lb} {m n i : Nat} (h : i < n) (hm : ¬ i < m) : cmF f g m (n - i) i = 1 := by
  rw [show n - i = (n - i - 1) + 1 by omega]
  unfold cmF
  rw [if_neg hm]
theorem cmF_eq {f g : Nat → Lb} {m n i : Nat} (h : i < n) (hm : i < m) (h0 : o2 (f i) (g i) = 0) : cmF f g m (n - i) i = cmF f g m (n - (i + 1)) (i + 1) := by
  rw [show n - i = (n - (i + 1)) + 1 by omega]
  conv => lhs; unfold cmF
  rw [if_pos hm, if_pos h0]
theorem cmF_ne {f g : Nat → Lb} {m n i : Nat} (h : i < n) (hm : i < m) (h0 : ¬ o2 (f i) (g i) = 0) : cmF f g m (n - i) i = o2 (f i) (g i) := by
  rw [show n - i = (n - i - 1) + 1 by omega]
  unfold cmF
  rw [if_pos hm, if_neg h0]

/-- Labels that a slice shows. -/
def Lm (w : World) (a : Option Addr) (f : Nat → Lb) (n : Nat) : Prop := n = 0 ∨ ∃ g o, a = some ⟨g, o, none⟩ ∧ g < w.heap.size ∧ ∀ j, j < n → w.cell? ⟨g, o + j * 2, none⟩ = some (.string (f j).1) ∧ w.cell? ⟨g, o + j * 2 + 1, none⟩ = some (.string (f j).2)
theorem Lm.below {w w' : World} {a : Option Addr} {f : Nat → Lb} {n : Nat} (h : Lm w a f n) (hb : Below w.heap.size w w') : Lm w' a f n := by
  rcases h with h | ⟨g, o, rfl, hg, hc⟩
  · exact .inl h
  · exact .inr ⟨g, o, rfl, Nat.lt_of_lt_of_le hg hb.size, fun j hj => ⟨(hb.cell (p := ⟨g, o + j * 2, none⟩) hg).trans (hc j hj).1, (hb.cell (p := ⟨g, o + j * 2 + 1, none⟩) hg).trans (hc j hj).2⟩⟩
theorem Lm.at {w : World} {a : Option Addr} {f : Nat → Lb} {n : Nat} (h : Lm w a f n) (j : Nat) (hj : j < n) : ∃ g o, a = some ⟨g, o, none⟩ ∧ g < w.heap.size ∧ w.cell? ⟨g, o + j * 2, none⟩ = some (.string (f j).1) ∧ w.cell? ⟨g, o + j * 2 + 1, none⟩ = some (.string (f j).2) := by
  rcases h with h | ⟨g, o, rfl, hg, hat⟩
  · omega
  · exact ⟨g, o, rfl, hg, hat j hj⟩
theorem bcell2 {w w' : World} {p : Addr} {v : Value} (b : Below w.heap.size w w') (h : w.cell? p = some v) : w'.cell? p = some v := by
  rw [b.cell (World.block_lt_of_cell? w p h)]
  exact h
theorem below_drewN {B : Nat} {a w : World} (h : Below B a w) (k : Nat) : Below B a (w.drewN k) := ⟨h.os, h.tape, h.output, h.size, h.block⟩
/-- Labels as cells. -/
def l2 (x : Lb) : List Value := [.string x.1, .string x.2]
def lc (f : Nat → Lb) (n : Nat) : List Value := (List.range n).flatMap fun j => l2 (f j)
theorem lc_succ (f : Nat → Lb) (n : Nat) : lc f (n + 1) = lc f n ++ l2 (f n) := by
  unfold lc
  rw [List.range_succ, List.flatMap_append]
  simp
theorem lc_len (f : Nat → Lb) (n : Nat) : (lc f n).length = n * 2 := by
  induction n with
  | zero => rfl
  | succ n ih => rw [lc_succ, List.length_append, ih]; simp [l2]; omega
theorem lc_get (f : Nat → Lb) : ∀ (n j k : Nat), j < n → k < 2 → (lc f n)[j * 2 + k]? = (l2 (f j))[k]?
  | 0, j, k, h, _ => by omega
  | n + 1, j, k, h, hk => by
    rw [lc_succ]
    by_cases hj : j < n
    · rw [List.getElem?_append_left (by rw [lc_len]; omega)]
      exact lc_get f n j k hj hk
    · obtain rfl : j = n := by omega
      rw [List.getElem?_append_right (by rw [lc_len]; omega), lc_len]
      congr 1
      omega
theorem lc_one (f : Nat → Lb) (n : Nat) : ∀ u ∈ lc f n, u.oneCell' = true := by
  intro u hu
  unfold lc at hu
  rw [List.mem_flatMap] at hu
  obtain ⟨j, _, hu⟩ := hu
  simp [l2] at hu
  rcases hu with rfl | rfl <;> rfl
theorem Lm.cells {w : World} {p : Addr} {f : Nat → Lb} {n : Nat} (h : Lm w (some p) f n) : ∀ j u, (lc f n)[j]? = some u → w.cell? (p.add j) = some u := by
  intro j u hj
  have hjl : j < n * 2 := by
    have := (List.getElem?_eq_some_iff.1 hj).1
    rw [lc_len] at this
    exact this
  rcases h with h | ⟨g, o, e, _, hc⟩
  · omega
  · cases e
    have hj2 : j / 2 * 2 + j % 2 = j := by omega
    rw [← hj2, lc_get f n (j / 2) (j % 2) (by omega) (by omega)] at hj
    obtain ⟨c0, c1⟩ := hc (j / 2) (by omega)
    rw [Go.WideShapes.add_plain]
    rcases Nat.mod_two_eq_zero_or_one j with h0 | h0
    · rw [h0] at hj
      simp [l2] at hj
      rw [show o + j = o + j / 2 * 2 by omega, c0, hj]
    · rw [h0] at hj
      simp [l2] at hj
      rw [show o + j = o + j / 2 * 2 + 1 by omega, c1, hj]
theorem Lm.of_row {w : World} {S n c : Nat} {a : Option Addr} {f : Nat → Lb} (h : w.ownsRow S 26 2 (.slice a n c) n (lc f n)) : Lm w a f n := by
  rcases h.2 with ⟨e, h0⟩ | ⟨g, cap, cur, e, _, hh, _⟩
  · exact .inl h0
  · cases e
    refine .inr ⟨g, 0, rfl, (Array.getElem?_eq_some_iff.1 hh).1, fun j hj => ?_⟩
    rw [Nat.zero_add]
    have h0 := World.ownsRow.cellAt h (j * 2) (by omega)
    have h1 := World.ownsRow.cellAt h (j * 2 + 1) (by omega)
    have e0 := lc_get f n j 0 hj (by omega)
    have e1 := lc_get f n j 1 hj (by omega)
    rw [Nat.add_zero] at e0
    exact ⟨h0.trans e0, h1.trans e1⟩
end Go.Proofs.YtjmninjaoemhjaaDoor
/- Labels: Compare on both sides, same. -/
namespace Go.Proofs.YtjmninjaoemhjaaDoor
open Go.RowKit

theorem call41 (x y : ByteArray) (w : World) : (callFunc 100 #[.string x, .string y]).run Tryd.prog w = .ok (.value (.int .i64 (od x y))) w := by
  rw [run_callFunc_extern Tryd.func100 (e := Extern.BytealgCompare.compare) (by kernel_rfl) (by kernel_rfl) (by kernel_rfl) (by kernel_rfl), Lib.run_compareString]
  rfl
set_option maxHeartbeats 1000000 in
theorem compare_any (x y : ByteArray) (w : World) : Calls Tryd.prog 52 #[.string x, .string y] w fun e w' => e = .returned (.int .i64 (od x y)) ∧ w' = w := by
  have k : ∀ w, Calls Tryd.prog 71 #[.string x, .string y] w fun e w' => e = .returned (.int .i64 (od x y)) ∧ w' = w := fun w => by
    have hc := call41 x y w
    generalize od x y = C at *
    go_enter Tryd.func71, Tryd.ntmps71
    go_wp2
    go_ret
    exact ⟨rfl, rfl⟩
  generalize od x y = C at *
  go_enter Tryd.func52, Tryd.ntmps52
  go_wp2_with fail
  go_fit (k _)
  rintro e w1 ⟨rfl, rfl⟩
  clear k
  go_wp2
  go_ret
  exact ⟨rfl, rfl⟩
set_option maxHeartbeats 1000000 in
theorem order_any (x y : ByteArray) (w : World) : Calls Tryd.prog 67 #[.string x, .string y] w fun e w' => e = .returned (.int .i64 (od x y)) ∧ w' = w := by
  rcases od_cases x y with ⟨h1, h2, h3⟩ | ⟨h1, h2, h3⟩ | ⟨h1, h2, h3⟩
  · rw [h1]
    go_enter Tryd.func67, Tryd.ntmps67
    go_wp2
    go_ret
    exact ⟨rfl, rfl⟩
  · rw [h1]
    go_enter Tryd.func67, Tryd.ntmps67
    go_wp2
    go_ret
    exact ⟨rfl, rfl⟩
  · rw [h1]
    go_enter Tryd.func67, Tryd.ntmps67
    go_wp2
    go_ret
    exact ⟨rfl, rfl⟩

abbrev lbV (x : Lb) : Value := .agg #[.string x.1, .string x.2]
abbrev lbX (x : Lb) : Obj := .cells #[.string x.1, .string x.2] 26
set_option maxHeartbeats 1000000 in
theorem or_two (g : Nat) (c d : Int) (w : World) (h0 : w.cell? ⟨g, 0, none⟩ = some (.int .i64 c)) (h1 : w.cell? ⟨g, 1, none⟩ = some (.int .i64 d)) :
    Calls Tryd.prog 51 #[.slice (some ⟨g, 0, none⟩) 2 2] w fun e w' => e = .returned (.int .i64 (if c = 0 then d else c)) ∧ w' = w := by
  go_enter Tryd.func51, Tryd.ntmps51
  go_wp2
  go_loopw [8] (fun t w' => ∃ i : Nat, t = .int .i64 (i : Int) ∧ i ≤ 2 ∧ (1 ≤ i → c = 0) ∧ (2 ≤ i → d = 0) ∧ w' = w) (fun t _ => 2 - (RowKit.intOf t).toNat)
  case atStart => exact ⟨0, rfl, by omega, by omega, by omega, rfl⟩
  case round =>
    obtain ⟨i, rfl, hi, hc, hd, rfl⟩ := hrel
    by_cases e0 : i = 0
    · subst e0
      by_cases c0 : c = 0
      · subst c0
        go_wp2
        exact ⟨⟨1, by go_num, by omega, fun _ => trivial, fun h => by omega, trivial⟩, by simp [RowKit.intOf]⟩
      · have c1 : (c != 0) = true := by simpa using c0
        go_wp2
        go_ret
        exact ⟨rfl, rfl⟩
    · have hc0 := hc (by omega)
      subst hc0
      by_cases e1 : i = 1
      · subst e1
        by_cases d0 : d = 0
        · subst d0
          go_wp2
          exact ⟨⟨2, by go_num, by omega, fun _ => trivial, fun _ => trivial, trivial⟩, by simp [RowKit.intOf]⟩
        · have d1 : (d != 0) = true := by simpa using d0
          go_wp2
          go_ret
          exact ⟨rfl, rfl⟩
      · obtain rfl : i = 2 := by omega
        have hd0 := hd (by omega)
        subst hd0
        go_wp2
        go_ret
        exact ⟨rfl, rfl⟩
end Go.Proofs.YtjmninjaoemhjaaDoor
/-
  DERIVED: THE SHELF's CONTRACTS AT THIS DUMP, IN PLAIN WORDS (tools/lay-plain.mjs out of 'TrydShelf.lean', which tools/lay-shelf.mjs wrote): THE SAME DECLARATIONS UNDER THE SAME NAMES: 'import', 'namespace', 'open', 'def', 'theorem' AND NOTHING ELSE: no command of the shelf's: FOR A HAND-IN. Each laying: the table of numbers ('.._ren') and one theorem, a field a fact of the dump's own or the kernel's comparison; each contract: ONE APPLICATION.
-/
namespace Go.Proofs
open Go.Shelf
def Tryd.lays128_ren : Go.Shelf.Ren := ⟨fun | 128 => 82 | n => n, fun | 51 => 107 | 3 => 3 | 4 => 4 | 46 => 85 | 5 => 5 | 9 => 9 | n => n, fun | n => n⟩
theorem Tryd.lays128 : Go.Proofs.Lays.n128 Tryd.prog Tryd.lays128_ren := {
  mixed := by kernel_rfl
  f128 := Tryd.func82.trans (congrArg some (by kernel_rfl))
  t3 := Tryd.underlying3
  a3 := Tryd.isAgg3
  z3 := Tryd.sizeOf3
  v3 := Tryd.zeroValue3
  t4 := Tryd.underlying4
  a4 := Tryd.isAgg4
  z4 := Tryd.sizeOf4
  v4 := Tryd.zeroValue4
  t5 := Tryd.underlying5
  a5 := Tryd.isAgg5
  z5 := Tryd.sizeOf5
  v5 := Tryd.zeroValue5
  t9 := Tryd.underlying9
  a9 := Tryd.isAgg9
  z9 := Tryd.sizeOf9
  v9 := Tryd.zeroValue9
  t46 := Tryd.underlying85
  a46 := Tryd.isAgg85
  z46 := Tryd.sizeOf85
  v46 := Tryd.zeroValue85
  t51 := Tryd.underlying107
  a51 := Tryd.isAgg107
  z51 := Tryd.sizeOf107
  v51 := Tryd.zeroValue107 }
/-- bits.Len32: "Len32 returns the minimum number of bits required to represent x; the result is 0 for x == 0.": IT RETURNS 'Lib.bitLen x'; the world is as it was. ('h0', 'h1': x is a uint32.) (LAID: no walk: one application.) -/
theorem Tryd.bits_Len32 (x : Int) (w : World) (h0 : 0 ≤ x) (h1 : x ≤ 4294967295) :
    Calls Tryd.prog 82 #[.int .u32 x] w fun e w' => e = .returned (.int .i64 (Lib.bitLen x.toNat)) ∧ w' = w := Any.bits_Len32 Tryd.lays128 x w h0 h1
def Tryd.lays125_ren : Go.Shelf.Ren := ⟨fun | 125 => 57 | 128 => 82 | 129 => 83 | n => n, fun | 46 => 85 | 3 => 3 | 51 => 107 | 53 => 109 | 4 => 4 | 5 => 5 | 9 => 9 | n => n, fun | n => n⟩
theorem Tryd.lays125 : Go.Proofs.Lays.n125 Tryd.prog Tryd.lays125_ren := {
  mixed := by kernel_rfl
  f125 := Tryd.func57.trans (congrArg some (by kernel_rfl))
  f128 := Tryd.func82.trans (congrArg some (by kernel_rfl))
  f129 := Tryd.func83.trans (congrArg some (by kernel_rfl))
  t3 := Tryd.underlying3
  a3 := Tryd.isAgg3
  z3 := Tryd.sizeOf3
  v3 := Tryd.zeroValue3
  t4 := Tryd.underlying4
  a4 := Tryd.isAgg4
  z4 := Tryd.sizeOf4
  v4 := Tryd.zeroValue4
  t5 := Tryd.underlying5
  a5 := Tryd.isAgg5
  z5 := Tryd.sizeOf5
  v5 := Tryd.zeroValue5
  t9 := Tryd.underlying9
  a9 := Tryd.isAgg9
  z9 := Tryd.sizeOf9
  v9 := Tryd.zeroValue9
  t46 := Tryd.underlying85
  a46 := Tryd.isAgg85
  z46 := Tryd.sizeOf85
  v46 := Tryd.zeroValue85
  t51 := Tryd.underlying107
  a51 := Tryd.isAgg107
  z51 := Tryd.sizeOf107
  v51 := Tryd.zeroValue107
  t53 := Tryd.underlying109
  a53 := Tryd.isAgg109
  z53 := Tryd.sizeOf109
  v53 := Tryd.zeroValue109 }
/-- bits.Len: "Len returns the minimum number of bits required to represent x; the result is 0 for x == 0.": IT RETURNS 'Lib.bitLen x'; the world is as it was. (A uint has 64 bits in the model.) ITS CALLEE bits.Len64 IS MET BY ITS OWN CONTRACT OFF THE SHELF (lay that first). (LAID: no walk: one application.) -/
theorem Tryd.bits_Len (x : Int) (w : World) (h0 : 0 ≤ x) (h1 : x ≤ 18446744073709551615) :
    Calls Tryd.prog 57 #[.int .u64 x] w fun e w' => e = .returned (.int .i64 (Lib.bitLen x.toNat)) ∧ w' = w := Any.bits_Len Tryd.lays125 x w h0 h1
def Tryd.lays129_ren : Go.Shelf.Ren := ⟨fun | 129 => 83 | n => n, fun | 53 => 109 | 3 => 3 | 4 => 4 | 46 => 85 | 5 => 5 | 9 => 9 | n => n, fun | n => n⟩
theorem Tryd.lays129 : Go.Proofs.Lays.n129 Tryd.prog Tryd.lays129_ren := {
  mixed := by kernel_rfl
  f129 := Tryd.func83.trans (congrArg some (by kernel_rfl))
  t3 := Tryd.underlying3
  a3 := Tryd.isAgg3
  z3 := Tryd.sizeOf3
  v3 := Tryd.zeroValue3
  t4 := Tryd.underlying4
  a4 := Tryd.isAgg4
  z4 := Tryd.sizeOf4
  v4 := Tryd.zeroValue4
  t5 := Tryd.underlying5
  a5 := Tryd.isAgg5
  z5 := Tryd.sizeOf5
  v5 := Tryd.zeroValue5
  t9 := Tryd.underlying9
  a9 := Tryd.isAgg9
  z9 := Tryd.sizeOf9
  v9 := Tryd.zeroValue9
  t46 := Tryd.underlying85
  a46 := Tryd.isAgg85
  z46 := Tryd.sizeOf85
  v46 := Tryd.zeroValue85
  t53 := Tryd.underlying109
  a53 := Tryd.isAgg109
  z53 := Tryd.sizeOf109
  v53 := Tryd.zeroValue109 }
/-- bits.Len64: "Len64 returns the minimum number of bits required to represent x; the result is 0 for x == 0.": IT RETURNS 'Lib.bitLen x'; the world is as it was. ('h0', 'h1': x is a uint64.) (LAID: no walk: one application.) -/
theorem Tryd.bits_Len64 (x : Int) (w : World) (h0 : 0 ≤ x) (h1 : x ≤ 18446744073709551615) :
    Calls Tryd.prog 83 #[.int .u64 x] w fun e w' => e = .returned (.int .i64 (Lib.bitLen x.toNat)) ∧ w' = w := Any.bits_Len64 Tryd.lays129 x w h0 h1
def Tryd.laysM316_ren : Go.Shelf.Ren := ⟨fun | 316 => 60 | n => n, fun | 9 => 9 | 3 => 3 | 4 => 4 | 37 => 95 | 0 => 0 | 127 => 110 | 5 => 5 | n => n, fun | n => n⟩
theorem Tryd.laysM316 : Go.Proofs.LaysM.n316 Tryd.prog Tryd.laysM316_ren := {
  mixed := by kernel_rfl
  f316 := Tryd.func60.trans (congrArg some (by kernel_rfl))
  t0 := Tryd.underlying0
  a0 := Tryd.isAgg0
  z0 := Tryd.sizeOf0
  v0 := Tryd.zeroValue0
  t3 := Tryd.underlying3
  a3 := Tryd.isAgg3
  z3 := Tryd.sizeOf3
  v3 := Tryd.zeroValue3
  t4 := Tryd.underlying4
  a4 := Tryd.isAgg4
  z4 := Tryd.sizeOf4
  v4 := Tryd.zeroValue4
  t9 := Tryd.underlying9
  a9 := Tryd.isAgg9
  z9 := Tryd.sizeOf9
  v9 := Tryd.zeroValue9
  t37 := Tryd.underlying95
  a37 := Tryd.isAgg95
  z37 := Tryd.sizeOf95
  v37 := Tryd.zeroValue95
  t127 := Tryd.underlying110
  a127 := Tryd.isAgg110
  z127 := Tryd.sizeOf110
  v127 := Tryd.zeroValue110
  t5 := Tryd.underlying5
  a5 := Tryd.isAgg5
  z5 := Tryd.sizeOf5
  v5 := Tryd.zeroValue5
  i0 := by kernel_rfl
  i3 := by kernel_rfl
  i4 := by kernel_rfl
  i5 := by kernel_rfl
  i9 := by kernel_rfl
  i37 := by kernel_rfl
  i127 := by kernel_rfl }
open Go.RowKit in
/-- internal/stringslite.Clone (what strings.Clone calls): "Clone returns a fresh copy of s.": THE SAME BYTES. Of what was there nothing has turned (a new row is laid, and frozen, where s is not empty). (LAID: no walk: one application.) -/
theorem Tryd.stringslite_Clone (s : ByteArray) (w : World) (hlim : s.size ≤ 281474976710656) :
    Calls Tryd.prog 60 #[.string s] w fun e w' => e = .returned (.string s) ∧ Below w.heap.size w w' := Any.stringslite_Clone Tryd.laysM316 s w hlim
end Go.Proofs
/- Labels: names, texts, copies. -/
namespace Go.Proofs.YtjmninjaoemhjaaDoor
open Go.RowKit Go.Lib

set_option maxHeartbeats 1000000 in
theorem isFirst_lo (c : Int) (w : World) (h1 : 97 ≤ c) (h2 : c ≤ 122) : Calls Tryd.prog 54 #[.int .u8 c] w fun e w' => e = .returned (.bool true) ∧ w' = w := by
  go_enter Tryd.func54, Tryd.ntmps54
  go_wp2
  go_ret
  exact ⟨rfl, rfl⟩
set_option maxHeartbeats 1000000 in
theorem isLater_lo (c : Int) (w : World) (h1 : 97 ≤ c) (h2 : c ≤ 122) : Calls Tryd.prog 53 #[.int .u8 c] w fun e w' => e = .returned (.bool true) ∧ w' = w := by
  have k := isFirst_lo c w h1 h2
  go_enter Tryd.func53, Tryd.ntmps53
  go_wp2_with fail
  go_fit k
  rintro e w1 ⟨rfl, rfl⟩
  go_wp2
  go_ret
  exact ⟨rfl, rfl⟩
set_option maxHeartbeats 2000000 in
set_option maxRecDepth 100000 in
theorem isLabel_1 (b : UInt8) (w : World) (h1 : 97 ≤ (b.toNat : Int)) (h2 : (b.toNat : Int) ≤ 122) : Calls Tryd.prog 27 #[.string ⟨#[b]⟩] w fun e w' => e = .returned (.bool true) ∧ w' = w := by
  have k1 := isLater_lo (b.toNat : Int) w h1 h2
  have k2 := isFirst_lo (b.toNat : Int) w h1 h2
  have hs : (⟨#[b]⟩ : ByteArray).size = 1 := rfl
  have hne : ((⟨#[b]⟩ : ByteArray).toList == (⟨#[]⟩ : ByteArray).toList) = false := by rw [Lib.toList_data, Lib.toList_data]; rfl
  go_enter Tryd.func27, Tryd.ntmps27
  go_wp2_with fail
  go_loopw [6] (fun t w' => (t = .int .i64 0 ∨ t = .int .i64 1) ∧ w' = w) (fun t _ => 1 - (RowKit.intOf t).toNat)
  case atStart => exact ⟨.inl rfl, rfl⟩
  case round =>
    obtain ⟨rfl | rfl, rfl⟩ := hrel
    · go_wp2_with fail
      go_fit k1
      rintro e w1 ⟨rfl, rfl⟩
      go_wp2
      exact ⟨⟨.inr rfl, trivial⟩, by decide⟩
    · go_wp2_with fail
      go_fit k2
      rintro e w1 ⟨rfl, rfl⟩
      go_wp2
      go_ret
      exact ⟨rfl, rfl⟩
theorem iterPos_at {w : World} {k : Nat} {s : ByteArray} {pos : Nat} (h : w.heap[k]? = some (.stringIter s pos)) : w.iterPos k = pos := by
  unfold World.iterPos; rw [h]
set_option maxRecDepth 100000 in
theorem begins_ok (s : ByteArray) (i r : Int) (w : World) (h : ¬ r = 65533) : Calls Tryd.prog 55 #[.string s, .int .i64 i, .int .i32 r] w fun e w' => e = .returned (.bool true) ∧ w' = w := by
  have e1 : (r != 65533) = true := by simpa using h
  go_enter Tryd.func55, Tryd.ntmps55
  go_wp2
  go_ret
  exact ⟨rfl, rfl⟩
theorem decode_width (s : ByteArray) (i : Nat) : 1 ≤ (Utf8.decode s i).2 ∧ (Utf8.decode s i).2 ≤ 4 := by
  rw [decode_at]
  unfold decodeN
  repeat' split
  all_goals simp
set_option maxRecDepth 1000000 in
set_option maxHeartbeats 1000000 in
theorem valid_ok (s : ByteArray) (w : World) (hd : ∀ pos, pos < s.size → ¬ ((Utf8.decode s pos).1 : Int) = 65533) :
    Calls Tryd.prog 28 #[.string s] w fun e w' => e = .returned (.bool true) ∧ Below w.heap.size w w' := by
  have HD : Hid (∀ pos, pos < s.size → ¬ ((Utf8.decode s pos).1 : Int) = 65533) := hd
  clear hd
  go_enter Tryd.func28, Tryd.ntmps28
  go_wp2
  go_loopw [] (fun w' => ∃ pos : Nat, w'.heap[w.heap.size]? = some (.stringIter s pos) ∧ Below w.heap.size w w') (fun w' => s.size - w'.iterPos w.heap.size)
  case atStart => exact ⟨0, World.iter_heap w s 0, (Below.refl _ _).alloc (Nat.le_refl _) _⟩
  case round =>
    obtain ⟨pos, hk, hbw⟩ := hrel
    by_cases hp : pos < s.size
    · have hnx : ∀ ty, (Instr.next (.pointer (some ⟨w.heap.size, 0, none⟩)) true ty).run Tryd.prog wr = _ := fun ty => run_next_any_at wr w.heap.size s pos ty hk hp
      have hwd := (decode_width s pos).1
      have hb1 : Below w.heap.size w (wr.iterAt w.heap.size s (pos + (Utf8.decode s pos).2)) := below_iterAt hbw (Nat.le_refl _) s _
      have hk1 := iterAt_heap wr w.heap.size s pos (pos + (Utf8.decode s pos).2) hk
      have cB := begins_ok s pos _ (wr.iterAt w.heap.size s (pos + (Utf8.decode s pos).2)) (HD.out pos hp)
      generalize hW : wr.iterAt w.heap.size s (pos + (Utf8.decode s pos).2) = W at *
      obtain ⟨K, hK⟩ : ∃ K, (Utf8.decode s pos).2 = K := ⟨_, rfl⟩
      obtain ⟨R, hR⟩ : ∃ R, (Utf8.decode s pos).1 = R := ⟨_, rfl⟩
      rw [hK] at hwd hk1
      rw [hR] at hnx cB
      have HW1 : Hid (W.heap[w.heap.size]? = some (.stringIter s (pos + K))) := hk1
      have HW2 : Hid (wr.heap[w.heap.size]? = some (.stringIter s pos)) := hk
      clear hK hk1 hW hR hk
      go_wp2_with (go_at_call 55; go_fit cB; rintro e w' ⟨rfl, rfl⟩)
      go_roundw
      case rel => exact ⟨pos + K, HW1.out, hb1⟩
      case measure =>
        rw [iterPos_at HW2.out, iterPos_at HW1.out]
        omega
    · have hnx : ∀ ty, (Instr.next (.pointer (some ⟨w.heap.size, 0, none⟩)) true ty).run Tryd.prog wr = _ := fun ty => run_next_end_at wr w.heap.size s pos ty hk hp
      clear hk
      go_wp2
      go_ret
      exact ⟨rfl, hbw⟩
theorem valid_1 (b : UInt8) (w : World) (h : b.toNat < 128) : Calls Tryd.prog 28 #[.string ⟨#[b]⟩] w fun e w' => e = .returned (.bool true) ∧ Below w.heap.size w w' := by
  refine valid_ok _ w fun pos hp => ?_
  have hp1 : pos < 1 := hp
  obtain rfl : pos = 0 := by omega
  rw [decode_at]
  unfold decodeN
  rw [if_pos (show ((⟨#[b]⟩ : ByteArray).get! 0).toNat < 128 from h)]
  show ¬ (b.toNat : Int) = 65533
  omega
set_option maxHeartbeats 1000000 in
theorem clone_any (s : ByteArray) (w : World) (hs : s.size ≤ 140737488355328) : Calls Tryd.prog 35 #[.string s] w fun e w' => e = .returned (.string s) ∧ Below w.heap.size w w' := by
  have k := Tryd.stringslite_Clone s w (by omega)
  go_enter Tryd.func35, Tryd.ntmps35
  go_wp2_with fail
  go_fit k
  rintro e w1 ⟨rfl, b1⟩
  have H1 : Hid _ := b1
  clear k b1
  go_wp2
  go_ret
  exact ⟨rfl, H1.out⟩
end Go.Proofs.YtjmninjaoemhjaaDoor
