/- A bundle of texts. -/
import Derived.Shelf.Small.Utf8
import Derived.Shelf.Unicode.DecodeAny
import Derived.Test.YtebjklppbkkinaaGreatDoorProg
import Derived.WalkKit
import Derived.Below
import Derived.Laws.OwnMore
import Derived.Laws.MakeOwn
import Derived.Laws.AppendOwn
import Derived.Laws.StructEq
import Derived.Maps.AppendAt
import Derived.Deep.RegionLaw
import Derived.Deep.RegionHeld3
import Derived.BigRegion
import Derived.Lib.QuietBelow
import Derived.BigQuiet
import Derived.Deep.DeepFit
import Derived.Lib.Bytealg
import Derived.Lib.Strings
import Derived.Laws.Cover1
import Derived.Deep.RegionWith
import Derived.Shelf.Small.Bits
import Derived.Shelf.Small.Strs
import Derived.Shelf.LaysM
import Derived.Shelf.Strconv.Clone
import Derived.Lib.DecodeN
import Derived.Lib.OthersKept
import Derived.WalkSmall
import Derived.LoopTactic
import Derived.WideShapes
import Derived.Lib.IndexBytes
import Derived.WalkLawsBesides
import Derived.WalkSpells
import Derived.Outline
/- The contract of the library's decoder at this program, laid in plain words by the guide's lay-shelf and lay-plain. -/
namespace Go.Proofs
open Go.Shelf Go.RowKit Go.Lib
def Tryz.lays197_ren : Go.Shelf.Ren := ⟨fun | 197 => 197 | 260 => 215 | n => n, fun | 9 => 9 | 21 => 21 | 3 => 3 | 4 => 4 | 5 => 5 | 105 => 140 | 119 => 204 | 0 => 0 | 46 => 103 | 139 => 207 | 138 => 206 | n => n, fun | 3 => 2 | 4 => 3 | n => n⟩
theorem Tryz.lays197 : Go.Proofs.Lays.n197 Tryz.prog Tryz.lays197_ren := {
  mixed := by kernel_rfl
  f197 := Tryz.func197.trans (congrArg some (by kernel_rfl))
  f260 := Tryz.func215.trans (congrArg some (by kernel_rfl))
  t0 := Tryz.underlying0
  a0 := Tryz.isAgg0
  z0 := Tryz.sizeOf0
  v0 := Tryz.zeroValue0
  t3 := Tryz.underlying3
  a3 := Tryz.isAgg3
  z3 := Tryz.sizeOf3
  v3 := Tryz.zeroValue3
  t4 := Tryz.underlying4
  a4 := Tryz.isAgg4
  z4 := Tryz.sizeOf4
  v4 := Tryz.zeroValue4
  t5 := Tryz.underlying5
  a5 := Tryz.isAgg5
  z5 := Tryz.sizeOf5
  v5 := Tryz.zeroValue5
  t9 := Tryz.underlying9
  a9 := Tryz.isAgg9
  z9 := Tryz.sizeOf9
  v9 := Tryz.zeroValue9
  t21 := Tryz.underlying21
  a21 := Tryz.isAgg21
  z21 := Tryz.sizeOf21
  v21 := Tryz.zeroValue21
  t46 := Tryz.underlying103
  a46 := Tryz.isAgg103
  z46 := Tryz.sizeOf103
  v46 := Tryz.zeroValue103
  t105 := Tryz.underlying140
  a105 := Tryz.isAgg140
  z105 := Tryz.sizeOf140
  v105 := Tryz.zeroValue140
  t119 := Tryz.underlying204
  a119 := Tryz.isAgg204
  z119 := Tryz.sizeOf204
  t138 := Tryz.underlying206
  a138 := Tryz.isAgg206
  z138 := Tryz.sizeOf206
  v138 := Tryz.zeroValue206
  t139 := Tryz.underlying207
  a139 := Tryz.isAgg207
  z139 := Tryz.sizeOf207
  v139 := Tryz.zeroValue207
  g3 := by kernel_rfl
  g4 := by kernel_rfl }
theorem Tryz.utf8_DecodeRuneInString (s : ByteArray) (w : World) (hT : Lib.Utf8Tabs 2 3 w) :
    Calls Tryz.prog 197 #[.string s] w fun e w' => e = .returned (.tuple #[.int .i32 (Lib.decodeGo s).1, .int .i64 (Lib.decodeGo s).2]) ∧ Below w.heap.size w w' := Any.utf8_DecodeRuneInString Tryz.lays197 s w hT
end Go.Proofs
/- Labels: their order, and rows of them in memory. -/
namespace Go.Proofs.YtebjklppbkkinaaGreatDoor
open Go.RowKit

abbrev Lb := ByteArray × ByteArray
/-- One text against another. -/
def od (x y : ByteArray) : Int := Lib.compareBytes x.data.toList y.data.toList
theorem cb_less : ∀ l m : List UInt8, (Lib.compareBytes l m = -1 ∧ Op.bytesLess l m = true ∧ (l == m) = false) ∨ (Lib.compareBytes l m = 0 ∧ Op.bytesLess l m = false ∧ (l == m) = true) ∨ (Lib.compareBytes l m = 1 ∧ Op.bytesLess l m = false ∧ (l == m) = false)
  | [], [] => .inr (.inl ⟨rfl, rfl, rfl⟩)
  | [], _ :: _ => .inl ⟨rfl, rfl, rfl⟩
  | _ :: _, [] => .inr (.inr ⟨rfl, rfl, rfl⟩)
  | a :: l, b :: m => by
    have ih := cb_less l m
    by_cases h1 : a < b
    · have hne : a ≠ b := fun e => by subst e; exact absurd h1 (UInt8.lt_irrefl a)
      left
      simp [Lib.compareBytes, Op.bytesLess, h1, hne]
    · by_cases h2 : b < a
      · have hne : a ≠ b := fun e => by subst e; exact absurd h2 (UInt8.lt_irrefl a)
        right; right
        simp [Lib.compareBytes, Op.bytesLess, h1, h2, hne]
      · have he : a = b := UInt8.le_antisymm (UInt8.not_lt.1 h2) (UInt8.not_lt.1 h1)
        subst he
        simpa [Lib.compareBytes, Op.bytesLess, h1] using ih
theorem od_cases (x y : ByteArray) : (od x y = -1 ∧ Op.bytesLess x.toList y.toList = true ∧ (x.toList == y.toList) = false) ∨ (od x y = 0 ∧ Op.bytesLess x.toList y.toList = false ∧ (x.toList == y.toList) = true) ∨ (od x y = 1 ∧ Op.bytesLess x.toList y.toList = false ∧ (x.toList == y.toList) = false) := by
  rw [Lib.toList_data, Lib.toList_data]
  exact cb_less _ _
/-- One label against another. -/
def o2 (a b : Lb) : Int := if od a.1 b.1 = 0 then od a.2 b.2 else od a.1 b.1
/-- Labels from a place on, against others; k of the first are left. -/
def cmF (f g : Nat → Lb) (m : Nat) : Nat → Nat → Int
  | 0, i => if i < m then -1 else 0
  | k + 1, i => if i < m then (if o2 (f i) (g i) = 0 then cmF f g m k (i + 1) else o2 (f i) (g i)) else 1
def cm (f : Nat → Lb) (n : Nat) (g : Nat → Lb) (m : Nat) : Int := cmF f g m n 0
theorem cmF_end {f g : Nat → Lb} {m n i : Nat} (h : i = n) : cmF f g m (n - i) i = if i < m then -1 else 0 := by
  rw [show n - i = 0 by omega]; rfl
theorem cmF_out {f g : Nat → Lb} {m n i : Nat} (h : i < n) (hm : ¬ i < m) : cmF f g m (n - i) i = 1 := by
  rw [show n - i = (n - i - 1) + 1 by omega]
  unfold cmF
  rw [if_neg hm]
theorem cmF_eq {f g : Nat → Lb} {m n i : Nat} (h : i < n) (hm : i < m) (h0 : o2 (f i) (g i) = 0) : cmF f g m (n - i) i = cmF f g m (n - (i + 1)) (i + 1) := by
  rw [show n - i = (n - (i + 1)) + 1 by omega]
  conv => lhs; unfold cmF
  rw [if_pos hm, if_pos h0]
theorem cmF_ne {f g : Nat → Lb} {m n i : Nat} (h : i < n) (hm : i < m) (h0 : ¬ o2 (f i) (g i) = 0) : cmF f g m (n - i) i = o2 (f i) (g i) := by
  rw [show n - i = (n - i - 1) + 1 by omega]
  unfold cmF
  rw [if_pos hm, if_neg h0]

/-- Labels that a slice shows. -/
def Lm (w : World) (a : Option Addr) (f : Nat → Lb) (n : Nat) : Prop := n = 0 ∨ ∃ g o, a = some ⟨g, o, none⟩ ∧ g < w.heap.size ∧ ∀ j, j < n → w.cell? ⟨g, o + j * 2, none⟩ = some (.string (f j).1) ∧ w.cell? ⟨g, o + j * 2 + 1, none⟩ = some (.string (f j).2)
theorem Lm.below {w w' : World} {a : Option Addr} {f : Nat → Lb} {n : Nat} (h : Lm w a f n) (hb : Below w.heap.size w w') : Lm w' a f n := by
  rcases h with h | ⟨g, o, rfl, hg, hc⟩
  · exact .inl h
  · exact .inr ⟨g, o, rfl, Nat.lt_of_lt_of_le hg hb.size, fun j hj => ⟨(hb.cell (p := ⟨g, o + j * 2, none⟩) hg).trans (hc j hj).1, (hb.cell (p := ⟨g, o + j * 2 + 1, none⟩) hg).trans (hc j hj).2⟩⟩
theorem Lm.at {w : World} {a : Option Addr} {f : Nat → Lb} {n : Nat} (h : Lm w a f n) (j : Nat) (hj : j < n) : ∃ g o, a = some ⟨g, o, none⟩ ∧ g < w.heap.size ∧ w.cell? ⟨g, o + j * 2, none⟩ = some (.string (f j).1) ∧ w.cell? ⟨g, o + j * 2 + 1, none⟩ = some (.string (f j).2) := by
  rcases h with h | ⟨g, o, rfl, hg, hat⟩
  · omega
  · exact ⟨g, o, rfl, hg, hat j hj⟩
theorem bcell2 {w w' : World} {p : Addr} {v : Value} (b : Below w.heap.size w w') (h : w.cell? p = some v) : w'.cell? p = some v := by
  rw [b.cell (World.block_lt_of_cell? w p h)]
  exact h
theorem below_drewN {B : Nat} {a w : World} (h : Below B a w) (k : Nat) : Below B a (w.drewN k) := ⟨h.os, h.tape, h.output, h.size, h.block⟩
/-- Labels as cells. -/
def l2 (x : Lb) : List Value := [.string x.1, .string x.2]
def lc (f : Nat → Lb) (n : Nat) : List Value := (List.range n).flatMap fun j => l2 (f j)
theorem lc_succ (f : Nat → Lb) (n : Nat) : lc f (n + 1) = lc f n ++ l2 (f n) := by
  unfold lc
  rw [List.range_succ, List.flatMap_append]
  simp
theorem lc_len (f : Nat → Lb) (n : Nat) : (lc f n).length = n * 2 := by
  induction n with
  | zero => rfl
  | succ n ih => rw [lc_succ, List.length_append, ih]; simp [l2]; omega
theorem lc_get (f : Nat → Lb) : ∀ (n j k : Nat), j < n → k < 2 → (lc f n)[j * 2 + k]? = (l2 (f j))[k]?
  | 0, j, k, h, _ => by omega
  | n + 1, j, k, h, hk => by
    rw [lc_succ]
    by_cases hj : j < n
    · rw [List.getElem?_append_left (by rw [lc_len]; omega)]
      exact lc_get f n j k hj hk
    · obtain rfl : j = n := by omega
      rw [List.getElem?_append_right (by rw [lc_len]; omega), lc_len]
      congr 1
      omega
theorem Lm.cells {w : World} {p : Addr} {f : Nat → Lb} {n : Nat} (h : Lm w (some p) f n) : ∀ j u, (lc f n)[j]? = some u → w.cell? (p.add j) = some u := by
  intro j u hj
  have hjl : j < n * 2 := by
    have := (List.getElem?_eq_some_iff.1 hj).1
    rw [lc_len] at this
    exact this
  rcases h with h | ⟨g, o, e, _, hc⟩
  · omega
  · cases e
    have hj2 : j / 2 * 2 + j % 2 = j := by omega
    rw [← hj2, lc_get f n (j / 2) (j % 2) (by omega) (by omega)] at hj
    obtain ⟨c0, c1⟩ := hc (j / 2) (by omega)
    rw [Go.WideShapes.add_plain]
    rcases Nat.mod_two_eq_zero_or_one j with h0 | h0
    · rw [h0] at hj
      simp [l2] at hj
      rw [show o + j = o + j / 2 * 2 by omega, c0, hj]
    · rw [h0] at hj
      simp [l2] at hj
      rw [show o + j = o + j / 2 * 2 + 1 by omega, c1, hj]
theorem Lm.of_row {w : World} {S n c : Nat} {a : Option Addr} {f : Nat → Lb} (h : w.ownsRow S 61 2 (.slice a n c) n (lc f n)) : Lm w a f n := by
  rcases h.2 with ⟨e, h0⟩ | ⟨g, cap, cur, e, _, hh, _⟩
  · exact .inl h0
  · cases e
    refine .inr ⟨g, 0, rfl, (Array.getElem?_eq_some_iff.1 hh).1, fun j hj => ?_⟩
    rw [Nat.zero_add]
    have h0 := World.ownsRow.cellAt h (j * 2) (by omega)
    have h1 := World.ownsRow.cellAt h (j * 2 + 1) (by omega)
    have e0 := lc_get f n j 0 hj (by omega)
    have e1 := lc_get f n j 1 hj (by omega)
    rw [Nat.add_zero] at e0
    exact ⟨h0.trans e0, h1.trans e1⟩
end Go.Proofs.YtebjklppbkkinaaGreatDoor
/- Labels: Compare on both sides, same. -/
namespace Go.Proofs.YtebjklppbkkinaaGreatDoor
open Go.RowKit

theorem call41 (x y : ByteArray) (w : World) : (callFunc 196 #[.string x, .string y]).run Tryz.prog w = .ok (.value (.int .i64 (od x y))) w := by
  rw [run_callFunc_extern Tryz.func196 (e := Extern.BytealgCompare.compare) (by kernel_rfl) (by kernel_rfl) (by kernel_rfl) (by kernel_rfl), Lib.run_compareString]
  rfl
set_option maxHeartbeats 1000000 in
theorem compare_any (x y : ByteArray) (w : World) : Calls Tryz.prog 100 #[.string x, .string y] w fun e w' => e = .returned (.int .i64 (od x y)) ∧ w' = w := by
  have k : ∀ w, Calls Tryz.prog 151 #[.string x, .string y] w fun e w' => e = .returned (.int .i64 (od x y)) ∧ w' = w := fun w => by
    have hc := call41 x y w
    generalize od x y = C at *
    go_enter Tryz.func151, Tryz.ntmps151
    go_wp2
    go_ret
    exact ⟨rfl, rfl⟩
  generalize od x y = C at *
  go_enter Tryz.func100, Tryz.ntmps100
  go_wp2_with fail
  go_fit (k _)
  rintro e w1 ⟨rfl, rfl⟩
  clear k
  go_wp2
  go_ret
  exact ⟨rfl, rfl⟩
set_option maxHeartbeats 1000000 in
theorem order_any (x y : ByteArray) (w : World) : Calls Tryz.prog 85 #[.string x, .string y] w fun e w' => e = .returned (.int .i64 (od x y)) ∧ w' = w := by
  rcases od_cases x y with ⟨h1, h2, h3⟩ | ⟨h1, h2, h3⟩ | ⟨h1, h2, h3⟩
  · rw [h1]
    go_enter Tryz.func85, Tryz.ntmps85
    go_wp2
    go_ret
    exact ⟨rfl, rfl⟩
  · rw [h1]
    go_enter Tryz.func85, Tryz.ntmps85
    go_wp2
    go_ret
    exact ⟨rfl, rfl⟩
  · rw [h1]
    go_enter Tryz.func85, Tryz.ntmps85
    go_wp2
    go_ret
    exact ⟨rfl, rfl⟩

abbrev lbV (x : Lb) : Value := .agg #[.string x.1, .string x.2]
abbrev lbX (x : Lb) : Obj := .cells #[.string x.1, .string x.2] 61
set_option maxHeartbeats 1000000 in
theorem or_two (g : Nat) (c d : Int) (w : World) (h0 : w.cell? ⟨g, 0, none⟩ = some (.int .i64 c)) (h1 : w.cell? ⟨g, 1, none⟩ = some (.int .i64 d)) :
    Calls Tryz.prog 128 #[.slice (some ⟨g, 0, none⟩) 2 2] w fun e w' => e = .returned (.int .i64 (if c = 0 then d else c)) ∧ w' = w := by
  go_enter Tryz.func128, Tryz.ntmps128
  go_wp2
  go_loopw [8] (fun t w' => ∃ i : Nat, t = .int .i64 (i : Int) ∧ i ≤ 2 ∧ (1 ≤ i → c = 0) ∧ (2 ≤ i → d = 0) ∧ w' = w) (fun t _ => 2 - (RowKit.intOf t).toNat)
  case atStart => exact ⟨0, rfl, by omega, by omega, by omega, rfl⟩
  case round =>
    obtain ⟨i, rfl, hi, hc, hd, rfl⟩ := hrel
    by_cases e0 : i = 0
    · subst e0
      by_cases c0 : c = 0
      · subst c0
        go_wp2
        exact ⟨⟨1, by go_num, by omega, fun _ => trivial, fun h => by omega, trivial⟩, by simp [RowKit.intOf]⟩
      · have c1 : (c != 0) = true := by simpa using c0
        go_wp2
        go_ret
        exact ⟨rfl, rfl⟩
    · have hc0 := hc (by omega)
      subst hc0
      by_cases e1 : i = 1
      · subst e1
        by_cases d0 : d = 0
        · subst d0
          go_wp2
          exact ⟨⟨2, by go_num, by omega, fun _ => trivial, fun _ => trivial, trivial⟩, by simp [RowKit.intOf]⟩
        · have d1 : (d != 0) = true := by simpa using d0
          go_wp2
          go_ret
          exact ⟨rfl, rfl⟩
      · obtain rfl : i = 2 := by omega
        have hd0 := hd (by omega)
        subst hd0
        go_wp2
        go_ret
        exact ⟨rfl, rfl⟩
end Go.Proofs.YtebjklppbkkinaaGreatDoor
/-
  DERIVED: THE SHELF's CONTRACTS AT THIS DUMP, IN PLAIN WORDS (tools/lay-plain.mjs out of 'TrydShelf.lean', which tools/lay-shelf.mjs wrote): THE SAME DECLARATIONS UNDER THE SAME NAMES: 'import', 'namespace', 'open', 'def', 'theorem' AND NOTHING ELSE: no command of the shelf's: FOR A HAND-IN. Each laying: the table of numbers ('.._ren') and one theorem, a field a fact of the dump's own or the kernel's comparison; each contract: ONE APPLICATION.
-/
namespace Go.Proofs
open Go.Shelf
def Tryz.laysM316_ren : Go.Shelf.Ren := ⟨fun | 316 => 114 | n => n, fun | 9 => 9 | 3 => 3 | 4 => 4 | 37 => 114 | 0 => 0 | 127 => 157 | 5 => 5 | n => n, fun | n => n⟩
theorem Tryz.laysM316 : Go.Proofs.LaysM.n316 Tryz.prog Tryz.laysM316_ren := {
  mixed := by kernel_rfl
  f316 := Tryz.func114.trans (congrArg some (by kernel_rfl))
  t0 := Tryz.underlying0
  a0 := Tryz.isAgg0
  z0 := Tryz.sizeOf0
  v0 := Tryz.zeroValue0
  t3 := Tryz.underlying3
  a3 := Tryz.isAgg3
  z3 := Tryz.sizeOf3
  v3 := Tryz.zeroValue3
  t4 := Tryz.underlying4
  a4 := Tryz.isAgg4
  z4 := Tryz.sizeOf4
  v4 := Tryz.zeroValue4
  t9 := Tryz.underlying9
  a9 := Tryz.isAgg9
  z9 := Tryz.sizeOf9
  v9 := Tryz.zeroValue9
  t37 := Tryz.underlying114
  a37 := Tryz.isAgg114
  z37 := Tryz.sizeOf114
  v37 := Tryz.zeroValue114
  t127 := Tryz.underlying157
  a127 := Tryz.isAgg157
  z127 := Tryz.sizeOf157
  v127 := Tryz.zeroValue157
  t5 := Tryz.underlying5
  a5 := Tryz.isAgg5
  z5 := Tryz.sizeOf5
  v5 := Tryz.zeroValue5
  i0 := by kernel_rfl
  i3 := by kernel_rfl
  i4 := by kernel_rfl
  i5 := by kernel_rfl
  i9 := by kernel_rfl
  i37 := by kernel_rfl
  i127 := by kernel_rfl }
open Go.RowKit in
/-- internal/stringslite.Clone (what strings.Clone calls): "Clone returns a fresh copy of s.": THE SAME BYTES. Of what was there nothing has turned (a new row is laid, and frozen, where s is not empty). (LAID: no walk: one application.) -/
theorem Tryz.stringslite_Clone (s : ByteArray) (w : World) (hlim : s.size ≤ 281474976710656) :
    Calls Tryz.prog 114 #[.string s] w fun e w' => e = .returned (.string s) ∧ Below w.heap.size w w' := Any.stringslite_Clone Tryz.laysM316 s w hlim
end Go.Proofs
/- Labels: names, texts, copies. -/
namespace Go.Proofs.YtebjklppbkkinaaGreatDoor
open Go.RowKit Go.Lib

theorem iterPos_at {w : World} {k : Nat} {s : ByteArray} {pos : Nat} (h : w.heap[k]? = some (.stringIter s pos)) : w.iterPos k = pos := by
  unfold World.iterPos; rw [h]
theorem decode_width (s : ByteArray) (i : Nat) : 1 ≤ (Utf8.decode s i).2 ∧ (Utf8.decode s i).2 ≤ 4 := by
  rw [decode_at]
  unfold decodeN
  repeat' split
  all_goals simp
set_option maxHeartbeats 1000000 in
theorem clone_any (s : ByteArray) (w : World) (hs : s.size ≤ 140737488355328) : Calls Tryz.prog 76 #[.string s] w fun e w' => e = .returned (.string s) ∧ Below w.heap.size w w' := by
  have k := Tryz.stringslite_Clone s w (by omega)
  go_enter Tryz.func76, Tryz.ntmps76
  go_wp2_with fail
  go_fit k
  rintro e w1 ⟨rfl, b1⟩
  have H1 : Hid _ := b1
  clear k b1
  go_wp2
  go_ret
  exact ⟨rfl, H1.out⟩
end Go.Proofs.YtebjklppbkkinaaGreatDoor
/- The plain mathematics of layer 1: what Next answers, by the model's own decoder. -/
namespace Go.Proofs.YtebjklppbkkinaaGreatDoor

/-- The rune that begins at a place, and its width; -1 and 0: none. -/
def nxt (s : ByteArray) (i : Nat) : Int × Int :=
  if i < s.size then (if (Utf8.decode s i).1 = 65533 ∧ (Utf8.decode s i).2 = 1 then (-1, 0) else (((Utf8.decode s i).1 : Nat), ((Utf8.decode s i).2 : Nat))) else (-1, 0)

theorem get!_big (s : ByteArray) (k : Nat) (h : s.size ≤ k) : s.get! k = 0 := by
  cases s with
  | mk d =>
    show d[k]! = 0
    rw [getElem!_neg d k (by have h' : d.size ≤ k := h; omega)]
    rfl
theorem get!_lt (s : ByteArray) (k : Nat) (h : k < s.size) : s.get! k = s[k]'h := by
  cases s with
  | mk d => exact getElem!_pos d k h

theorem get!_extract (s : ByteArray) (a i : Nat) : (s.extract a s.size).get! i = s.get! (a + i) := by
  by_cases h : a + i < s.size
  · rw [get!_lt _ _ (by simp; omega), get!_lt _ _ h]
    simp [ByteArray.getElem_extract]
  · rw [get!_big s _ (by omega), get!_big _ _ (by simp; omega)]

theorem decode_extract (s : ByteArray) (a : Nat) : Utf8.decode (s.extract a s.size) 0 = Utf8.decode s a := by
  rw [Lib.decode_at, Lib.decode_at]
  simp only [get!_extract, Nat.zero_add, Nat.add_zero]
  congr 1
  simp
/-- A rune begins at a place of the text just where the decoder does not answer (65533, 1). -/
theorem nxt_no (s : ByteArray) (i : Nat) (h : i < s.size) : (nxt s i).2 = 0 ↔ (Utf8.decode s i).1 = 65533 ∧ (Utf8.decode s i).2 = 1 := by
  have hw := decode_width s i
  unfold nxt
  rw [if_pos h]
  by_cases hc : (Utf8.decode s i).1 = 65533 ∧ (Utf8.decode s i).2 = 1
  · rw [if_pos hc]; simp [hc]
  · rw [if_neg hc]
    constructor
    · intro h2
      have : ((Utf8.decode s i).2 : Int) = 0 := h2
      omega
    · intro h2; exact absurd h2 hc
theorem nxt_pos (s : ByteArray) (i : Nat) : 0 ≤ (nxt s i).2 := by
  unfold nxt
  repeat' split
  all_goals simp
theorem nxt_width (s : ByteArray) (i : Nat) (h : (nxt s i).2 ≠ 0) : (nxt s i).2 = ((Utf8.decode s i).2 : Nat) ∧ (nxt s i).1 = ((Utf8.decode s i).1 : Nat) := by
  unfold nxt at h ⊢
  split
  · split
    · simp_all
    · exact ⟨rfl, rfl⟩
  · simp_all
/-- Is the text UTF-8 from a place on? -/
def vld (s : ByteArray) : Nat → Nat → Bool
  | 0, _ => true
  | f + 1, i => if i < s.size then (if (nxt s i).2 = 0 then false else vld s f (i + (Utf8.decode s i).2)) else true
theorem vld_end (s : ByteArray) (f i : Nat) (h : ¬ i < s.size) : vld s f i = true := by
  cases f with
  | zero => rfl
  | succ f => simp [vld, h]
theorem vld_bad (s : ByteArray) (f i : Nat) (h : i < s.size) (hz : (nxt s i).2 = 0) : vld s (f + 1) i = false := by
  simp [vld, h, hz]
theorem vld_good (s : ByteArray) (f i : Nat) (h : i < s.size) (hz : (nxt s i).2 ≠ 0) : vld s (f + 1) i = vld s f (i + (Utf8.decode s i).2) := by
  simp [vld, h, hz]
end Go.Proofs.YtebjklppbkkinaaGreatDoor
/- The walks of utf.Next and utf.begins. -/
namespace Go.Proofs.YtebjklppbkkinaaGreatDoor
open Go.RowKit Go.Lib

theorem decodeGo_extract (s : ByteArray) (i : Nat) (h : i < s.size) : Lib.decodeGo (s.extract i s.size) = Utf8.decode s i := by
  unfold Lib.decodeGo
  rw [if_neg (by simp; omega), decode_extract]

set_option maxHeartbeats 400000 in
theorem next_in (s : ByteArray) (i : Nat) (w : World) (_hs : s.size ≤ maxLen) (hT : Lib.Utf8Tabs 2 3 w) (h : i < s.size) :
    Calls Tryz.prog 153 #[.string s, .int .i64 i] w fun e w' => e = .returned (.tuple #[.int .i32 (nxt s i).1, .int .i64 (nxt s i).2]) ∧ Below w.heap.size w w' := by
  unfold maxLen at _hs
  have h0 : ¬ (i : Int) < 0 := by omega
  have h1 : ¬ (s.size : Int) ≤ i := by omega
  have hd := decodeGo_extract s i h
  have HT : Hid (Lib.Utf8Tabs 2 3 w) := hT
  obtain ⟨R, hR⟩ : ∃ R, (Utf8.decode s i).1 = R := ⟨_, rfl⟩
  obtain ⟨K, hK⟩ : ∃ K, (Utf8.decode s i).2 = K := ⟨_, rfl⟩
  have hn : nxt s i = if R = 65533 ∧ K = 1 then (-1, 0) else ((R : Int), (K : Int)) := by
    unfold nxt; rw [if_pos h, hR, hK]
  have cD := Tryz.utf8_DecodeRuneInString (s.extract i s.size) w hT
  rw [hd, hR, hK] at cD
  clear hd hT hR hK
  by_cases hr : R = 65533
  · by_cases hk : K = 1
    · rw [hn, if_pos ⟨hr, hk⟩]
      clear hn
      subst hr; subst hk
      go_enter Tryz.func153, Tryz.ntmps153
      go_wp2_with (go_at_call 197; go_fit cD; rintro e w' ⟨rfl, hb⟩)
      all_goals go_ret2
      all_goals exact ⟨rfl, hb⟩
    · have hkb : ((K : Int) == 1) = false := by rw [beq_eq_false_iff_ne]; omega
      rw [hn, if_neg (fun h => hk h.2)]
      clear hn hk
      subst hr
      go_enter Tryz.func153, Tryz.ntmps153
      go_wp2_with (go_at_call 197; go_fit cD; rintro e w' ⟨rfl, hb⟩)
      go_ret2
      exact ⟨rfl, hb⟩
  · have hrb : ((R : Int) == 65533) = false := by rw [beq_eq_false_iff_ne]; omega
    rw [hn, if_neg (fun h => hr h.1)]
    clear hn hr
    go_enter Tryz.func153, Tryz.ntmps153
    go_wp2_with (go_at_call 197; go_fit cD; rintro e w' ⟨rfl, hb⟩)
    go_ret2
    exact ⟨rfl, hb⟩

theorem lt_of_cell {w : World} {b o : Nat} {v : Value} (h : w.cell? ⟨b, o, none⟩ = some v) : b < w.heap.size := by
  unfold World.cell? at h
  by_cases hb : b < w.heap.size
  · exact hb
  · rw [Array.getElem?_eq_none (by simpa using hb)] at h
    cases h
theorem tabs_size {w : World} (h : Lib.Utf8Tabs 2 3 w) : 3 < w.heap.size := lt_of_cell (h.2 0 (by omega)).1
theorem tabs_below {w w' : World} {B : Nat} (h : Lib.Utf8Tabs 2 3 w) (hB : 3 < B) (hb : Below B w w') : Lib.Utf8Tabs 2 3 w' :=
  ⟨fun c hc => by rw [hb.cell (show (2 : Nat) < B by omega)]; exact h.1 c hc, fun i hi => ⟨by rw [hb.cell (show (3 : Nat) < B by omega)]; exact (h.2 i hi).1, by rw [hb.cell (show (3 : Nat) < B by omega)]; exact (h.2 i hi).2⟩⟩

set_option maxHeartbeats 400000 in
theorem begins_any (s : ByteArray) (i : Nat) (w : World) (hs : s.size ≤ maxLen) (hT : Lib.Utf8Tabs 2 3 w) (h : i < s.size) :
    Calls Tryz.prog 103 #[.string s, .int .i64 i, .int .i32 (Utf8.decode s i).1] w fun e w' => e = .returned (.bool (decide ((nxt s i).2 ≠ 0))) ∧ Below w.heap.size w w' := by
  have hno := nxt_no s i h
  have hp := nxt_pos s i
  have cN := next_in s i w hs hT h
  obtain ⟨R, hR⟩ : ∃ R, (Utf8.decode s i).1 = R := ⟨_, rfl⟩
  rw [hR] at hno ⊢
  clear hs hT
  by_cases hr : R = 65533
  · subst hr
    obtain ⟨X, hX⟩ : ∃ X, (nxt s i).1 = X := ⟨_, rfl⟩
    obtain ⟨Y, hY⟩ : ∃ Y, (nxt s i).2 = Y := ⟨_, rfl⟩
    rw [hX, hY] at cN
    rw [hY] at hp ⊢
    clear hno hX hY hR
    obtain ⟨b, hb⟩ : ∃ b, decide (Y ≠ 0) = b := ⟨_, rfl⟩
    have hb' : decide (0 < Y) = b := by rw [← hb]; apply decide_eq_decide.2; omega
    rw [hb]
    have HB : Hid (decide (Y ≠ 0) = b) := hb
    clear hb
    cases b
    all_goals
      go_enter Tryz.func103, Tryz.ntmps103
      go_wp2_with (go_at_call 153; go_fit cN; rintro e w' ⟨rfl, hb⟩)
      go_ret
      exact ⟨rfl, hb⟩
  · have hrb : ((R : Int) != 65533) = true := by rw [bne_iff_ne]; omega
    have hb : decide ((nxt s i).2 ≠ 0) = true := by simp only [decide_eq_true_eq]; intro h2; exact hr (hno.1 h2).1
    rw [hb]
    clear hno cN hR hp hb hr
    go_enter Tryz.func103, Tryz.ntmps103
    go_wp2
    go_ret
    exact ⟨rfl, Below.refl _ _⟩
end Go.Proofs.YtebjklppbkkinaaGreatDoor
/- The walk of utf.Valid: a range over the text. -/
namespace Go.Proofs.YtebjklppbkkinaaGreatDoor
open Go.RowKit Go.Lib

theorem vld_bad' (s : ByteArray) (b i : Nat) (h : i < s.size) (hb : 0 < b) (hz : (nxt s i).2 = 0) : vld s b i = false := by
  obtain ⟨f, rfl⟩ : ∃ f, b = f + 1 := ⟨b - 1, by omega⟩
  exact vld_bad s f i h hz
theorem vld_good' (s : ByteArray) (b i : Nat) (h : i < s.size) (hb : 0 < b) (hz : (nxt s i).2 ≠ 0) : vld s b i = vld s (b - 1) (i + (Utf8.decode s i).2) := by
  obtain ⟨f, rfl⟩ : ∃ f, b = f + 1 := ⟨b - 1, by omega⟩
  exact vld_good s f i h hz

set_option maxRecDepth 1000000 in
set_option maxHeartbeats 1000000 in
theorem valid_any (s : ByteArray) (w : World) (hs : s.size ≤ maxLen) (hT : Lib.Utf8Tabs 2 3 w) :
    Calls Tryz.prog 73 #[.string s] w fun e w' => e = .returned (.bool (vld s s.size 0)) ∧ Below w.heap.size w w' := by
  have hsz := tabs_size hT
  have HS : Hid (s.size ≤ maxLen) := hs
  have HT : Hid (Lib.Utf8Tabs 2 3 w) := hT
  clear hs hT
  go_enter Tryz.func73, Tryz.ntmps73
  go_wp2
  go_loopw [] (fun w' => ∃ (pos b : Nat), w'.heap[w.heap.size]? = some (.stringIter s pos) ∧ Below w.heap.size w w' ∧ vld s b pos = vld s s.size 0 ∧ s.size ≤ pos + b) (fun w' => s.size - w'.iterPos w.heap.size)
  case atStart => exact ⟨0, s.size, World.iter_heap w s 0, (Below.refl _ _).alloc (Nat.le_refl _) _, rfl, by omega⟩
  case round =>
    obtain ⟨pos, b, hk, hbw, hv, hb⟩ := hrel
    by_cases hp : pos < s.size
    · have hnx : ∀ ty, (Instr.next (.pointer (some ⟨w.heap.size, 0, none⟩)) true ty).run Tryz.prog wr = _ := fun ty => run_next_any_at wr w.heap.size s pos ty hk hp
      have hwd := (decode_width s pos).1
      have hb1 : Below w.heap.size w (wr.iterAt w.heap.size s (pos + (Utf8.decode s pos).2)) := below_iterAt hbw (Nat.le_refl _) s _
      have hk1 := iterAt_heap wr w.heap.size s pos (pos + (Utf8.decode s pos).2) hk
      have cB := begins_any s pos (wr.iterAt w.heap.size s (pos + (Utf8.decode s pos).2)) HS.out (tabs_below HT.out hsz hb1) hp
      have hsz1 : w.heap.size < (wr.iterAt w.heap.size s (pos + (Utf8.decode s pos).2)).heap.size := (Array.getElem?_eq_some_iff.1 hk1).1
      generalize hW : wr.iterAt w.heap.size s (pos + (Utf8.decode s pos).2) = W at *
      obtain ⟨K, hK⟩ : ∃ K, (Utf8.decode s pos).2 = K := ⟨_, rfl⟩
      obtain ⟨R, hR⟩ : ∃ R, (Utf8.decode s pos).1 = R := ⟨_, rfl⟩
      rw [hK] at hwd hk1
      rw [hR] at hnx cB
      have HV : Hid (vld s b pos = vld s s.size 0) := hv
      have HK : Hid ((Utf8.decode s pos).2 = K) := hK
      have HW1 : Hid (W.heap[w.heap.size]? = some (.stringIter s (pos + K))) := hk1
      have HW2 : Hid (wr.heap[w.heap.size]? = some (.stringIter s pos)) := hk
      clear hv hK hk1 hW hR hk
      by_cases hz : (nxt s pos).2 = 0
      · have hd : decide ((nxt s pos).2 ≠ 0) = false := by simp [hz]
        rw [hd] at cB
        have HZ : Hid ((nxt s pos).2 = 0) := hz
        clear hd hz
        go_wp2_with (go_at_call 103; go_fit cB; rintro e w' ⟨rfl, hb2⟩)
        go_ret
        exact ⟨by rw [← HV.out, vld_bad' s b pos hp (by omega) HZ.out]; rfl, hb1.trans (hb2.mono (Nat.le_of_lt hsz1))⟩
      · have hd : decide ((nxt s pos).2 ≠ 0) = true := by simp [hz]
        rw [hd] at cB
        have HZ : Hid ((nxt s pos).2 ≠ 0) := hz
        clear hd hz
        go_wp2_with (go_at_call 103; go_fit cB; rintro e w' ⟨rfl, hb2⟩)
        go_roundw
        case rel => exact ⟨pos + K, b - 1, (hb2.block _ hsz1).trans HW1.out, hb1.trans (hb2.mono (Nat.le_of_lt hsz1)), by rw [← HV.out, vld_good' s b pos hp (by omega) HZ.out, HK.out], by omega⟩
        case measure =>
          rw [iterPos_at HW2.out, iterPos_at ((hb2.block _ hsz1).trans HW1.out)]
          omega
    · have hnx : ∀ ty, (Instr.next (.pointer (some ⟨w.heap.size, 0, none⟩)) true ty).run Tryz.prog wr = _ := fun ty => run_next_end_at wr w.heap.size s pos ty hk hp
      have HV : Hid (vld s b pos = vld s s.size 0) := hv
      have HP : Hid (¬ pos < s.size) := hp
      clear hv hk
      go_wp2
      go_ret
      exact ⟨by rw [← HV.out, vld_end s b pos HP.out]; rfl, hbw⟩
end Go.Proofs.YtebjklppbkkinaaGreatDoor
