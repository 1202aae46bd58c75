/- slices.Sorted of slices.Values, and slices.BinarySearch over texts. -/
import Derived.Test.YtjmninjaoemhjaaDoorKc
import Derived.Test.YtjmninjaoemhjaaDoorKs
import Derived.Sort.OwnSorted
import Derived.Shelf.Spec.SearchS
namespace Go.Proofs
open Go.Shelf
def Tryd.lays2x26_ren : Go.Shelf.Ren := ⟨fun | 26 => 64 | 33 => 88 | 34 => 89 | 38 => 110 | n => n, fun | 24 => 29 | 40 => 85 | n => n, fun | n => n⟩
theorem Tryd.lays2x26 : Go.Proofs.Lays2.n26 Tryd.prog Tryd.lays2x26_ren := {
  mixed := by kernel_rfl
  f26 := Tryd.func64.trans (congrArg some (by kernel_rfl))
  f33 := Tryd.func88.trans (congrArg some (by kernel_rfl))
  f34 := Tryd.func89.trans (congrArg some (by kernel_rfl))
  f38 := Tryd.func110.trans (congrArg some (by kernel_rfl))
  t0 := Tryd.underlying0
  a0 := Tryd.isAgg0
  z0 := Tryd.sizeOf0
  v0 := Tryd.zeroValue0
  t3 := Tryd.underlying3
  a3 := Tryd.isAgg3
  z3 := Tryd.sizeOf3
  v3 := Tryd.zeroValue3
  t4 := Tryd.underlying4
  a4 := Tryd.isAgg4
  z4 := Tryd.sizeOf4
  v4 := Tryd.zeroValue4
  t9 := Tryd.underlying9
  a9 := Tryd.isAgg9
  z9 := Tryd.sizeOf9
  v9 := Tryd.zeroValue9
  t24 := Tryd.underlying29
  a24 := Tryd.isAgg29
  z24 := Tryd.sizeOf29
  v24 := Tryd.zeroValue29
  t40 := Tryd.underlying85
  a40 := Tryd.isAgg85
  z40 := Tryd.sizeOf85
  v40 := Tryd.zeroValue85 }
end Go.Proofs
namespace Go.Proofs.YtjmninjaoemhjaaDoor.K
open Go.RowKit Go.Lib Go.Shelf Go.Sort

attribute [local go_sem] Oper.semAt_some

/-- Texts as lists of bytes, in order. -/
def sl (xs : List ByteArray) : List (List UInt8) := xs.map fun x => x.data.toList
def srt (xs : List ByteArray) : List (List UInt8) := (sl xs).mergeSort fun x y => decide (x ≤ y)
theorem ss_sl (xs : List ByteArray) : ss xs = (sl xs).map encStr := by
  unfold ss sl
  rw [List.map_map]
  rfl
theorem srt_len (xs : List ByteArray) : (srt xs).length = xs.length := by simp [srt, sl]
set_option maxRecDepth 100000 in
theorem sorted_any (Bs : Nat) (a : Option Addr) (f : Nat → ByteArray) (N c : Nat) (hN : N ≤ 8796093022208) (w : World) (hBs : w.cell? ⟨Bs, 0, none⟩ = some (.slice a N c)) (hBn : Bs < w.heap.size) (hR : Smb w.heap.size w a f N) :
    Calls Tryd.prog 61 #[.func (.func 87) #[] #[.pointer (some ⟨Bs, 0, none⟩)]] w fun e W' => ∃ v, e = .returned v ∧ W'.ownsRow w.heap.size 9 1 v N ((srt (lf f N)).map encStr) ∧ Below w.heap.size w W' := by
  have k := collect_any Bs a f N c hN w hBs hBn hR
  clear hBs hR
  go_enter Tryd.func61, Tryd.ntmps61
  go_wp2_with fail
  go_fit k
  rintro e w2 ⟨v, rfl, hrow, hb⟩
  have hlen : (sl (lf f N)).length = N := by simp [sl, lf_len]
  rw [ss_sl] at hrow
  have k2 : Calls Tryd.prog 86 #[v] w2 fun e W' => e = .returned (.tuple #[]) ∧ W'.ownsRow w.heap.size 9 1 v N ((srt (lf f N)).map encStr) ∧ Below w.heap.size w W' := by
    rcases hrow.2 with ⟨rfl, h0⟩ | ⟨g, cap, cur, rfl, hbase, hg, h1, h2, h3, h4⟩
    · refine (Tryd.slices_Sort_string_none none 0 w2).mono ?_
      rintro e w' ⟨rfl, rfl⟩
      subst h0
      exact ⟨rfl, by rw [show srt (lf f 0) = [] by simp [srt, sl, lf]]; exact World.ownsRow_nil _ _ _ _, hb⟩
    · have hgl := (Array.getElem?_eq_some_iff.1 hg).1
      have hh : Holds encStr w2 g 0 (sl (lf f N)).toArray := holds_of_block hg (by rw [hlen]; simpa using h4)
      have k3 := Tryd.slices_Sort_string g 0 cap (sl (lf f N)) w2 hh hgl (by omega)
      rw [hlen] at k3
      refine k3.mono ?_
      rintro e w' ⟨rfl, n, os, rfl⟩
      refine ⟨rfl, ?_, hb.grown (grownBy_sorted _) hb.size (by intro k e; cases e; exact hbase)⟩
      have := ownsRow_sorted (n := n) (os := os) (ss := sl (lf f N)) (ts := srt (lf f N)) (by rw [srt_len, lf_len, hlen]) hbase hg (by rw [hlen]; exact h1) h2 h3
      rw [hlen] at this
      exact this
  clear hrow hb
  go_wp2_with fail
  go_fit k2
  rintro e w3 ⟨rfl, h3⟩
  go_wp2
  go_ret
  exact ⟨v, rfl, h3⟩
end Go.Proofs.YtjmninjaoemhjaaDoor.K
