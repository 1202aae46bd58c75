/- slices.Sorted of slices.Values, and slices.BinarySearch over texts. -/
import Derived.Test.YtjmninjaoemhjaaKc
import Derived.Test.YtjmninjaoemhjaaKs
import Derived.Sort.OwnSorted
import Derived.Shelf.Spec.SearchS
namespace Go.Proofs
open Go.Shelf
def Try.lays2x26_ren : Go.Shelf.Ren := ⟨fun | 26 => 32 | 33 => 39 | 34 => 40 | 38 => 46 | n => n, fun | 24 => 31 | 40 => 58 | n => n, fun | n => n⟩
theorem Try.lays2x26 : Go.Proofs.Lays2.n26 Try.prog Try.lays2x26_ren := {
  mixed := by kernel_rfl
  f26 := Try.func32.trans (congrArg some (by kernel_rfl))
  f33 := Try.func39.trans (congrArg some (by kernel_rfl))
  f34 := Try.func40.trans (congrArg some (by kernel_rfl))
  f38 := Try.func46.trans (congrArg some (by kernel_rfl))
  t0 := Try.underlying0
  a0 := Try.isAgg0
  z0 := Try.sizeOf0
  v0 := Try.zeroValue0
  t3 := Try.underlying3
  a3 := Try.isAgg3
  z3 := Try.sizeOf3
  v3 := Try.zeroValue3
  t4 := Try.underlying4
  a4 := Try.isAgg4
  z4 := Try.sizeOf4
  v4 := Try.zeroValue4
  t9 := Try.underlying9
  a9 := Try.isAgg9
  z9 := Try.sizeOf9
  v9 := Try.zeroValue9
  t24 := Try.underlying31
  a24 := Try.isAgg31
  z24 := Try.sizeOf31
  v24 := Try.zeroValue31
  t40 := Try.underlying58
  a40 := Try.isAgg58
  z40 := Try.sizeOf58
  v40 := Try.zeroValue58 }
end Go.Proofs
namespace Go.Proofs.Ytjmninjaoemhjaa
open Go.RowKit Go.Lib Go.Shelf Go.Sort

attribute [local go_sem] Oper.semAt_some

/-- Texts as lists of bytes, in order. -/
def sl (xs : List ByteArray) : List (List UInt8) := xs.map fun x => x.data.toList
def srt (xs : List ByteArray) : List (List UInt8) := (sl xs).mergeSort fun x y => decide (x ≤ y)
theorem ss_sl (xs : List ByteArray) : ss xs = (sl xs).map encStr := by
  unfold ss sl
  rw [List.map_map]
  rfl
theorem srt_len (xs : List ByteArray) : (srt xs).length = xs.length := by simp [srt, sl]
set_option maxRecDepth 100000 in
theorem sorted_any (Bs : Nat) (a : Option Addr) (f : Nat → ByteArray) (N c : Nat) (hN : N ≤ 8796093022208) (w : World) (hBs : w.cell? ⟨Bs, 0, none⟩ = some (.slice a N c)) (hBn : Bs < w.heap.size) (hR : Smb w.heap.size w a f N) :
    Calls Try.prog 29 #[.func (.func 38) #[] #[.pointer (some ⟨Bs, 0, none⟩)]] w fun e W' => ∃ v, e = .returned v ∧ W'.ownsRow w.heap.size 9 1 v N ((srt (lf f N)).map encStr) ∧ Below w.heap.size w W' := by
  have k := collect_any Bs a f N c hN w hBs hBn hR
  clear hBs hR
  go_enter Try.func29, Try.ntmps29
  go_wp2_with fail
  go_fit k
  rintro e w2 ⟨v, rfl, hrow, hb⟩
  have hlen : (sl (lf f N)).length = N := by simp [sl, lf_len]
  rw [ss_sl] at hrow
  have k2 : Calls Try.prog 37 #[v] w2 fun e W' => e = .returned (.tuple #[]) ∧ W'.ownsRow w.heap.size 9 1 v N ((srt (lf f N)).map encStr) ∧ Below w.heap.size w W' := by
    rcases hrow.2 with ⟨rfl, h0⟩ | ⟨g, cap, cur, rfl, hbase, hg, h1, h2, h3, h4⟩
    · refine (Try.slices_Sort_string_none none 0 w2).mono ?_
      rintro e w' ⟨rfl, rfl⟩
      subst h0
      exact ⟨rfl, by rw [show srt (lf f 0) = [] by simp [srt, sl, lf]]; exact World.ownsRow_nil _ _ _ _, hb⟩
    · have hgl := (Array.getElem?_eq_some_iff.1 hg).1
      have hh : Holds encStr w2 g 0 (sl (lf f N)).toArray := holds_of_block hg (by rw [hlen]; simpa using h4)
      have k3 := Try.slices_Sort_string g 0 cap (sl (lf f N)) w2 hh hgl (by omega)
      rw [hlen] at k3
      refine k3.mono ?_
      rintro e w' ⟨rfl, n, os, rfl⟩
      refine ⟨rfl, ?_, hb.grown (grownBy_sorted _) hb.size (by intro k e; cases e; exact hbase)⟩
      have := ownsRow_sorted (n := n) (os := os) (ss := sl (lf f N)) (ts := srt (lf f N)) (by rw [srt_len, lf_len, hlen]) hbase hg (by rw [hlen]; exact h1) h2 h3
      rw [hlen] at this
      exact this
  clear hrow hb
  go_wp2_with fail
  go_fit k2
  rintro e w3 ⟨rfl, h3⟩
  go_wp2
  go_ret
  exact ⟨v, rfl, h3⟩
end Go.Proofs.Ytjmninjaoemhjaa
