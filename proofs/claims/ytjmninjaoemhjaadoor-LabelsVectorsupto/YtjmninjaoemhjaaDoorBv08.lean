/- A bundle of texts. -/
import Derived.Shelf.Sort.Plain
import Derived.Shelf.Slices.In.SortNone
import Derived.Test.YtjmninjaoemhjaaDoorProg
import Derived.Test.YtjmninjaoemhjaaDoorBv07
import Derived.Sort.OwnSorted
import Derived.Shelf.Spec.SearchS
import Derived.Deep.Onto
import Derived.Test.YtjmninjaoemhjaaDoorBv01
import Derived.Test.YtjmninjaoemhjaaDoorBv04
import Derived.Carry
import Derived.WideMake
/- The library's contracts at this seat, in plain words (by program, one cut by hand). -/
namespace Go.Proofs
open Go.Shelf
def Tryd.lays190_ren : Go.Shelf.Ren := ⟨fun | 190 => 86 | 125 => 57 | 258 => 109 | 128 => 82 | 129 => 83 | 302 => 117 | 303 => 118 | 304 => 119 | 305 => 120 | 306 => 121 | 307 => 122 | 308 => 88 | 309 => 123 | 310 => 124 | 333 => 126 | 329 => 103 | 330 => 104 | 334 => 127 | 335 => 128 | 336 => 110 | 344 => 129 | n => n, fun | 31 => 29 | 9 => 9 | 3 => 3 | 46 => 85 | 0 => 0 | 51 => 107 | 53 => 109 | 4 => 4 | 183 => 101 | 182 => 100 | 131 => 91 | 5 => 5 | 218 => 121 | 222 => 125 | 228 => 133 | 229 => 134 | n => n, fun | n => n⟩
theorem Tryd.lays190 : Go.Proofs.Lays.n190 Tryd.prog Tryd.lays190_ren := {
  mixed := by kernel_rfl
  f125 := Tryd.func57.trans (congrArg some (by kernel_rfl))
  f128 := Tryd.func82.trans (congrArg some (by kernel_rfl))
  f129 := Tryd.func83.trans (congrArg some (by kernel_rfl))
  f190 := Tryd.func86.trans (congrArg some (by kernel_rfl))
  f258 := Tryd.func109.trans (congrArg some (by kernel_rfl))
  f302 := Tryd.func117.trans (congrArg some (by kernel_rfl))
  f303 := Tryd.func118.trans (congrArg some (by kernel_rfl))
  f304 := Tryd.func119.trans (congrArg some (by kernel_rfl))
  f305 := Tryd.func120.trans (congrArg some (by kernel_rfl))
  f306 := Tryd.func121.trans (congrArg some (by kernel_rfl))
  f307 := Tryd.func122.trans (congrArg some (by kernel_rfl))
  f308 := Tryd.func88.trans (congrArg some (by kernel_rfl))
  f309 := Tryd.func123.trans (congrArg some (by kernel_rfl))
  f310 := Tryd.func124.trans (congrArg some (by kernel_rfl))
  f329 := Tryd.func103.trans (congrArg some (by kernel_rfl))
  f330 := Tryd.func104.trans (congrArg some (by kernel_rfl))
  f333 := Tryd.func126.trans (congrArg some (by kernel_rfl))
  f334 := Tryd.func127.trans (congrArg some (by kernel_rfl))
  f335 := Tryd.func128.trans (congrArg some (by kernel_rfl))
  f336 := Tryd.func110.trans (congrArg some (by kernel_rfl))
  f344 := Tryd.func129.trans (congrArg some (by kernel_rfl))
  t0 := Tryd.underlying0
  a0 := Tryd.isAgg0
  z0 := Tryd.sizeOf0
  v0 := Tryd.zeroValue0
  t3 := Tryd.underlying3
  a3 := Tryd.isAgg3
  z3 := Tryd.sizeOf3
  v3 := Tryd.zeroValue3
  t4 := Tryd.underlying4
  a4 := Tryd.isAgg4
  z4 := Tryd.sizeOf4
  v4 := Tryd.zeroValue4
  t5 := Tryd.underlying5
  a5 := Tryd.isAgg5
  z5 := Tryd.sizeOf5
  v5 := Tryd.zeroValue5
  t9 := Tryd.underlying9
  a9 := Tryd.isAgg9
  z9 := Tryd.sizeOf9
  v9 := Tryd.zeroValue9
  t31 := Tryd.underlying29
  a31 := Tryd.isAgg29
  z31 := Tryd.sizeOf29
  v31 := Tryd.zeroValue29
  t46 := Tryd.underlying85
  a46 := Tryd.isAgg85
  z46 := Tryd.sizeOf85
  v46 := Tryd.zeroValue85
  t51 := Tryd.underlying107
  a51 := Tryd.isAgg107
  z51 := Tryd.sizeOf107
  v51 := Tryd.zeroValue107
  t53 := Tryd.underlying109
  a53 := Tryd.isAgg109
  z53 := Tryd.sizeOf109
  v53 := Tryd.zeroValue109
  t131 := Tryd.underlying91
  a131 := Tryd.isAgg91
  z131 := Tryd.sizeOf91
  v131 := Tryd.zeroValue91
  t182 := Tryd.underlying100
  a182 := Tryd.isAgg100
  z182 := Tryd.sizeOf100
  v182 := Tryd.zeroValue100
  t183 := Tryd.underlying101
  a183 := Tryd.isAgg101
  z183 := Tryd.sizeOf101
  v183 := Tryd.zeroValue101
  t218 := Tryd.underlying121
  a218 := Tryd.isAgg121
  z218 := Tryd.sizeOf121
  v218 := Tryd.zeroValue121
  t222 := Tryd.underlying125
  a222 := Tryd.isAgg125
  z222 := Tryd.sizeOf125
  v222 := Tryd.zeroValue125
  t228 := Tryd.underlying133
  a228 := Tryd.isAgg133
  z228 := Tryd.sizeOf133
  v228 := Tryd.zeroValue133
  t229 := Tryd.underlying134
  a229 := Tryd.isAgg134
  z229 := Tryd.sizeOf134
  v229 := Tryd.zeroValue134 }
open Go.Sort Go.RowKit in
theorem Tryd.slices_Sort_string (blk off cap : Nat) (ss : List (List UInt8)) (w : World) (hH : Holds encStr w blk off ss.toArray) (hblk : blk < w.heap.size) (hsz : ss.length < 4611686018427387904) :
    Calls Tryd.prog 86 #[.slice (some ⟨blk, off, none⟩) ss.length cap] w fun e w' =>
      e = .returned (.tuple #[]) ∧ ∃ n os, w' = grow (putRow encStr (Sort.ahead w n) blk off (ss.mergeSort fun x y => decide (x ≤ y)).toArray) os := Any.slices_Sort_string Tryd.lays190 blk off cap ss w hH hblk hsz
open Go.RowKit Go.Sort in
/-- .. and plain. (LAID: no walk: one application.) -/
theorem Tryd.slices_Sort_string_none (p : Option Addr) (cap : Nat) (w : World) :
    Calls Tryd.prog 86 #[.slice p 0 cap] w fun e w' => e = .returned (.tuple #[]) ∧ w' = w := Any.slices_Sort_string_none Tryd.lays190 p cap w
end Go.Proofs
/- slices.Sorted of slices.Values, and slices.BinarySearch over texts. -/
namespace Go.Proofs
open Go.Shelf
def Tryd.lays2x26_ren : Go.Shelf.Ren := ⟨fun | 26 => 64 | 33 => 88 | 34 => 89 | 38 => 110 | n => n, fun | 24 => 29 | 40 => 85 | n => n, fun | n => n⟩
theorem Tryd.lays2x26 : Go.Proofs.Lays2.n26 Tryd.prog Tryd.lays2x26_ren := {
  mixed := by kernel_rfl
  f26 := Tryd.func64.trans (congrArg some (by kernel_rfl))
  f33 := Tryd.func88.trans (congrArg some (by kernel_rfl))
  f34 := Tryd.func89.trans (congrArg some (by kernel_rfl))
  f38 := Tryd.func110.trans (congrArg some (by kernel_rfl))
  t0 := Tryd.underlying0
  a0 := Tryd.isAgg0
  z0 := Tryd.sizeOf0
  v0 := Tryd.zeroValue0
  t3 := Tryd.underlying3
  a3 := Tryd.isAgg3
  z3 := Tryd.sizeOf3
  v3 := Tryd.zeroValue3
  t4 := Tryd.underlying4
  a4 := Tryd.isAgg4
  z4 := Tryd.sizeOf4
  v4 := Tryd.zeroValue4
  t9 := Tryd.underlying9
  a9 := Tryd.isAgg9
  z9 := Tryd.sizeOf9
  v9 := Tryd.zeroValue9
  t24 := Tryd.underlying29
  a24 := Tryd.isAgg29
  z24 := Tryd.sizeOf29
  v24 := Tryd.zeroValue29
  t40 := Tryd.underlying85
  a40 := Tryd.isAgg85
  z40 := Tryd.sizeOf85
  v40 := Tryd.zeroValue85 }
end Go.Proofs
namespace Go.Proofs.YtjmninjaoemhjaaDoor.K
open Go.RowKit Go.Lib Go.Shelf Go.Sort

attribute [local go_sem] Oper.semAt_some

/-- Texts as lists of bytes, in order. -/
def sl (xs : List ByteArray) : List (List UInt8) := xs.map fun x => x.data.toList
def srt (xs : List ByteArray) : List (List UInt8) := (sl xs).mergeSort fun x y => decide (x ≤ y)
theorem ss_sl (xs : List ByteArray) : ss xs = (sl xs).map encStr := by
  unfold ss sl
  rw [List.map_map]
  rfl
theorem srt_len (xs : List ByteArray) : (srt xs).length = xs.length := by simp [srt, sl]
set_option maxRecDepth 100000 in
theorem sorted_any (Bs : Nat) (a : Option Addr) (f : Nat → ByteArray) (N c : Nat) (hN : N ≤ 8796093022208) (w : World) (hBs : w.cell? ⟨Bs, 0, none⟩ = some (.slice a N c)) (hBn : Bs < w.heap.size) (hR : Smb w.heap.size w a f N) :
    Calls Tryd.prog 61 #[.func (.func 87) #[] #[.pointer (some ⟨Bs, 0, none⟩)]] w fun e W' => ∃ v, e = .returned v ∧ W'.ownsRow w.heap.size 9 1 v N ((srt (lf f N)).map encStr) ∧ Below w.heap.size w W' := by
  have k := collect_any Bs a f N c hN w hBs hBn hR
  clear hBs hR
  go_enter Tryd.func61, Tryd.ntmps61
  go_wp2_with fail
  go_fit k
  rintro e w2 ⟨v, rfl, hrow, hb⟩
  have hlen : (sl (lf f N)).length = N := by simp [sl, lf_len]
  rw [ss_sl] at hrow
  have k2 : Calls Tryd.prog 86 #[v] w2 fun e W' => e = .returned (.tuple #[]) ∧ W'.ownsRow w.heap.size 9 1 v N ((srt (lf f N)).map encStr) ∧ Below w.heap.size w W' := by
    rcases hrow.2 with ⟨rfl, h0⟩ | ⟨g, cap, cur, rfl, hbase, hg, h1, h2, h3, h4⟩
    · refine (Tryd.slices_Sort_string_none none 0 w2).mono ?_
      rintro e w' ⟨rfl, rfl⟩
      subst h0
      exact ⟨rfl, by rw [show srt (lf f 0) = [] by simp [srt, sl, lf]]; exact World.ownsRow_nil _ _ _ _, hb⟩
    · have hgl := (Array.getElem?_eq_some_iff.1 hg).1
      have hh : Holds encStr w2 g 0 (sl (lf f N)).toArray := holds_of_block hg (by rw [hlen]; simpa using h4)
      have k3 := Tryd.slices_Sort_string g 0 cap (sl (lf f N)) w2 hh hgl (by omega)
      rw [hlen] at k3
      refine k3.mono ?_
      rintro e w' ⟨rfl, n, os, rfl⟩
      refine ⟨rfl, ?_, hb.grown (grownBy_sorted _) hb.size (by intro k e; cases e; exact hbase)⟩
      have := ownsRow_sorted (n := n) (os := os) (ss := sl (lf f N)) (ts := srt (lf f N)) (by rw [srt_len, lf_len, hlen]) hbase hg (by rw [hlen]; exact h1) h2 h3
      rw [hlen] at this
      exact this
  clear hrow hb
  go_wp2_with fail
  go_fit k2
  rintro e w3 ⟨rfl, h3⟩
  go_wp2
  go_ret
  exact ⟨v, rfl, h3⟩
end Go.Proofs.YtjmninjaoemhjaaDoor.K
/- keeper: whether a label of a name stays. -/
namespace Go.Proofs.YtjmninjaoemhjaaDoor.K
open Go.RowKit Go.Lib Go.Shelf Go.Sort

attribute [local go_sem] Oper.semAt_some

theorem c_new (W : World) (v : Value) (t : TypeId) : (W.alloc (.cells #[v] t)).cell? ⟨W.heap.size, 0, none⟩ = some v := by
  rw [World.cell?_alloc_at _ _ _ _ (by simp)]; rfl
theorem c_alloc {W : World} {a : Addr} {v : Value} (o : Obj) (h : W.cell? a = some v) : (W.alloc o).cell? a = some v := by
  have hb := World.block_lt_of_cell? _ _ h
  exact (((Below.refl W.heap.size W).alloc (Nat.le_refl _) o).cell (p := a) hb).trans h
theorem bs_mono (less : Nat → Bool) (n : Nat) (hm : ∀ a b, a ≤ b → b < n → less b = true → less a = true) : ∀ f lo hi, hi - lo ≤ f → lo ≤ hi → hi ≤ n →
    lo ≤ bsGo less f lo hi ∧ bsGo less f lo hi ≤ hi ∧ (∀ t, lo ≤ t → t < bsGo less f lo hi → less t = true) ∧ (∀ t, bsGo less f lo hi ≤ t → t < hi → less t = false)
  | 0, lo, hi, h1, h2, h3 => by
    simp only [bsGo]
    exact ⟨Nat.le_refl _, h2, fun t a b => by omega, fun t a b => by omega⟩
  | f + 1, lo, hi, h1, h2, h3 => by
    unfold bsGo
    by_cases h : lo < hi
    · rw [if_pos h]
      cases hl : less ((lo + hi) / 2) with
      | true =>
        simp only [if_true]
        obtain ⟨a, b, c, d⟩ := bs_mono less n hm f ((lo + hi) / 2 + 1) hi (by omega) (by omega) h3
        refine ⟨by omega, b, fun t u v => ?_, d⟩
        by_cases ht : t ≤ (lo + hi) / 2
        · exact hm _ _ ht (by omega) hl
        · exact c t (by omega) v
      | false =>
        simp only [Bool.false_eq_true, if_false]
        obtain ⟨a, b, c, d⟩ := bs_mono less n hm f lo ((lo + hi) / 2) (by omega) (by omega) (by omega)
        refine ⟨a, by omega, c, fun t u v => ?_⟩
        by_cases ht : t < (lo + hi) / 2
        · exact d t u ht
        · cases hx : less t with
          | false => rfl
          | true => rw [hm _ _ (by omega) (by omega) hx] at hl; cases hl
    · rw [if_neg h]
      exact ⟨Nat.le_refl _, h2, fun t a b => by omega, fun t a b => by omega⟩
/-- Whether a text is among others. -/
def mb (xs : List ByteArray) (x : ByteArray) : Bool := decide (x.data.toList ∈ sl xs)
theorem mb_iff (xs : List ByteArray) (x : ByteArray) : mb xs x = true ↔ x ∈ xs := by
  unfold mb sl
  rw [decide_eq_true_eq]
  constructor
  · intro h
    obtain ⟨y, hy, e⟩ := List.mem_map.1 h
    have : y = x := by
      cases y; cases x
      simp at e
      congr 1
    exact this ▸ hy
  · intro h
    exact List.mem_map.2 ⟨x, h, rfl⟩
theorem srt_mem (xs : List ByteArray) (x : ByteArray) : x.data.toList ∈ srt xs ↔ x.data.toList ∈ sl xs := by
  unfold srt
  rw [List.mem_mergeSort]
theorem srt_le (xs : List ByteArray) : (srt xs).Pairwise (· ≤ ·) := by
  have h := List.pairwise_mergeSort (le := fun x y : List UInt8 => decide (x ≤ y)) (fun a b c h1 h2 => by simp at h1 h2 ⊢; exact List.le_trans h1 h2) (fun a b => by simp; exact List.le_total a b) (sl xs)
  exact h.imp fun h => by simpa using h
theorem toList_lt (x y : ByteArray) : Op.bytesLess x.toList y.toList = decide (x.data.toList < y.data.toList) := by
  rw [Lib.toList_data, Lib.toList_data, bytesLess_eq]
/-- What the search finds. -/
theorem bs_mem (xs : List ByteArray) (x : ByteArray) (N : Nat) (hN : xs.length = N) (S : Nat → ByteArray) (hS : ∀ j, j < N → (srt xs)[j]? = some (S j).data.toList) :
    decide (bsGo (fun t => Op.bytesLess (S t).toList x.toList) N 0 N < N ∧ S (bsGo (fun t => Op.bytesLess (S t).toList x.toList) N 0 N) = x) = mb xs x := by
  have hsl : (srt xs).length = N := by rw [srt_len, hN]
  have hle : ∀ a b, a ≤ b → b < N → (S a).data.toList ≤ (S b).data.toList := by
    intro a b h1 h2
    by_cases e : a = b
    · subst e; exact List.le_refl _
    · have h := List.pairwise_iff_getElem.1 (srt_le xs) a b (by omega) (by omega) (by omega)
      have ha := hS a (by omega)
      have hb := hS b h2
      rw [List.getElem?_eq_getElem (by omega)] at ha hb
      rw [Option.some.injEq] at ha hb
      rw [ha, hb] at h
      exact h
  obtain ⟨-, hr, h1, h2⟩ := bs_mono (fun t => Op.bytesLess (S t).toList x.toList) N (fun a b hab hb h => by
    rw [toList_lt] at h ⊢
    rw [decide_eq_true_eq] at h ⊢
    exact List.lt_of_le_of_lt (hle a b hab hb) h) N 0 N (by omega) (by omega) (Nat.le_refl _)
  generalize bsGo (fun t => Op.bytesLess (S t).toList x.toList) N 0 N = r at hr h1 h2 ⊢
  unfold mb
  rw [decide_eq_decide, ← srt_mem]
  constructor
  · rintro ⟨h, rfl⟩
    exact List.mem_of_getElem? (hS r h)
  · intro h
    obtain ⟨j, hj, hjx⟩ := List.getElem_of_mem h
    rw [hsl] at hj
    have hj' := hS j hj
    rw [List.getElem?_eq_getElem (by omega), hjx, Option.some.injEq] at hj'
    have hrj : r ≤ j := by
      refine Nat.le_of_not_lt fun hlt => ?_
      have := h1 j (by omega) hlt
      simp only [toList_lt, ← hj', decide_eq_true_eq] at this
      exact absurd this (List.lt_irrefl _)
    have hrn : r < N := by omega
    refine ⟨hrn, ?_⟩
    have h3 := h2 r (Nat.le_refl _) hrn
    simp only [toList_lt, decide_eq_false_iff_not] at h3
    have h4 := hle r j hrj hj
    rw [← hj'] at h4
    have h5 : (S r).data.toList = x.data.toList := List.le_antisymm h4 (List.not_lt.1 h3)
    generalize S r = y at h5
    cases y; cases x
    simp at h5
    congr 1
/-- __name__. -/
abbrev nmL : List UInt8 := [95, 95, 110, 97, 109, 101, 95, 95]
def stay (xs : List ByteArray) (wo : Bool) (x : ByteArray) : Bool := if wo then !mb xs x && !(x.toList == nmL) else mb xs x
theorem row_S {W : World} {n₀ : Nat} {v : Value} {N : Nat} {ts : List (List UInt8)} (h : W.ownsRow n₀ 9 1 v N (ts.map encStr)) : (v = .slice none 0 0 ∧ N = 0) ∨ ∃ g cap, v = .slice (some ⟨g, 0, none⟩) N cap ∧ n₀ ≤ g ∧ g < W.heap.size ∧ ∀ j, j < N → W.cell? ⟨g, 0 + j, none⟩ = some (.string ⟨(ts.getD j []).toArray⟩) := by
  rcases h.2 with h0 | ⟨g, cap, cur, rfl, hb, hg, h1, h2, h3, h4⟩
  · exact .inl h0
  · refine .inr ⟨g, cap, rfl, hb, (Array.getElem?_eq_some_iff.1 hg).1, fun j hj => ?_⟩
    have hl := h.1
    simp at hl
    rw [Nat.zero_add, h.cellAt j (by omega)]
    simp [List.getD, List.getElem?_eq_getElem (show j < ts.length by omega)]
set_option maxRecDepth 100000 in
set_option maxHeartbeats 1000000 in
theorem search_any (n₀ : Nat) (v : Value) (xs : List ByteArray) (x : ByteArray) (W : World) (hN : xs.length ≤ 8796093022208) (hrow : W.ownsRow n₀ 9 1 v xs.length ((srt xs).map encStr)) :
    Calls Tryd.prog 64 #[v, .string x] W fun e W' => (∃ k : Int, e = .returned (.tuple #[.int .i64 k, .bool (mb xs x)])) ∧ ∃ q, W' = W.drewN q := by
  rcases row_S hrow with ⟨rfl, h0⟩ | ⟨g, cap, rfl, -, -, hc⟩
  · refine (Any2.slices_BinarySearch_string_empty Tryd.lays2x26 none 0 x W).mono ?_
    rintro e w' ⟨rfl, rfl⟩
    have : mb xs x = false := by rw [List.length_eq_zero_iff.1 h0]; rfl
    exact ⟨⟨0, by rw [this]⟩, 0, rfl⟩
  · refine (Any2.slices_BinarySearch_string Tryd.lays2x26 g 0 xs.length cap (fun j => ⟨((srt xs).getD j []).toArray⟩) x W (by omega) hc).mono ?_
    rintro e w' ⟨rfl, hq⟩
    have hb := bs_mem xs x xs.length rfl (fun j => ⟨((srt xs).getD j []).toArray⟩) (fun j hj => by simp [List.getD, List.getElem?_eq_getElem (show j < (srt xs).length by rw [srt_len]; exact hj)])
    exact ⟨⟨_, by rw [hb]⟩, hq⟩
set_option maxRecDepth 100000 in
set_option maxHeartbeats 4000000 in
/-- keeper's answer, asked for a name. -/
theorem stays_any (n₀ Bs Bw : Nat) (v : Value) (xs : List ByteArray) (wo : Bool) (x : ByteArray) (W : World) (hN : xs.length ≤ 8796093022208) (hs : W.cell? ⟨Bs, 0, none⟩ = some v) (hw : W.cell? ⟨Bw, 0, none⟩ = some (.bool wo)) (hrow : W.ownsRow n₀ 9 1 v xs.length ((srt xs).map encStr)) :
    Calls Tryd.prog 63 #[.string x, .pointer (some ⟨Bs, 0, none⟩), .pointer (some ⟨Bw, 0, none⟩)] W fun e W' => e = .returned (.bool (stay xs wo x)) ∧ ∃ q, W' = W.drewN q := by
  have k := search_any n₀ v xs x W hN hrow
  have HM : Hid (stay xs wo x = if wo then !mb xs x && !(x.toList == nmL) else mb xs x) := rfl
  generalize hm : mb xs x = m at k HM
  clear hrow hm
  go_enter Tryd.func63, Tryd.ntmps63
  go_wp2_with fail
  go_fit k
  rintro e W' ⟨⟨r, rfl⟩, q, rfl⟩
  have hw' : (W.drewN q).cell? ⟨Bw, 0, none⟩ = some (.bool wo) := hw
  clear hw hs
  cases wo
  · go_wp2
    go_ret
    exact ⟨by rw [HM.out]; rfl, _, rfl⟩
  · cases m
    · go_wp2
      go_ret
      exact ⟨by rw [HM.out]; rfl, _, rfl⟩
    · go_wp2
      go_ret
      exact ⟨by rw [HM.out]; rfl, _, rfl⟩
set_option maxRecDepth 100000 in
set_option maxHeartbeats 4000000 in
theorem keeper_any (a : Option Addr) (f : Nat → ByteArray) (N c : Nat) (wo : Bool) (w : World) (hN : N ≤ 8796093022208) (hR : Smb w.heap.size w a f N) :
    Calls Tryd.prog 37 #[.slice a N c, .bool wo] w fun e W' => ∃ Bs Bw v, e = .returned (.func (.func 63) #[] #[.pointer (some ⟨Bs, 0, none⟩), .pointer (some ⟨Bw, 0, none⟩)]) ∧ w.heap.size ≤ Bs ∧ w.heap.size ≤ Bw ∧ W'.cell? ⟨Bs, 0, none⟩ = some v ∧ W'.cell? ⟨Bw, 0, none⟩ = some (.bool wo) ∧ W'.ownsRow w.heap.size 9 1 v N ((srt (lf f N)).map encStr) ∧ Below w.heap.size w W' := by
  have hNl : (lf f N).length = N := lf_len f N
  go_enter Tryd.func37, Tryd.ntmps37
  go_wp2_with fail
  refine (values_any a N c _).mono ?_
  rintro e w1 ⟨rfl, rfl⟩
  have hb0 : Below w.heap.size w ((w.alloc (.cells #[.bool wo] 4)).alloc (.cells #[.slice a N c] 29)) := ((Below.refl _ w).alloc (Nat.le_refl _) _).alloc (by simp) _
  have hcB : ((w.alloc (.cells #[.bool wo] 4)).alloc (.cells #[.slice a N c] 29)).cell? ⟨(w.alloc (.cells #[.bool wo] 4)).heap.size, 0, none⟩ = some (.slice a N c) := c_new _ _ _
  have hcw : ((w.alloc (.cells #[.bool wo] 4)).alloc (.cells #[.slice a N c] 29)).cell? ⟨w.heap.size, 0, none⟩ = some (.bool wo) := c_alloc _ (c_new _ _ _)
  have hsz : ((w.alloc (.cells #[.bool wo] 4)).alloc (.cells #[.slice a N c] 29)).heap.size = w.heap.size + 2 := by simp
  have hsz1 : (w.alloc (.cells #[.bool wo] 4)).heap.size = w.heap.size + 1 := by simp
  rw [hsz1] at hcB
  rw [hsz1]
  generalize (w.alloc (.cells #[.bool wo] 4)).alloc (.cells #[.slice a N c] 29) = w1 at hb0 hcB hcw hsz ⊢
  have hR1 : Smb w1.heap.size w1 a f N := by
    rcases hR with h | ⟨g, o, e, hg, hc⟩
    · exact .inl h
    · exact .inr ⟨g, o, e, by omega, fun j hj => (hb0.cell (p := ⟨g, o + j, none⟩) hg).trans (hc j hj)⟩
  have k := sorted_any (w.heap.size + 1) a f N c hN w1 hcB (by omega) hR1
  clear hR hR1
  go_wp2_with fail
  go_fit k
  rintro e w2 ⟨v, rfl, hrow, hb⟩
  have hcw2 : w2.cell? ⟨w.heap.size, 0, none⟩ = some (.bool wo) := (hb.cell (p := ⟨w.heap.size, 0, none⟩) (by show w.heap.size < _; omega)).trans hcw
  have hb2 : Below w.heap.size w w2 := hb0.trans (hb.mono (by omega))
  have hrow2 : w2.ownsRow w.heap.size 9 1 v N ((srt (lf f N)).map encStr) := hrow.mono (by omega)
  clear hb0 hcB hcw hb hrow k
  obtain ⟨sa, sn, sc, rfl⟩ : ∃ sa sn sc, v = .slice sa sn sc := by
    rcases row_S hrow2 with ⟨rfl, -⟩ | ⟨g, cap, rfl, -⟩
    · exact ⟨_, _, _, rfl⟩
    · exact ⟨_, _, _, rfl⟩
  have HX : Hid (w2.cell? ⟨w.heap.size, 0, none⟩ = some (.bool wo) ∧ Below w.heap.size w w2 ∧ w2.ownsRow w.heap.size 9 1 (.slice sa sn sc) N ((srt (lf f N)).map encStr)) := ⟨hcw2, hb2, hrow2⟩
  clear hcw2 hb2 hrow2
  go_wp2
  go_ret
  obtain ⟨h1, h2, h3⟩ := HX.out
  exact ⟨_, _, _, rfl, h2.size, Nat.le_refl _, c_new _ _ _, c_alloc _ h1, h3.alloc _, h2.alloc h2.size _⟩
end Go.Proofs.YtjmninjaoemhjaaDoor.K
/- same; keys told apart. -/
namespace Go.Proofs.YtjmninjaoemhjaaDoor.K
open Go.RowKit Go.Lib Go.Shelf Go.Sort

attribute [local go_sem] Oper.semAt_some

theorem Lm.congr {w : World} {a : Option Addr} {f g : Nat → Lb} {n : Nat} (h : Lm w a g n) (e : ∀ j, j < n → f j = g j) : Lm w a f n := by
  rcases h with h | ⟨G, o, e1, hg, hc⟩
  · exact .inl h
  · exact .inr ⟨G, o, e1, hg, fun j hj => by rw [e j hj]; exact hc j hj⟩

/-- The first labels as a list. -/
def ll (f : Nat → Lb) (n : Nat) : List Lb := (List.range n).map f
theorem ll_succ (f : Nat → Lb) (n : Nat) : ll f (n + 1) = ll f n ++ [f n] := by unfold ll; rw [List.range_succ, List.map_append]; rfl
theorem ll_len (f : Nat → Lb) (n : Nat) : (ll f n).length = n := by simp [ll]
theorem ll_get (f : Nat → Lb) (n j : Nat) (h : j < n) : (ll f n)[j]? = some (f j) := by simp [ll, h]
theorem ll_eq (f g : Nat → Lb) (n m : Nat) : ll f n = ll g m ↔ (n = m ∧ ∀ j, j < n → f j = g j) := by
  constructor
  · intro h
    have hl : n = m := by rw [← ll_len f n, h, ll_len]
    subst hl
    refine ⟨rfl, fun j hj => ?_⟩
    have := ll_get f n j hj
    rw [h, ll_get g n j hj] at this
    exact (Option.some.inj this).symm
  · rintro ⟨rfl, h⟩
    unfold ll
    exact List.map_congr_left fun j hj => h j (List.mem_range.1 hj)
/-- keeper's answer, as it lies below m. -/
def Kpr (m : Nat) (W : World) (Bs Bw : Nat) (xs : List ByteArray) (wo : Bool) : Prop :=
  Bs < m ∧ Bw < m ∧ ∃ v n0, W.cell? ⟨Bs, 0, none⟩ = some v ∧ W.cell? ⟨Bw, 0, none⟩ = some (.bool wo) ∧ W.ownsRow n0 9 1 v xs.length ((srt xs).map encStr) ∧ ∀ k, v.ownBlock = some k → k < m
theorem row_below {m n0 N : Nat} {e : TypeId} {W W' : World} {v : Value} {ys : List Value} (h : W.ownsRow n0 e 1 v N ys) (hv : ∀ k, v.ownBlock = some k → k < m) (hb : Below m W W') : W'.ownsRow n0 e 1 v N ys := by
  refine ⟨h.1, ?_⟩
  rcases h.2 with h0 | ⟨g, cap, cur, rfl, h1, h2, h3⟩
  · exact .inl h0
  · exact .inr ⟨g, cap, cur, rfl, h1, (hb.block g (hv g rfl)).trans h2, h3⟩
theorem Kpr.below {m : Nat} {W W' : World} {Bs Bw : Nat} {xs : List ByteArray} {wo : Bool} (h : Kpr m W Bs Bw xs wo) (hb : Below m W W') : Kpr m W' Bs Bw xs wo := by
  obtain ⟨h1, h2, v, n0, h3, h4, h5, h6⟩ := h
  exact ⟨h1, h2, v, n0, (hb.cell (p := ⟨Bs, 0, none⟩) h1).trans h3, (hb.cell (p := ⟨Bw, 0, none⟩) h2).trans h4, row_below h5 h6 hb, h6⟩
theorem Kpr.stays {m : Nat} {W : World} {Bs Bw : Nat} {xs : List ByteArray} {wo : Bool} (h : Kpr m W Bs Bw xs wo) (hN : xs.length ≤ 8796093022208) (x : ByteArray) :
    Calls Tryd.prog 63 #[.string x, .pointer (some ⟨Bs, 0, none⟩), .pointer (some ⟨Bw, 0, none⟩)] W fun e W' => e = .returned (.bool (stay xs wo x)) ∧ ∃ q, W' = W.drewN q := by
  obtain ⟨-, -, v, n0, h3, h4, h5, -⟩ := h
  exact stays_any n0 Bs Bw v xs wo x W hN h3 h4 h5
theorem keeper_k (a : Option Addr) (f : Nat → ByteArray) (N c : Nat) (wo : Bool) (w : World) (hN : N ≤ 8796093022208) (hR : Smb w.heap.size w a f N) :
    Calls Tryd.prog 37 #[.slice a N c, .bool wo] w fun e W' => ∃ Bs Bw, e = .returned (.func (.func 63) #[] #[.pointer (some ⟨Bs, 0, none⟩), .pointer (some ⟨Bw, 0, none⟩)]) ∧ Kpr W'.heap.size W' Bs Bw (lf f N) wo ∧ Below w.heap.size w W' := by
  refine (keeper_any a f N c wo w hN hR).mono ?_
  rintro e W' ⟨Bs, Bw, v, rfl, -, -, h3, h4, h5, h6⟩
  exact ⟨Bs, Bw, rfl, ⟨World.block_lt_of_cell? _ _ h3, World.block_lt_of_cell? _ _ h4, v, _, h3, h4, by rw [lf_len]; exact h5, fun k hk => (h5.lt k hk).2⟩, h6⟩
def keptL (f : Nat → Lb) (xs : List ByteArray) (wo : Bool) (n : Nat) : List Lb := (ll f n).filter fun l => stay xs wo l.1
end Go.Proofs.YtjmninjaoemhjaaDoor.K
/- The reference's Keep. -/
namespace Go.Proofs.YtjmninjaoemhjaaDoor.K
open Go.RowKit Go.Lib

attribute [local go_sem] Oper.semAt_some

theorem infL : (Tryd.prog.info? 26).map (fun i => (i.zero, i.size, i.bytes)) = some (some (.agg #[.string ⟨#[]⟩, .string ⟨#[]⟩]), 2, 32) := by kernel_rfl
theorem own_bd {S e s n : Nat} {w : World} {v : Value} {xs : List Value} (h : w.ownsRow S e s v n xs) : ∀ G, v.ownBlock = some G → S ≤ G ∧ G < w.heap.size := by
  intro G hG
  rcases h.2 with ⟨rfl, _⟩ | ⟨g, cap, cur, rfl, hg, hh, _⟩
  · cases hG
  · have : g = G := Option.some.inj hG
    subst this
    exact ⟨hg, (Array.getElem?_eq_some_iff.1 hh).1⟩
/-- An append whose run is known. -/
theorem wpList_append_run {P : Program} {ops : Array Oper} {rest : List Oper} {o : Oper} {a : Act} {w w' : World} {v' : Value} {Q : Exit → Act → World → Prop} (hw : Region.wanted o (yielded ops a.tmps) = true) (s x : Operand) (t tx : TypeId)
    (ho : o.op = .call { callee := .builtin .append, args := #[s, x], argTypes := #[t, tx] }) (vs vx : Value) (hs : a.eval s = vs) (hx : a.eval x = vx)
    (hr : (Builtin.append_ #[t, tx] o.type #[vs, vx]).run P w = .ok v' w') (h : wpList P ops Q rest (a.put o.dst v') w') : wpList P ops Q (o :: rest) a w := by
  unfold wpList
  rw [if_pos hw]
  left
  unfold Oper.wp execOp
  simp only [ho, resolve, invoke, builtin, Sem.run_bind, Sem.run_pure, Result.andThen_ok, List.map_toArray, List.map_cons, List.map_nil, hs, hx, hr]
  exact h
/-- One label behind a row of one's own. -/
theorem ap_lb (w : World) (S : Nat) (v : Value) (n : Nat) (xs : List Value) (x : Lb) (hS : S ≤ w.heap.size) (hn : (n + 1) * 32 ≤ 140737488355328) (o : w.ownsRow S 26 2 v n xs) :
    ∃ g c w', (Builtin.append_ #[22, 22] 22 #[v, .slice (some ⟨w.heap.size, 0, none⟩) 1 1]).run Tryd.prog (w.alloc (lbX x)) = .ok (.slice (some ⟨g, 0, none⟩) (n + 1) c) w' ∧ w'.ownsRow S 26 2 (.slice (some ⟨g, 0, none⟩) (n + 1) c) (n + 1) (xs ++ l2 x) ∧ Kp (fun k => v.ownBlock = some k) w w' := by
  obtain ⟨i0, hi, hz0, hz1, hz2⟩ := info_parts infL
  have o0 := World.ownsRow.alloc o (lbX x)
  have e : (w.alloc (lbX x)).heap[w.heap.size]? = some (lbX x) := heap_alloc_new w _
  obtain ⟨v', w', r, o', g, _, _⟩ := run_append_own_at (P := Tryd.prog) (w.alloc (lbX x)) S 22 22 26 i0 _ 2 32 Tryd.underlying22 hi hz0 hz1 hz2 rfl (by decide) _ n xs o0 ⟨w.heap.size, 0, none⟩ 1 1 (l2 x) (by rfl)
    (fun j u hj => by
      rw [Go.WideShapes.add_plain, Nat.zero_add]
      unfold World.cell?
      rw [e]
      simpa [l2] using hj) (by intro u hu; simp [l2] at hu; rcases hu with rfl | rfl <;> rfl) (by unfold maxLen; omega) hn (by simp; omega)
  rcases o'.2 with ⟨_, h0⟩ | ⟨G, C, cur, rfl, _⟩
  · omega
  · exact ⟨G, C, w', r, o', ((Kp.refl _ w).trans (Kp.of ((Below.refl _ w).alloc (Nat.le_refl _) _))).grown g (fun k hk _ => hk)⟩

def gL (ls : List Lb) : Nat → Lb := fun j => ls.getD j (⟨#[]⟩, ⟨#[]⟩)
theorem ll_gL (ls : List Lb) : ll (gL ls) ls.length = ls := by
  apply List.ext_getElem (by simp [ll])
  intro i h1 h2
  simp [ll, gL, List.getD, List.getElem?_eq_getElem h2]
theorem lc_ll (f : Nat → Lb) (n : Nat) : lc f n = lcL (ll f n) := by unfold lc lcL ll; rw [List.flatMap_map]
theorem lcL_lc (ls : List Lb) : lcL ls = lc (gL ls) ls.length := by rw [lc_ll, ll_gL]
theorem keptL_succ (f : Nat → Lb) (xs : List ByteArray) (wo : Bool) (n : Nat) : keptL f xs wo (n + 1) = keptL f xs wo n ++ if stay xs wo (f n).1 then [f n] else [] := by
  unfold keptL
  rw [ll_succ, List.filter_append]
  congr 1
  split <;> rename_i h <;> simp [h]
theorem keptL_le (f : Nat → Lb) (xs : List ByteArray) (wo : Bool) (n : Nat) : (keptL f xs wo n).length ≤ n := by
  have := List.length_filter_le (fun l : Lb => stay xs wo l.1) (ll f n)
  rw [ll_len] at this
  exact this
theorem mb_succ (nf : Nat → ByteArray) (j : Nat) (x : ByteArray) : mb (lf nf (j + 1)) x = (mb (lf nf j) x || (nf j).toList == x.toList) := by
  unfold mb
  rw [lf_succ]
  unfold sl
  rw [List.map_append, Lib.toList_data, Lib.toList_data, Bool.eq_iff_iff]
  simp
  constructor
  · rintro (h | h)
    · exact .inl h
    · exact .inr h.symm
  · rintro (h | h)
    · exact .inl h
    · exact .inr h.symm
end Go.Proofs.YtjmninjaoemhjaaDoor.K
