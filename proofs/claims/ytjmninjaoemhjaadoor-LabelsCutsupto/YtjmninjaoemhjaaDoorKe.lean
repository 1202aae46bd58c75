/- keeper: whether a label of a name stays. -/
import Derived.Test.YtjmninjaoemhjaaDoorKd
import Derived.Deep.Onto
namespace Go.Proofs.YtjmninjaoemhjaaDoor.K
open Go.RowKit Go.Lib Go.Shelf Go.Sort

attribute [local go_sem] Oper.semAt_some

theorem c_new (W : World) (v : Value) (t : TypeId) : (W.alloc (.cells #[v] t)).cell? ⟨W.heap.size, 0, none⟩ = some v := by
  rw [World.cell?_alloc_at _ _ _ _ (by simp)]; rfl
theorem c_alloc {W : World} {a : Addr} {v : Value} (o : Obj) (h : W.cell? a = some v) : (W.alloc o).cell? a = some v := by
  have hb := World.block_lt_of_cell? _ _ h
  exact (((Below.refl W.heap.size W).alloc (Nat.le_refl _) o).cell (p := a) hb).trans h
theorem bs_mono (less : Nat → Bool) (n : Nat) (hm : ∀ a b, a ≤ b → b < n → less b = true → less a = true) : ∀ f lo hi, hi - lo ≤ f → lo ≤ hi → hi ≤ n →
    lo ≤ bsGo less f lo hi ∧ bsGo less f lo hi ≤ hi ∧ (∀ t, lo ≤ t → t < bsGo less f lo hi → less t = true) ∧ (∀ t, bsGo less f lo hi ≤ t → t < hi → less t = false)
  | 0, lo, hi, h1, h2, h3 => by
    simp only [bsGo]
    exact ⟨Nat.le_refl _, h2, fun t a b => by omega, fun t a b => by omega⟩
  | f + 1, lo, hi, h1, h2, h3 => by
    unfold bsGo
    by_cases h : lo < hi
    · rw [if_pos h]
      cases hl : less ((lo + hi) / 2) with
      | true =>
        simp only [if_true]
        obtain ⟨a, b, c, d⟩ := bs_mono less n hm f ((lo + hi) / 2 + 1) hi (by omega) (by omega) h3
        refine ⟨by omega, b, fun t u v => ?_, d⟩
        by_cases ht : t ≤ (lo + hi) / 2
        · exact hm _ _ ht (by omega) hl
        · exact c t (by omega) v
      | false =>
        simp only [Bool.false_eq_true, if_false]
        obtain ⟨a, b, c, d⟩ := bs_mono less n hm f lo ((lo + hi) / 2) (by omega) (by omega) (by omega)
        refine ⟨a, by omega, c, fun t u v => ?_⟩
        by_cases ht : t < (lo + hi) / 2
        · exact d t u ht
        · cases hx : less t with
          | false => rfl
          | true => rw [hm _ _ (by omega) (by omega) hx] at hl; cases hl
    · rw [if_neg h]
      exact ⟨Nat.le_refl _, h2, fun t a b => by omega, fun t a b => by omega⟩
/-- Whether a text is among others. -/
def mb (xs : List ByteArray) (x : ByteArray) : Bool := decide (x.data.toList ∈ sl xs)
theorem mb_iff (xs : List ByteArray) (x : ByteArray) : mb xs x = true ↔ x ∈ xs := by
  unfold mb sl
  rw [decide_eq_true_eq]
  constructor
  · intro h
    obtain ⟨y, hy, e⟩ := List.mem_map.1 h
    have : y = x := by
      cases y; cases x
      simp at e
      congr 1
    exact this ▸ hy
  · intro h
    exact List.mem_map.2 ⟨x, h, rfl⟩
theorem srt_mem (xs : List ByteArray) (x : ByteArray) : x.data.toList ∈ srt xs ↔ x.data.toList ∈ sl xs := by
  unfold srt
  rw [List.mem_mergeSort]
theorem srt_le (xs : List ByteArray) : (srt xs).Pairwise (· ≤ ·) := by
  have h := List.pairwise_mergeSort (le := fun x y : List UInt8 => decide (x ≤ y)) (fun a b c h1 h2 => by simp at h1 h2 ⊢; exact List.le_trans h1 h2) (fun a b => by simp; exact List.le_total a b) (sl xs)
  exact h.imp fun h => by simpa using h
theorem toList_lt (x y : ByteArray) : Op.bytesLess x.toList y.toList = decide (x.data.toList < y.data.toList) := by
  rw [Lib.toList_data, Lib.toList_data, bytesLess_eq]
/-- What the search finds. -/
theorem bs_mem (xs : List ByteArray) (x : ByteArray) (N : Nat) (hN : xs.length = N) (S : Nat → ByteArray) (hS : ∀ j, j < N → (srt xs)[j]? = some (S j).data.toList) :
    decide (bsGo (fun t => Op.bytesLess (S t).toList x.toList) N 0 N < N ∧ S (bsGo (fun t => Op.bytesLess (S t).toList x.toList) N 0 N) = x) = mb xs x := by
  have hsl : (srt xs).length = N := by rw [srt_len, hN]
  have hle : ∀ a b, a ≤ b → b < N → (S a).data.toList ≤ (S b).data.toList := by
    intro a b h1 h2
    by_cases e : a = b
    · subst e; exact List.le_refl _
    · have h := List.pairwise_iff_getElem.1 (srt_le xs) a b (by omega) (by omega) (by omega)
      have ha := hS a (by omega)
      have hb := hS b h2
      rw [List.getElem?_eq_getElem (by omega)] at ha hb
      rw [Option.some.injEq] at ha hb
      rw [ha, hb] at h
      exact h
  obtain ⟨-, hr, h1, h2⟩ := bs_mono (fun t => Op.bytesLess (S t).toList x.toList) N (fun a b hab hb h => by
    rw [toList_lt] at h ⊢
    rw [decide_eq_true_eq] at h ⊢
    exact List.lt_of_le_of_lt (hle a b hab hb) h) N 0 N (by omega) (by omega) (Nat.le_refl _)
  generalize bsGo (fun t => Op.bytesLess (S t).toList x.toList) N 0 N = r at hr h1 h2 ⊢
  unfold mb
  rw [decide_eq_decide, ← srt_mem]
  constructor
  · rintro ⟨h, rfl⟩
    exact List.mem_of_getElem? (hS r h)
  · intro h
    obtain ⟨j, hj, hjx⟩ := List.getElem_of_mem h
    rw [hsl] at hj
    have hj' := hS j hj
    rw [List.getElem?_eq_getElem (by omega), hjx, Option.some.injEq] at hj'
    have hrj : r ≤ j := by
      refine Nat.le_of_not_lt fun hlt => ?_
      have := h1 j (by omega) hlt
      simp only [toList_lt, ← hj', decide_eq_true_eq] at this
      exact absurd this (List.lt_irrefl _)
    have hrn : r < N := by omega
    refine ⟨hrn, ?_⟩
    have h3 := h2 r (Nat.le_refl _) hrn
    simp only [toList_lt, decide_eq_false_iff_not] at h3
    have h4 := hle r j hrj hj
    rw [← hj'] at h4
    have h5 : (S r).data.toList = x.data.toList := List.le_antisymm h4 (List.not_lt.1 h3)
    generalize S r = y at h5
    cases y; cases x
    simp at h5
    congr 1
/-- __name__. -/
abbrev nmL : List UInt8 := [95, 95, 110, 97, 109, 101, 95, 95]
def stay (xs : List ByteArray) (wo : Bool) (x : ByteArray) : Bool := if wo then !mb xs x && !(x.toList == nmL) else mb xs x
theorem row_S {W : World} {n₀ : Nat} {v : Value} {N : Nat} {ts : List (List UInt8)} (h : W.ownsRow n₀ 9 1 v N (ts.map encStr)) : (v = .slice none 0 0 ∧ N = 0) ∨ ∃ g cap, v = .slice (some ⟨g, 0, none⟩) N cap ∧ n₀ ≤ g ∧ g < W.heap.size ∧ ∀ j, j < N → W.cell? ⟨g, 0 + j, none⟩ = some (.string ⟨(ts.getD j []).toArray⟩) := by
  rcases h.2 with h0 | ⟨g, cap, cur, rfl, hb, hg, h1, h2, h3, h4⟩
  · exact .inl h0
  · refine .inr ⟨g, cap, rfl, hb, (Array.getElem?_eq_some_iff.1 hg).1, fun j hj => ?_⟩
    have hl := h.1
    simp at hl
    rw [Nat.zero_add, h.cellAt j (by omega)]
    simp [List.getD, List.getElem?_eq_getElem (show j < ts.length by omega)]
set_option maxRecDepth 100000 in
set_option maxHeartbeats 1000000 in
theorem search_any (n₀ : Nat) (v : Value) (xs : List ByteArray) (x : ByteArray) (W : World) (hN : xs.length ≤ 8796093022208) (hrow : W.ownsRow n₀ 9 1 v xs.length ((srt xs).map encStr)) :
    Calls Tryd.prog 64 #[v, .string x] W fun e W' => (∃ k : Int, e = .returned (.tuple #[.int .i64 k, .bool (mb xs x)])) ∧ ∃ q, W' = W.drewN q := by
  rcases row_S hrow with ⟨rfl, h0⟩ | ⟨g, cap, rfl, -, -, hc⟩
  · refine (Any2.slices_BinarySearch_string_empty Tryd.lays2x26 none 0 x W).mono ?_
    rintro e w' ⟨rfl, rfl⟩
    have : mb xs x = false := by rw [List.length_eq_zero_iff.1 h0]; rfl
    exact ⟨⟨0, by rw [this]⟩, 0, rfl⟩
  · refine (Any2.slices_BinarySearch_string Tryd.lays2x26 g 0 xs.length cap (fun j => ⟨((srt xs).getD j []).toArray⟩) x W (by omega) hc).mono ?_
    rintro e w' ⟨rfl, hq⟩
    have hb := bs_mem xs x xs.length rfl (fun j => ⟨((srt xs).getD j []).toArray⟩) (fun j hj => by simp [List.getD, List.getElem?_eq_getElem (show j < (srt xs).length by rw [srt_len]; exact hj)])
    exact ⟨⟨_, by rw [hb]⟩, hq⟩
set_option maxRecDepth 100000 in
set_option maxHeartbeats 4000000 in
/-- keeper's answer, asked for a name. -/
theorem stays_any (n₀ Bs Bw : Nat) (v : Value) (xs : List ByteArray) (wo : Bool) (x : ByteArray) (W : World) (hN : xs.length ≤ 8796093022208) (hs : W.cell? ⟨Bs, 0, none⟩ = some v) (hw : W.cell? ⟨Bw, 0, none⟩ = some (.bool wo)) (hrow : W.ownsRow n₀ 9 1 v xs.length ((srt xs).map encStr)) :
    Calls Tryd.prog 63 #[.string x, .pointer (some ⟨Bs, 0, none⟩), .pointer (some ⟨Bw, 0, none⟩)] W fun e W' => e = .returned (.bool (stay xs wo x)) ∧ ∃ q, W' = W.drewN q := by
  have k := search_any n₀ v xs x W hN hrow
  have HM : Hid (stay xs wo x = if wo then !mb xs x && !(x.toList == nmL) else mb xs x) := rfl
  generalize hm : mb xs x = m at k HM
  clear hrow hm
  go_enter Tryd.func63, Tryd.ntmps63
  go_wp2_with fail
  go_fit k
  rintro e W' ⟨⟨r, rfl⟩, q, rfl⟩
  have hw' : (W.drewN q).cell? ⟨Bw, 0, none⟩ = some (.bool wo) := hw
  clear hw hs
  cases wo
  · go_wp2
    go_ret
    exact ⟨by rw [HM.out]; rfl, _, rfl⟩
  · cases m
    · go_wp2
      go_ret
      exact ⟨by rw [HM.out]; rfl, _, rfl⟩
    · go_wp2
      go_ret
      exact ⟨by rw [HM.out]; rfl, _, rfl⟩
set_option maxRecDepth 100000 in
set_option maxHeartbeats 4000000 in
theorem keeper_any (a : Option Addr) (f : Nat → ByteArray) (N c : Nat) (wo : Bool) (w : World) (hN : N ≤ 8796093022208) (hR : Smb w.heap.size w a f N) :
    Calls Tryd.prog 37 #[.slice a N c, .bool wo] w fun e W' => ∃ Bs Bw v, e = .returned (.func (.func 63) #[] #[.pointer (some ⟨Bs, 0, none⟩), .pointer (some ⟨Bw, 0, none⟩)]) ∧ w.heap.size ≤ Bs ∧ w.heap.size ≤ Bw ∧ W'.cell? ⟨Bs, 0, none⟩ = some v ∧ W'.cell? ⟨Bw, 0, none⟩ = some (.bool wo) ∧ W'.ownsRow w.heap.size 9 1 v N ((srt (lf f N)).map encStr) ∧ Below w.heap.size w W' := by
  have hNl : (lf f N).length = N := lf_len f N
  go_enter Tryd.func37, Tryd.ntmps37
  go_wp2_with fail
  refine (values_any a N c _).mono ?_
  rintro e w1 ⟨rfl, rfl⟩
  have hb0 : Below w.heap.size w ((w.alloc (.cells #[.bool wo] 4)).alloc (.cells #[.slice a N c] 29)) := ((Below.refl _ w).alloc (Nat.le_refl _) _).alloc (by simp) _
  have hcB : ((w.alloc (.cells #[.bool wo] 4)).alloc (.cells #[.slice a N c] 29)).cell? ⟨(w.alloc (.cells #[.bool wo] 4)).heap.size, 0, none⟩ = some (.slice a N c) := c_new _ _ _
  have hcw : ((w.alloc (.cells #[.bool wo] 4)).alloc (.cells #[.slice a N c] 29)).cell? ⟨w.heap.size, 0, none⟩ = some (.bool wo) := c_alloc _ (c_new _ _ _)
  have hsz : ((w.alloc (.cells #[.bool wo] 4)).alloc (.cells #[.slice a N c] 29)).heap.size = w.heap.size + 2 := by simp
  have hsz1 : (w.alloc (.cells #[.bool wo] 4)).heap.size = w.heap.size + 1 := by simp
  rw [hsz1] at hcB
  rw [hsz1]
  generalize (w.alloc (.cells #[.bool wo] 4)).alloc (.cells #[.slice a N c] 29) = w1 at hb0 hcB hcw hsz ⊢
  have hR1 : Smb w1.heap.size w1 a f N := by
    rcases hR with h | ⟨g, o, e, hg, hc⟩
    · exact .inl h
    · exact .inr ⟨g, o, e, by omega, fun j hj => (hb0.cell (p := ⟨g, o + j, none⟩) hg).trans (hc j hj)⟩
  have k := sorted_any (w.heap.size + 1) a f N c hN w1 hcB (by omega) hR1
  clear hR hR1
  go_wp2_with fail
  go_fit k
  rintro e w2 ⟨v, rfl, hrow, hb⟩
  have hcw2 : w2.cell? ⟨w.heap.size, 0, none⟩ = some (.bool wo) := (hb.cell (p := ⟨w.heap.size, 0, none⟩) (by show w.heap.size < _; omega)).trans hcw
  have hb2 : Below w.heap.size w w2 := hb0.trans (hb.mono (by omega))
  have hrow2 : w2.ownsRow w.heap.size 9 1 v N ((srt (lf f N)).map encStr) := hrow.mono (by omega)
  clear hb0 hcB hcw hb hrow k
  obtain ⟨sa, sn, sc, rfl⟩ : ∃ sa sn sc, v = .slice sa sn sc := by
    rcases row_S hrow2 with ⟨rfl, -⟩ | ⟨g, cap, rfl, -⟩
    · exact ⟨_, _, _, rfl⟩
    · exact ⟨_, _, _, rfl⟩
  have HX : Hid (w2.cell? ⟨w.heap.size, 0, none⟩ = some (.bool wo) ∧ Below w.heap.size w w2 ∧ w2.ownsRow w.heap.size 9 1 (.slice sa sn sc) N ((srt (lf f N)).map encStr)) := ⟨hcw2, hb2, hrow2⟩
  clear hcw2 hb2 hrow2
  go_wp2
  go_ret
  obtain ⟨h1, h2, h3⟩ := HX.out
  exact ⟨_, _, _, rfl, h2.size, Nat.le_refl _, c_new _ _ _, c_alloc _ h1, h3.alloc _, h2.alloc h2.size _⟩
end Go.Proofs.YtjmninjaoemhjaaDoor.K
