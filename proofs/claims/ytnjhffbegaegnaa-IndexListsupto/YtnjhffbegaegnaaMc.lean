/- rising, same. -/
import Derived.Test.YtnjhffbegaegnaaMa
import Derived.Test.YtnjhffbegaegnaaMb
import Derived.Test.YtnjhffbegaegnaaMs
import Derived.Sort.OwnSortedInts
namespace Go.Proofs.Ytnjhffbegaegnaa
open Go.RowKit Go.Lib Go.Shelf Go.Sort

theorem zc_map (l : List Int) : zc l = l.map (Value.int .i64) := rfl
/-- slices.Clone of any numbers. -/
theorem clone_any (a : Option Addr) (c : Nat) (xs : List Int) (w : World) (hx : Zm w a xs) (hl : xs.length ≤ 4194304) :
    Calls Try.prog 17 #[.slice a xs.length c] w fun e w' => ∃ v, e = .returned v ∧ Zr w' w.heap.size v xs ∧ Below w.heap.size w w' := by
  cases a with
  | none =>
    have h0 : xs = [] := by
      rcases hx with h | ⟨g, o, ha, _⟩
      · exact h
      · cases ha
    subst h0
    refine (Try.slices_Clone_int_nil 0 c w).mono ?_
    rintro e w' ⟨rfl, rfl⟩
    exact ⟨_, rfl, Zr.nil _ _, Below.refl _ _⟩
  | some x =>
    by_cases h0 : xs = []
    · subst h0
      refine (Try.slices_Clone_int_zero x c w).mono ?_
      rintro e w' ⟨v, rfl, ho, _, hb⟩
      exact ⟨v, rfl, ho, hb⟩
    · obtain ⟨g, o, ha, hg, hc⟩ := hx.resolve_left h0
      cases ha
      refine (Try.slices_Clone_int g o xs.length c xs w (Nat.le_refl _) (by omega) hc).mono ?_
      rintro e w' ⟨v, rfl, ho, _, hb⟩
      rw [List.take_length] at ho
      exact ⟨v, rfl, ho, hb⟩
/-- slices.Sort of a row of one's own. -/
theorem sort_any (B : Nat) (v : Value) (xs : List Int) (w : World) (h : Zr w B v xs) (hl : xs.length ≤ 4194304) (hB : B ≤ w.heap.size) :
    Calls Try.prog 18 #[v] w fun e w' => e = .returned (.tuple #[]) ∧ Zr w' B v (srt xs) ∧ Below B w w' := by
  rcases h.2 with ⟨rfl, h0⟩ | ⟨g, cap, cur, rfl, hbase, hg, h1, h2, h3, h4⟩
  · have hx : xs = [] := List.eq_nil_of_length_eq_zero h0
    subst hx
    refine (Try.slices_Sort_int_none none 0 w).mono ?_
    rintro e w' ⟨rfl, rfl⟩
    exact ⟨rfl, by rw [show srt [] = [] by simp [srt]]; exact Zr.nil _ _, Below.refl _ _⟩
  · have hgl := (Array.getElem?_eq_some_iff.1 hg).1
    have hh : Holds (Value.int .i64) w g 0 xs.toArray := holds_of_blockI hg (by simpa [zc] using h4)
    refine (Try.slices_Sort_int g 0 cap xs w hh hgl (by omega)).mono ?_
    rintro e w' ⟨rfl, n, os, rfl⟩
    refine ⟨rfl, ?_, (Below.refl B w).grown (grownBy_sortedI _) hB (by intro k e; cases e; exact hbase)⟩
    have := ownsRow_sortedI (n := n) (os := os) (ss := xs) (ts := srt xs) (srt_len xs) hbase hg h1 h2 h3
    unfold Zr
    rw [srt_len]
    exact this
theorem take_put {cur : Array Value} {d : List Int} {m : Nat} (h : d.length ≤ cur.size) (hm : m ≤ d.length) : (putCells (Value.int .i64) 0 d.toArray cur).toList.take m = (d.take m).map (Value.int .i64) := by
  have := take_putCellsI cur d h
  have h2 : ((putCells (Value.int .i64) 0 d.toArray cur).toList.take d.length).take m = (d.map (Value.int .i64)).take m := by rw [this]
  rw [List.take_take, Nat.min_eq_left hm] at h2
  rw [h2, List.map_take]
/-- slices.Compact of a row of one's own. -/
theorem compact_any (B : Nat) (v : Value) (xs : List Int) (w : World) (h : Zr w B v xs) (hl : xs.length ≤ 4194304) (hB : B ≤ w.heap.size) :
    Calls Try.prog 19 #[v] w fun e w' => ∃ u, e = .returned u ∧ Zr w' B u (compact xs) ∧ Below B w w' := by
  rcases h.2 with ⟨rfl, h0⟩ | ⟨g, cap, cur, rfl, hbase, hg, h1, h2, h3, h4⟩
  · have hx : xs = [] := List.eq_nil_of_length_eq_zero h0
    subst hx
    refine (Try.slices_Compact_int_empty none 0 w).mono ?_
    rintro e w' ⟨rfl, rfl⟩
    exact ⟨_, rfl, by rw [show compact ([] : List Int) = [] by simp [compact, compactUpTo]]; exact Zr.nil _ _, Below.refl _ _⟩
  · have hgl := (Array.getElem?_eq_some_iff.1 hg).1
    have hh : Holds (Value.int .i64) w g 0 xs.toArray := holds_of_blockI hg (by simpa [zc] using h4)
    refine (Try.slices_Compact_int g 0 cap xs w hh (by omega) h1).mono ?_
    rintro e w' ⟨rfl, q, rfl⟩
    have hcl := compact_length_le xs
    have gb : w.grownBy (grow (putRow (Value.int .i64) (Sort.ahead w q) g 0 (compact xs ++ List.replicate (xs.length - (compact xs).length) 0).toArray) #[]) (some g) := grownBy_sortedI _
    have hb := heap_sortedI (n := q) (os := #[]) (compact xs ++ List.replicate (xs.length - (compact xs).length) 0).toArray hg
    have e0 : ∀ W : World, grow W #[] = W := fun W => by simp [grow]
    rw [e0] at gb hb
    refine ⟨_, rfl, ⟨by simp [zc], .inr ⟨g, cap, _, rfl, hbase, hb, by omega, h2, by simp [putCells, h3], ?_⟩⟩, (Below.refl B w).grown gb hB (by intro k e; cases e; exact hbase)⟩
    rw [Nat.mul_one, take_put (by simp; omega) (by simp)]
    simp [zc]
set_option maxRecDepth 100000 in
/-- index.rising. -/
theorem rising_any (a : Option Addr) (c : Nat) (xs : List Int) (w : World) (hx : Zm w a xs) (hl : xs.length ≤ 4194304) :
    Calls Try.prog 12 #[.slice a xs.length c] w fun e w' => ∃ v, e = .returned v ∧ Zr w' w.heap.size v (rsg xs) ∧ Below w.heap.size w w' := by
  have k1 := clone_any a c xs w hx hl
  have HL : Hid (xs.length ≤ 4194304) := hl
  clear hx hl
  go_enter Try.func12, Try.ntmps12
  go_wp2_with fail
  go_fit k1
  rintro e w1 ⟨v, rfl, h1, b1⟩
  have k2 := sort_any w.heap.size v xs w1 h1 HL.out b1.size
  have B1 : Hid _ := b1
  clear h1 b1
  go_wp2_with fail
  go_fit k2
  rintro e w2 ⟨rfl, h2, b2⟩
  have k3 := compact_any w.heap.size v (srt xs) w2 h2 (by rw [srt_len]; exact HL.out) (Nat.le_trans B1.out.size b2.size)
  have B2 : Hid _ := B1.out.trans b2
  clear h2 b2
  go_wp2_with fail
  go_fit k3
  rintro e w3 ⟨u, rfl, h3, b3⟩
  go_wp2
  go_ret
  exact ⟨u, rfl, h3, B2.out.trans b3⟩
end Go.Proofs.Ytnjhffbegaegnaa
