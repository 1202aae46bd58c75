/- Rows of buckets: cells, stores, exchanges. -/
import Derived.Test.YtfjfpplemgjcmabSv
import Derived.Test.YtfjfpplemgjcmabOw
import Derived.BigRegion
namespace Go.Proofs.Ytfjfpplemgjcmab
open Go.RowKit

/-- A bucket: its bound, its count. -/
abbrev Bk := Nat × Nat
def b2 (u : Bk) : List Value := [.float .f64 u.1, .float .f64 u.2]
def bc (f : Nat → Bk) (n : Nat) : List Value := (List.range n).flatMap fun j => b2 (f j)
theorem bc_succ (f : Nat → Bk) (n : Nat) : bc f (n + 1) = bc f n ++ b2 (f n) := by
  unfold bc
  rw [List.range_succ, List.flatMap_append]
  simp
theorem bc_len (f : Nat → Bk) (n : Nat) : (bc f n).length = n * 2 := by
  induction n with
  | zero => rfl
  | succ n ih => rw [bc_succ, List.length_append, ih]; simp [b2]; omega
theorem bc_get (f : Nat → Bk) : ∀ (n j k : Nat), j < n → k < 2 → (bc f n)[j * 2 + k]? = (b2 (f j))[k]?
  | 0, j, k, h, _ => by omega
  | n + 1, j, k, h, hk => by
    rw [bc_succ]
    by_cases hj : j < n
    · rw [List.getElem?_append_left (by rw [bc_len]; omega)]
      exact bc_get f n j k hj hk
    · obtain rfl : j = n := by omega
      rw [List.getElem?_append_right (by rw [bc_len]; omega), bc_len]
      congr 1
      omega
theorem bc_congr (f g : Nat → Bk) (n : Nat) (h : ∀ j, j < n → f j = g j) : bc f n = bc g n := by
  induction n with
  | zero => rfl
  | succ n ih => rw [bc_succ, bc_succ, ih fun j hj => h j (by omega), h n (by omega)]
theorem bc_set (f : Nat → Bk) (j : Nat) (u : Bk) : ∀ n, j < n → ((bc f n).set (j * 2) (.float .f64 u.1)).set (j * 2 + 1) (.float .f64 u.2) = bc (up f j u) n
  | 0, h => by omega
  | n + 1, h => by
    rw [bc_succ, bc_succ]
    by_cases hj : j < n
    · rw [List.set_append_left _ _ (by rw [bc_len]; omega), List.set_append_left _ _ (by rw [List.length_set, bc_len]; omega), bc_set f j u n hj]
      congr 1
      congr 1
      exact (if_neg (by omega)).symm
    · obtain rfl : j = n := by omega
      rw [List.set_append_right _ _ (by rw [bc_len]; omega), List.set_append_right _ _ (by rw [bc_len]; omega), bc_len, Nat.sub_self, show j * 2 + 1 - j * 2 = 1 by omega]
      congr 1
      · exact bc_congr _ _ _ fun i hi => (if_neg (by omega)).symm
      · have : up f j u j = u := if_pos rfl
        rw [this]
        rfl
theorem info34 : (Try.prog.info? 40).map (fun i => (i.zero, i.size, i.bytes)) = some (some (.agg #[.float .f64 0, .float .f64 0]), 2, 16) := by kernel_rfl
/-- A row of buckets of one's own. -/
def Rb (w : World) (S g c n : Nat) (f : Nat → Bk) : Prop := w.ownsRow S 40 2 (.slice (some ⟨g, 0, none⟩) n c) n (bc f n)
section
variable {w : World} {S g c n : Nat} {f : Nat → Bk}
theorem Rb.cellU (h : Rb w S g c n f) (j : Nat) (hj : j < n) : w.cell? ⟨g, j * 2, none⟩ = some (.float .f64 (f j).1) := by
  have := h.cells (g := g) rfl (j * 2) (.float .f64 (f j).1) (by
    have := bc_get f n j 0 hj (by omega)
    rw [Nat.add_zero] at this
    rw [this]; rfl)
  rw [Go.WideShapes.add_plain, Nat.zero_add] at this
  exact this
theorem Rb.cellC (h : Rb w S g c n f) (j : Nat) (hj : j < n) : w.cell? ⟨g, j * 2 + 1, none⟩ = some (.float .f64 (f j).2) := by
  have := h.cells (g := g) rfl (j * 2 + 1) (.float .f64 (f j).2) (by rw [bc_get f n j 1 hj (by omega)]; rfl)
  rw [Go.WideShapes.add_plain, Nat.zero_add] at this
  exact this
theorem Rb.froz (h : Rb w S g c n f) (j : Nat) : w.frozen? ⟨g, j, none⟩ = false := World.ownsRow.frozenAt h j
theorem Rb.ge (h : Rb w S g c n f) : S ≤ g := (World.ownsRow.lt h g rfl).1
theorem Rb.drew (h : Rb w S g c n f) (k : Nat) : Rb (w.drewN k) S g c n f := h
theorem Rb.below {w' : World} (h : Rb w S g c n f) (hb : Below w.heap.size w w') : Rb w' S g c n f := by
  refine ⟨h.1, ?_⟩
  rcases h.2 with h0 | ⟨g, cap, cur, hv, hB, hg, r⟩
  · exact .inl h0
  · exact .inr ⟨g, cap, cur, hv, hB, (hb.block g (Array.getElem?_eq_some_iff.1 hg).1).trans hg, r⟩
theorem Rb.lt (h : Rb w S g c n f) : g < w.heap.size := by
  rcases h.2 with ⟨h0, _⟩ | ⟨g', cap, cur, hv, hB, hg, r⟩
  · cases h0
  · cases hv
    exact (Array.getElem?_eq_some_iff.1 hg).1
theorem Rb.congr {f' : Nat → Bk} (h : Rb w S g c n f) (e : ∀ j, j < n → f j = f' j) : Rb w S g c n f' := by
  unfold Rb
  rw [← bc_congr f f' n e]
  exact h
theorem Rb.set (h : Rb w S g c n f) (j : Nat) (hj : j < n) (u : Bk) : Rb ((w.setCell ⟨g, j * 2, none⟩ (.float .f64 u.1)).setCell ⟨g, j * 2 + 1, none⟩ (.float .f64 u.2)) S g c n (up f j u) := by
  unfold Rb
  rw [← bc_set f j u n hj]
  exact (World.ownsRow.stored (World.ownsRow.stored h (j * 2) (.float .f64 u.1)).1 (j * 2 + 1) (.float .f64 u.2)).1
/-- Two exchanged. -/
def swW (w : World) (g i j : Nat) (x y : Bk) : World := ((((w.setCell ⟨g, i * 2, none⟩ (.float .f64 y.1)).setCell ⟨g, i * 2 + 1, none⟩ (.float .f64 y.2)).setCell ⟨g, j * 2, none⟩ (.float .f64 x.1)).setCell ⟨g, j * 2 + 1, none⟩ (.float .f64 x.2)).drew
theorem Rb.swap (h : Rb w S g c n f) (i j : Nat) (hi : i < n) (hj : j < n) : Rb (swW w g i j (f i) (f j)) S g c n (up (up f i (f j)) j (f i)) := ((h.set i hi (f j)).set j hj (f i)).drew 1
theorem Rb.swap_below (h : Rb w S g c n f) (i j : Nat) (x y : Bk) : Below S w (swW w g i j x y) := ((((Below.refl _ _).setCell (p := ⟨g, i * 2, none⟩) h.ge _).setCell (p := ⟨g, i * 2 + 1, none⟩) h.ge _).setCell (p := ⟨g, j * 2, none⟩) h.ge _).setCell (p := ⟨g, j * 2 + 1, none⟩) h.ge _ |>.drew
end

set_option maxHeartbeats 2000000 in
set_option maxRecDepth 100000 in
theorem swapRangeB_any (S g c n a b m : Nat) (f : Nat → Bk) (cv : Value) (w : World) (h : Rb w S g c n f) (hab : a + m ≤ b) (hb : b + m ≤ n) (hn : n ≤ 2305843009213693952) :
    Calls Try.prog 135 #[.slice (some ⟨g, 0, none⟩) n c, .int .i64 (a : Int), .int .i64 (b : Int), .int .i64 (m : Int), cv] w fun r w' => r = .returned (.tuple #[]) ∧ Rb w' S g c n (swb f a b m) ∧ Below S w w' := by
  have hsf := @run_store_float Try.prog
  have H0 : Hid (Rb w S g c n f) := h
  have HZ : Hid (∀ i, a + i < b → up (up (swb f a b i) (a + i) (swb f a b i (b + i))) (b + i) (swb f a b i (a + i)) = swb f a b (i + 1)) := fun i hi => swb_succ f a b i hi
  have H00 : Hid (swb f a b 0 = f) := swb_zero f a b
  generalize hF : swb f a b = F at *
  clear h hF
  go_enter Try.func135, Try.ntmps135
  go_wp2
  go_loopw [10] (fun iv w' => ∃ (i : Nat), iv = .int .i64 (i : Int) ∧ i ≤ m ∧ Hid (Rb w' S g c n (F i)) ∧ Below S w w') (fun iv _ => m - (RowKit.intOf iv).toNat)
  case atStart => exact ⟨0, rfl, by omega, by show Rb _ _ _ _ _ _; rw [H00.out]; exact H0, Below.refl _ _⟩
  case round =>
    obtain ⟨i, rfl, hi, o, hbel⟩ := hrel
    by_cases hlt : i < m
    · have hii : (i : Int) < m := by omega
      obtain ⟨p, hp⟩ : ∃ p : Nat, p = a + i := ⟨_, rfl⟩
      obtain ⟨q, hq⟩ : ∃ q : Nat, q = b + i := ⟨_, rfl⟩
      have hpi : (a : Int) + (i : Int) = (p : Int) := by omega
      have hqi : (b : Int) + (i : Int) = (q : Int) := by omega
      have c1 := o.out.cellU p (by omega)
      have d1 := o.out.cellC p (by omega)
      have c2 := o.out.cellU q (by omega)
      have d2 := o.out.cellC q (by omega)
      have f1 := o.out.froz (p * 2)
      have f2 := o.out.froz (p * 2 + 1)
      have f3 := o.out.froz (q * 2)
      have f4 := o.out.froz (q * 2 + 1)
      have o2 := o.out.swap p q (by omega) (by omega)
      have b2 := hbel.trans (o.out.swap_below p q (F i p) (F i q))
      have e := HZ.out i (by omega)
      rw [← hp, ← hq] at e
      rw [e] at o2
      unfold swW at o2 b2
      have O2 : Hid _ := o2
      have hpq : p < q ∧ q < n := by omega
      obtain ⟨hpq, hqn⟩ := hpq
      have HI : Hid (i + 1 ≤ m) := hlt
      clear o2 e hp hq
      generalize (F i p).1 = xu at *
      generalize (F i p).2 = xc at *
      generalize (F i q).1 = yu at *
      generalize (F i q).2 = yc at *
      go_wp2_with fail
      go_region
      go_wp2
      exact ⟨⟨i + 1, by go_num, HI, O2, b2⟩, by simp [RowKit.intOf]; omega⟩
    · have hii : ¬ (i : Int) < m := by omega
      have e : i = m := by omega
      have O2 : Hid (Rb wr S g c n (F m)) := by rw [← e]; exact o
      go_wp2
      go_end0
      exact ⟨rfl, O2.out, hbel⟩
end Go.Proofs.Ytfjfpplemgjcmab
