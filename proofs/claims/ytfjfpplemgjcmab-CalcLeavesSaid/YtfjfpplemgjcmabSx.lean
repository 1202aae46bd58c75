/- A row of floats sorted in place: the exchange of two blocks, the turning of two. -/
import Derived.Test.YtfjfpplemgjcmabSv
import Derived.Test.YtfjfpplemgjcmabOw
import Derived.BigRegion
namespace Go.Proofs.Ytfjfpplemgjcmab
open Go.RowKit

theorem seg_set {E : Type} (f : Nat → E) (j : Nat) (x : E) (n : Nat) : ∀ a, a ≤ j → seg (up f j x) a n = (seg f a n).set (j - a) x := by
  induction n with
  | zero => intro a h; rfl
  | succ n ih =>
    intro a h
    by_cases e : j = a
    · subst e
      rw [seg, seg, Nat.sub_self, List.set_cons_zero]
      congr 1
      · exact if_pos rfl
      · exact seg_congr _ _ _ _ _ fun i hi => if_neg (by omega)
    · obtain ⟨d, hd⟩ : ∃ d, j - a = d + 1 := ⟨j - a - 1, by omega⟩
      rw [seg, seg, ih (a + 1) (by omega), hd, List.set_cons_succ, show j - (a + 1) = d by omega]
      congr 1
      exact if_neg (by omega)
theorem seg_getD (f : Nat → Nat) (j : Nat) (n : Nat) : ∀ a, j < n → (seg f a n).getD j 0 = f (a + j) := by
  induction n generalizing j with
  | zero => intro a h; omega
  | succ n ih =>
    intro a h
    cases j with
    | zero => rfl
    | succ j =>
      have := ih j (a + 1) (by omega)
      rw [show a + 1 + j = a + (j + 1) by omega] at this
      exact this

/-- A row of floats of one's own. -/
def Rf (w : World) (S g c n : Nat) (f : Nat → Nat) : Prop := Fr w S (.slice (some ⟨g, 0, none⟩) n c) (seg f 0 n)
section
variable {w : World} {S g c n : Nat} {f : Nat → Nat}
theorem Rf.fr (h : Rf w S g c n f) : Fr w S (.slice (some ⟨g, 0, none⟩) (seg f 0 n).length c) (seg f 0 n) := by rw [seg_length]; exact h
theorem Rf.cell (h : Rf w S g c n f) (j : Nat) (hj : j < n) : w.cell? ⟨g, j, none⟩ = some (.float .f64 (f j)) := by
  rw [h.fr.cell j (by rw [seg_length]; exact hj), seg_getD f j n 0 hj, Nat.zero_add]
theorem Rf.froz (h : Rf w S g c n f) (j : Nat) : w.frozen? ⟨g, j, none⟩ = false := h.fr.froz j
theorem Rf.ge (h : Rf w S g c n f) : S ≤ g := h.fr.ge
theorem Rf.drew (h : Rf w S g c n f) (k : Nat) : Rf (w.drewN k) S g c n f := h
theorem Rf.set (h : Rf w S g c n f) (j x : Nat) : Rf (w.setCell ⟨g, j, none⟩ (.float .f64 x)) S g c n (up f j x) := by
  have := h.fr.set j x
  rw [seg_length] at this
  unfold Rf
  rw [seg_set f j x n 0 (Nat.zero_le _), Nat.sub_zero]
  exact this
/-- Two exchanged. -/
theorem Rf.swap (h : Rf w S g c n f) (i j : Nat) : Rf (((w.drewN 1).setCell ⟨g, i, none⟩ (.float .f64 (f j))).setCell ⟨g, j, none⟩ (.float .f64 (f i))) S g c n (up (up f i (f j)) j (f i)) := ((h.drew 1).set i (f j)).set j (f i)
theorem Rf.swap_below (h : Rf w S g c n f) (i j x y : Nat) : Below S w (((w.drewN 1).setCell ⟨g, i, none⟩ (.float .f64 x)).setCell ⟨g, j, none⟩ (.float .f64 y)) := ((below_drewN (Below.refl _ _) 1).setCell (p := ⟨g, i, none⟩) h.ge _).setCell (p := ⟨g, j, none⟩) h.ge _
end

set_option maxHeartbeats 2000000 in
set_option maxRecDepth 100000 in
theorem swapRange_any (S g c n a b m : Nat) (f : Nat → Nat) (cv : Value) (w : World) (h : Rf w S g c n f) (hab : a + m ≤ b) (hb : b + m ≤ n) (hn : n ≤ 4611686018427387904) :
    Calls Try.prog 132 #[.slice (some ⟨g, 0, none⟩) n c, .int .i64 (a : Int), .int .i64 (b : Int), .int .i64 (m : Int), cv] w fun r w' => r = .returned (.tuple #[]) ∧ Rf w' S g c n (swb f a b m) ∧ Below S w w' := by
  have hsf := @run_store_float Try.prog
  have H0 : Hid (Rf w S g c n f) := h
  have HZ : Hid (∀ i, a + i < b → up (up (swb f a b i) (a + i) (swb f a b i (b + i))) (b + i) (swb f a b i (a + i)) = swb f a b (i + 1)) := fun i hi => swb_succ f a b i hi
  have H00 : Hid (swb f a b 0 = f) := swb_zero f a b
  generalize hF : swb f a b = F at *
  clear h hF
  go_enter Try.func132, Try.ntmps132
  go_wp2
  go_loopw [10] (fun iv w' => ∃ (i : Nat), iv = .int .i64 (i : Int) ∧ i ≤ m ∧ Hid (Rf w' S g c n (F i)) ∧ Below S w w') (fun iv _ => m - (RowKit.intOf iv).toNat)
  case atStart => exact ⟨0, rfl, by omega, by show Rf _ _ _ _ _ _; rw [H00.out]; exact H0, Below.refl _ _⟩
  case round =>
    obtain ⟨i, rfl, hi, o, hbel⟩ := hrel
    by_cases hlt : i < m
    · have hii : (i : Int) < m := by omega
      obtain ⟨p, hp⟩ : ∃ p : Nat, p = a + i := ⟨_, rfl⟩
      obtain ⟨q, hq⟩ : ∃ q : Nat, q = b + i := ⟨_, rfl⟩
      have hpi : (a : Int) + (i : Int) = (p : Int) := by omega
      have hqi : (b : Int) + (i : Int) = (q : Int) := by omega
      have c1 := o.out.cell p (by omega)
      have c2 := o.out.cell q (by omega)
      have f1 := o.out.froz p
      have f2 := o.out.froz q
      have o2 := o.out.swap p q
      have b2 := hbel.trans (o.out.swap_below p q (F i q) (F i p))
      have e := HZ.out i (by omega)
      rw [← hp, ← hq] at e
      rw [e] at o2
      have O2 : Hid _ := o2
      have hpq : p < q ∧ q < n := by omega
      obtain ⟨hpq, hqn⟩ := hpq
      have HI : Hid (i + 1 ≤ m) := hlt
      clear o2 e hp hq
      generalize F i p = x at *
      generalize F i q = y at *
      go_wp2_with fail
      go_region
      go_wp2
      exact ⟨⟨i + 1, by go_num, HI, O2, b2⟩, by simp [RowKit.intOf]; omega⟩
    · have hii : ¬ (i : Int) < m := by omega
      have e : i = m := by omega
      have O2 : Hid (Rf wr S g c n (F m)) := by rw [← e]; exact o
      go_wp2
      go_end0
      exact ⟨rfl, O2.out, hbel⟩
end Go.Proofs.Ytfjfpplemgjcmab
