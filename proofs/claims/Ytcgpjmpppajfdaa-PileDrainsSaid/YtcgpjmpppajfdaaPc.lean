/- PileScripts: what the walk wants. -/
import Derived.Test.YtcgpjmpppajfdaaPb
namespace Go.Proofs.Ytcgpjmpppajfdaa
open Go.RowKit

theorem it_exact (a b : Int) (w : World) : Calls Try.prog 9 #[.int .i64 a, .int .i64 b] w fun r w' => r = .returned (.agg #[.int .i64 a, .int .i64 b]) ∧ w' = w.alloc (.cells #[.int .i64 a, .int .i64 b] 24) := by
  have HG : Hid ((w.alloc (.cells #[.int .i64 a, .int .i64 b] 24)).heap[w.heap.size]? = some (.cells #[.int .i64 a, .int .i64 b] 24)) := heap_alloc_new w _
  go_enter Try.func9, Try.ntmps9
  go_wp2
  refine bodyPost_ret (results_cell_row rfl _ _ w.heap.size 24 #[.int .i64 a, .int .i64 b] (0, 0) _ rfl HG.out Try.underlying24 rfl infIs) rfl ?_
  exact ⟨rfl, rfl⟩
/-- Steps that a slice shows. -/
abbrev Stp := Int × Int × Int
def Tml (w : World) (a : Option Addr) (s : Nat → Stp) (n : Nat) : Prop := n = 0 ∨ ∃ g o, a = some ⟨g, o, none⟩ ∧ g < w.heap.size ∧ ∀ j, j < n → w.cell? ⟨g, o + j * 3, none⟩ = some (.int .i64 (s j).1) ∧ w.cell? ⟨g, o + j * 3 + 1, none⟩ = some (.int .i64 (s j).2.1) ∧ w.cell? ⟨g, o + j * 3 + 2, none⟩ = some (.int .i64 (s j).2.2)
def TW (s : Nat → Stp) (n : Nat) : Prop := ∀ j, j < n → -9223372036854775808 ≤ (s j).2.1 ∧ (s j).2.1 ≤ 9223372036854775807
theorem infB : (Try.prog.info? 22).map (fun i => (i.zero, i.size, i.bytes)) = some (some (.slice none 0 0), 1, 24) := by kernel_rfl
/-- A script's state. -/
def LI (q G Pb Bb : Nat) (w : World) (i : Nat) (W : World) : Prop := ∃ col bb xx v vb n m f B C, PS q G Pb Bb w col W bb xx v vb n m f B C ∧ ∀ k, k < q → C k = (B k).map (·.1) ∧ n k ≤ i ∧ m k ≤ i
theorem LI.start {q G Pb : Nat} {w W : World} {col : Nat → Nat} {bb xx : Nat → Nat} {cs : List Value} (h : PI q q G Pb w col W bb xx cs) (hq : q ≤ 5) (h0 : 0 < q) :
    ∃ w', (Instr.makeSlice 53 (.int .i64 (q : Int)) (.int .i64 (q : Int))).run Try.prog W = .ok (.slice (some ⟨W.heap.size, 0, none⟩) q q) w' ∧ LI q G Pb W.heap.size w 0 w' := by
  obtain ⟨i0, hi, hz0, hz1, hz2⟩ := info_parts infB
  obtain ⟨w1, r, o, g⟩ := run_make_full (P := Try.prog) W 0 53 22 i0 (.slice none 0 0) 1 Try.underlying53 hi hz0 hz1 .i64 .i64 q (by rw [hz2]; omega) (by unfold maxLen; omega) (Nat.zero_le _)
  have b1 : Below W.heap.size W w1 := (Below.refl _ W).grown g (Nat.le_refl _) (fun k hk => by cases hk)
  have k1 : Kp (fun _ => False) W w1 := Kp.of b1
  have e : (madeCells (Value.slice none 0 0).cells (q * 1)).toList = List.replicate q (.slice none 0 0) := by
    rw [show (Value.slice none 0 0).cells = #[.slice none 0 0] from rfl, toList_madeCells_one]
    simp
  rw [e] at o
  have hlt : Pb < W.heap.size := (World.ownsRow.lt h.row Pb rfl).2
  refine ⟨w1, r, fun j => if j < W.heap.size then col j else 9, bb, xx, fun _ => .slice none 0 0, fun _ => .slice none 0 0, fun _ => 0, fun _ => 0, fun _ => f00, fun _ => [], fun _ => [], ⟨fun k hk => (h.pl k hk).below b1, fun k hk => Bk.nil _ _, fun k hk => World.ownsRow_nil _ _ _ _, fun k hk => ?_, (fun k hk g e => by cases e), fun k hk => ?_, fun k hk => ?_, by rw [if_pos hlt]; exact h.cP, by rw [if_neg (by omega)], fun j hj => by have := h.gw; rw [if_pos (by omega)]; exact h.old j hj, h.below.trans (b1.mono h.gw), Nat.le_trans h.gw b1.size, hq⟩, fun k hk => ⟨rfl, Nat.le_refl _, Nat.le_refl _⟩⟩
  · have h1 : bb k < W.heap.size := World.block_lt_of_cell? W _ (h.pl k hk).cm
    have h2 : xx k < W.heap.size := World.block_lt_of_cell? W _ (h.pl k hk).hp.bxc
    rw [if_pos h1, if_pos h2]
    exact ⟨(h.c1 k hk).1, (h.c1 k hk).2, fun g e => by cases e⟩
  · refine k1.cell ?_ id
    rw [World.ownsRow.cellAt h.row k (by omega)]
    exact h.cs k hk
  · refine ⟨?_, World.ownsRow.frozenAt o k⟩
    rw [World.ownsRow.cellAt o k (by omega)]
    simp [hk]
/-- The place of the first of a book. -/
theorem fst_of (flat : Bool) (l : List It) (b : Nat) (hb : b < l.length) (h1 : ∀ j, j < l.length → ¬ Kf flat (lk l j) < Kf flat (lk l b)) (h2 : ∀ j, j < b → Kf flat (lk l b) < Kf flat (lk l j)) : Fst (Kf flat) l b := by
  refine ⟨hb, fun j x hx => ?_, h2⟩
  have hj := (List.getElem?_eq_some_iff.1 hx).1
  have := h1 j hj
  have e : lk l j = x := by simp [lk, List.getD, hx]
  rw [e] at this
  exact this
theorem wo_erase (l : List It) (b j : Nat) : wo (lk l) b j = lk (l.eraseIdx b) j := by
  unfold wo lk
  simp only [List.getD, List.getElem?_eraseIdx]
  split <;> rfl
theorem map_erase (B : List Rk) (b : Nat) : (B.eraseIdx b).map (·.1) = (B.map (·.1)).eraseIdx b := by
  induction B generalizing b with
  | nil => rfl
  | cons x B ih =>
    cases b with
    | zero => rfl
    | succ b => simp [List.eraseIdx, ih]
end Go.Proofs.Ytcgpjmpppajfdaa
