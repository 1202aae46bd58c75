/- Buckets in memory; rows that a call makes of them; the sort of an empty row. -/
import Derived.Test.YtfjfpplemgjcmaaCd
import Derived.Test.YtfjfpplemgjcmaaBa
import Derived.Test.YtfjfpplemgjcmaaSa
namespace Go.Proofs.Ytfjfpplemgjcmaa
open Go.RowKit

/-- Buckets in memory. -/
def BAt (w : World) (g o : Nat) (bs : Nat → Bk) (n : Nat) : Prop := ∀ j, j < n → w.cell? ⟨g, o + j * 2, none⟩ = some (.float .f64 (bs j).1) ∧ w.cell? ⟨g, o + j * 2 + 1, none⟩ = some (.float .f64 (bs j).2)
def Bml (w : World) (a : Option Addr) (bs : Nat → Bk) (n : Nat) : Prop := n = 0 ∨ ∃ g o, a = some ⟨g, o, none⟩ ∧ g < w.heap.size ∧ BAt w g o bs n
def BW (bs : Nat → Bk) (n : Nat) : Prop := ∀ j, j < n → (bs j).1 < 18446744073709551616 ∧ (bs j).2 < 18446744073709551616
theorem Bml.below {w w' : World} {a : Option Addr} {bs : Nat → Bk} {n : Nat} (h : Bml w a bs n) (hb : Below w.heap.size w w') : Bml w' a bs n := by
  rcases h with h | ⟨g, o, rfl, hg, h⟩
  · exact .inl h
  · refine .inr ⟨g, o, rfl, Nat.lt_of_lt_of_le hg hb.size, fun j hj => ?_⟩
    obtain ⟨h1, h2⟩ := h j hj
    exact ⟨(hb.cell (p := ⟨g, o + j * 2, none⟩) hg).trans h1, (hb.cell (p := ⟨g, o + j * 2 + 1, none⟩) hg).trans h2⟩
/-- A row of buckets that a call made, the empty one too. -/
def Br (w : World) (S : Nat) (v : Value) (n : Nat) (f : Nat → Bk) : Prop := w.ownsRow S 34 2 v n (bc f n)
theorem Br.nil (w : World) (S : Nat) (f : Nat → Bk) : Br w S (.slice none 0 0) 0 f := World.ownsRow_nil w S 34 2
theorem Br.below {w w' : World} {S n : Nat} {v : Value} {f : Nat → Bk} (h : Br w S v n f) (hb : Below w.heap.size w w') : Br w' S v n f := by
  refine ⟨h.1, ?_⟩
  rcases h.2 with h0 | ⟨g, cap, cur, hv, hB, hg, r⟩
  · exact .inl h0
  · exact .inr ⟨g, cap, cur, hv, hB, (hb.block g (Array.getElem?_eq_some_iff.1 hg).1).trans hg, r⟩
theorem Br.drew {w : World} {S n : Nat} {v : Value} {f : Nat → Bk} (h : Br w S v n f) (k : Nat) : Br (w.drewN k) S v n f := h
theorem Br.parts {w : World} {S n : Nat} {v : Value} {f : Nat → Bk} (h : Br w S v n f) : (v = .slice none 0 0 ∧ n = 0) ∨ ∃ g c, v = .slice (some ⟨g, 0, none⟩) n c ∧ Rb w S g c n f ∧ n ≤ c := by
  rcases h.2 with ⟨rfl, h0⟩ | ⟨g, c, cur, rfl, h1, h2, h3, h4⟩
  · exact .inl ⟨rfl, h0⟩
  · exact .inr ⟨g, c, rfl, h, h3⟩
theorem Br.bml {w : World} {S n : Nat} {v : Value} {f : Nat → Bk} (h : Br w S v n f) : ∃ a c, v = .slice a n c ∧ Bml w a f n ∧ n ≤ c := by
  rcases h.parts with ⟨rfl, rfl⟩ | ⟨g, c, rfl, hr, hc⟩
  · exact ⟨none, 0, rfl, .inl rfl, Nat.le_refl _⟩
  · refine ⟨_, c, rfl, .inr ⟨g, 0, rfl, hr.lt, fun j hj => ?_⟩, hc⟩
    rw [Nat.zero_add]
    exact ⟨hr.cellU j hj, hr.cellC j hj⟩
theorem Br.congr {w : World} {S n : Nat} {v : Value} {f f' : Nat → Bk} (h : Br w S v n f) (e : ∀ j, j < n → f j = f' j) : Br w S v n f' := by
  unfold Br
  rw [← bc_congr f f' n e]
  exact h
theorem up_bc (f : Nat → Bk) (n : Nat) (u : Bk) : bc (up f n u) (n + 1) = bc f n ++ b2 u := by
  rw [bc_succ, bc_congr (up f n u) f n fun j hj => if_neg (by omega)]
  congr 2
  exact if_pos rfl
theorem seg_up {E : Type} (f : Nat → E) (n : Nat) (u : E) : seg (up f n u) 0 (n + 1) = seg f 0 n ++ [u] := by
  rw [seg_add, seg_congr (up f n u) f 0 0 n fun j hj => if_neg (by omega)]
  congr 1
  rw [seg, seg]
  congr 1
  exact if_pos (by omega)
theorem bk_cell (w : World) (u : Bk) (j : Nat) (v : Value) (h : (b2 u)[j]? = some v) : (w.alloc (.cells #[.float .f64 u.1, .float .f64 u.2] 34)).cell? ⟨w.heap.size, j, none⟩ = some v := by
  unfold World.cell?
  rw [show (w.alloc (.cells #[.float .f64 u.1, .float .f64 u.2] 34)).heap[w.heap.size]? = some (.cells #[.float .f64 u.1, .float .f64 u.2] 34) from heap_alloc_new w _]
  simpa [b2] using h
theorem append_b (w : World) (S : Nat) (v : Value) (n : Nat) (f : Nat → Bk) (u : Bk) (hS : S ≤ w.heap.size) (hn : (n + 1) * 16 ≤ 140737488355328) (o : Br w S v n f) :
    ∃ v' w', (Builtin.append_ #[36, 36] 36 #[v, .slice (some ⟨w.heap.size, 0, none⟩) 1 1]).run Try.prog (w.alloc (.cells #[.float .f64 u.1, .float .f64 u.2] 34)) = .ok v' w' ∧ Br w' S v' (n + 1) (up f n u) ∧ Below S w w' := by
  obtain ⟨i0, hi, hz0, hz1, hz2⟩ := info_parts info34
  have o0 := World.ownsRow.alloc o (.cells #[.float .f64 u.1, .float .f64 u.2] 34)
  obtain ⟨v', w', r, o', g, _⟩ := run_append_own (P := Try.prog) (w.alloc (.cells #[.float .f64 u.1, .float .f64 u.2] 34)) S 36 36 34 i0 (.agg #[.float .f64 0, .float .f64 0]) 2 16 Try.underlying36 hi hz0 hz1 hz2 rfl (by decide) _ n (bc f n) o0 ⟨w.heap.size, 0, none⟩ 1 1 (b2 u) (by rfl)
    (fun j x hj => by
      rw [Go.WideShapes.add_plain, Nat.zero_add]
      exact bk_cell w u j x hj) (by intro x hx; simp [b2] at hx; rcases hx with rfl | rfl <;> rfl) (by unfold maxLen; omega) hn (by simp; omega)
  refine ⟨v', w', r, ?_, ?_⟩
  · unfold Br
    rw [up_bc]; exact o'
  · exact ((Below.refl S w).alloc hS _).grown g (by simp; omega) (fun k hk => (World.ownsRow.lt o k hk).1)
set_option maxHeartbeats 1000000 in
set_option maxRecDepth 100000 in
theorem insNil_any (w : World) : Calls Try.prog 63 #[.slice none 0 0, .int .i64 0, .int .i64 0, cvB] w fun r w' => r = .returned (.tuple #[]) ∧ w' = w := by
  go_enter Try.func63, Try.ntmps63
  go_wp2
  go_loopw [8, 9] (fun iv _ w' => iv = .int .i64 1 ∧ w' = w) (fun _ _ _ => 0)
  case atStart => exact ⟨rfl, rfl⟩
  case round =>
    obtain ⟨rfl, rfl⟩ := hrel
    go_wp2
    go_end0
    exact ⟨rfl, rfl⟩
set_option maxHeartbeats 1000000 in
set_option maxRecDepth 100000 in
theorem stableNil_any (w : World) : Calls Try.prog 62 #[.slice none 0 0, .int .i64 0, cvB] w fun r w' => r = .returned (.tuple #[]) ∧ w' = w := by
  have k := insNil_any
  go_enter Try.func62, Try.ntmps62
  go_wp2
  go_loopw [7, 8] (fun av bv w' => av = .int .i64 0 ∧ bv = .int .i64 20 ∧ w' = w) (fun _ _ _ => 0)
  case atStart => exact ⟨rfl, rfl, rfl⟩
  case round =>
    obtain ⟨rfl, rfl, rfl⟩ := hrel
    go_wp2_with fail
    go_fit (k _)
    rintro r w ⟨rfl, rfl⟩
    go_wp2
    go_loopw [6] (fun sv w' => sv = .int .i64 20 ∧ w' = w) (fun _ _ => 0)
    case atStart => exact ⟨rfl, rfl⟩
    case round =>
      obtain ⟨rfl, rfl⟩ := hrel
      go_wp2
      go_end0
      exact ⟨rfl, rfl⟩
set_option maxHeartbeats 400000 in
theorem sortNil_any (w : World) : Calls Try.prog 54 #[.slice none 0 0, cvB] w fun r w' => r = .returned (.tuple #[]) ∧ w' = w := by
  have k1 := stableNil_any
  go_enter Try.func54, Try.ntmps54
  go_wp2_with fail
  go_fit (k1 _)
  rintro r w ⟨rfl, rfl⟩
  go_wp2
  go_end0
  exact ⟨rfl, rfl⟩
end Go.Proofs.Ytfjfpplemgjcmaa
