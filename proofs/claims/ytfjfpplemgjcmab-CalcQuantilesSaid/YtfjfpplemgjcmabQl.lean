/- CalcQuantiles: the law's walk. -/
import Derived.Test.YtfjfpplemgjcmabQh
namespace Go.Proofs.Ytfjfpplemgjcmab
open Go.RowKit

abbrev l312 : List Nat := [4613937818241073152, 4607182418800017408, 4611686018427387904]
theorem qp312 : Qp 4602678819172646912 2 4607182418800017408 0 1 2 := ⟨by decide +kernel, by decide, by decide +kernel, by decide, by decide +kernel, by decide⟩
theorem q312 : quV (isrt l312) 1 2 0 = some 4611686018427387904 := by decide +kernel
theorem pt312 : Pt 4602678819172646912 := ⟨by decide, by decide, by decide⟩
theorem fat312 (w : World) : FAt (w.alloc (.cells #[.float .f64 4613937818241073152, .float .f64 4607182418800017408, .float .f64 4611686018427387904] 23)) w.heap.size 0 l312 := fun j hj => by
  unfold World.cell?
  rw [show (w.alloc (.cells #[.float .f64 4613937818241073152, .float .f64 4607182418800017408, .float .f64 4611686018427387904] 23)).heap[w.heap.size]? = some (.cells #[.float .f64 4613937818241073152, .float .f64 4607182418800017408, .float .f64 4611686018427387904] 23) from heap_alloc_new w _]
  have : j < 3 := hj
  rcases (show j = 0 ∨ j = 1 ∨ j = 2 by omega) with rfl | rfl | rfl <;> rfl
theorem wd312 : Wd l312 := fun j hj => by
  have : j < 3 := hj
  rcases (show j = 0 ∨ j = 1 ∨ j = 2 by omega) with rfl | rfl | rfl <;> decide

set_option maxHeartbeats 2000000 in
set_option maxRecDepth 100000 in
theorem quantiles_walk (q : Nat) (a : Option Addr) (c : Nat) (xs : List Nat) (w : World) (hf : Fm w a xs) (hw : Wd xs) (hl : xs.length * 8 ≤ 140737488355328) (hc : xs.length ≤ c) (hc2 : c ≤ 9223372036854775807) :
    Calls Try.prog 5 #[.float .f64 q, .slice a xs.length c] w fun r w' => r = .returned (.bool true) ∧ Below w.heap.size w w' := by
  have k0 := quantile_part 4602678819172646912 w.heap.size 0 3 l312 (w.alloc (.cells #[.float .f64 4613937818241073152, .float .f64 4607182418800017408, .float .f64 4611686018427387904] 23)) 2 _ _ _ _ pt312 (by simp) (fat312 w) wd312 (by decide) (by decide) qp312
  rw [q312, show l312.length = 3 from rfl] at k0
  have hb1 : Below w.heap.size w (w.alloc (.cells #[.float .f64 4613937818241073152, .float .f64 4607182418800017408, .float .f64 4611686018427387904] 23)) := (Below.refl _ _).alloc (Nat.le_refl _) _
  obtain ⟨C, k1, k2⟩ := quantile_both q a c xs w hf hw hl hc hc2
  have K1 : Hid (∀ w1, Below w.heap.size w w1 → Calls Try.prog 19 #[.float .f64 q, .slice a xs.length c] w1 (RB w1 C)) := k1
  have K2 : Hid (∀ w1, Below w.heap.size w w1 → Calls Try.prog 20 #[.float .f64 q, .slice a xs.length c] w1 (RB w1 C)) := k2
  have step : Hid (∀ w1 w2, Below w.heap.size w w1 → Below w1.heap.size w1 w2 → Below w.heap.size w w2) := fun w1 w2 h1 h2 => h1.trans (h2.mono h1.size)
  clear hf hw k1 k2
  go_enter Try.func5, Try.ntmps5
  go_wp2_with fail
  go_fit k0
  rintro r w1 ⟨z, rfl, hb, _, hz⟩
  obtain ⟨rfl, _⟩ := cl_some hz
  have b1 : Hid (Below w.heap.size w w1) := step.out _ _ hb1 hb
  clear hb hb1 hz k0
  go_wp2_with fail
  go_fit (K2.out _ b1.out)
  rintro r w2 ⟨z1, rfl, hb, _, c1⟩
  have b2 : Hid (Below w.heap.size w w2) := step.out _ _ b1.out hb
  have C1 : Hid _ := c1
  clear hb c1
  go_wp2_with fail
  go_fit (K1.out _ b2.out)
  rintro r w3 ⟨y1, rfl, hb, _, d1⟩
  have b3 : Hid (Below w.heap.size w w3) := step.out _ _ b2.out hb
  have k1 := fun w' => alike_any y1 z1 (d1.trans C1.out.symm) w'
  clear hb d1
  go_wp2_with fail
  go_fit (k1 _)
  rintro r _ ⟨rfl, rfl⟩
  go_wp2
  go_ret
  exact ⟨rfl, b3.out⟩
end Go.Proofs.Ytfjfpplemgjcmab
