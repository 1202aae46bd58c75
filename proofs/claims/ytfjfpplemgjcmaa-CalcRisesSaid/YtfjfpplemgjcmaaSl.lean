/- CalcSmooths: the law's walk. -/
import Derived.Test.YtfjfpplemgjcmaaSr
namespace Go.Proofs.Ytfjfpplemgjcmaa
open Go.RowKit

theorem smo12 : smoF (cl 4602678819172646912) (cl 4602678819172646912) [4607182418800017408, 4611686018427387904] = some 4611686018427387904 := by decide +kernel

/-- A list of two floats, just laid. -/
theorem Fm.two (w : World) (t x y : Nat) : Fm (w.alloc (.cells #[.float .f64 x, .float .f64 y] t)) (some ⟨w.heap.size, 0, none⟩) [x, y] := by
  refine .inr ⟨w.heap.size, 0, rfl, by simp, fun j hj => ?_⟩
  unfold World.cell?
  rw [show (w.alloc (.cells #[.float .f64 x, .float .f64 y] t)).heap[w.heap.size]? = some (.cells #[.float .f64 x, .float .f64 y] t) from heap_alloc_new w _]
  have : j < 2 := hj
  rcases (show j = 0 ∨ j = 1 by omega) with rfl | rfl <;> simp

set_option maxHeartbeats 4000000 in
set_option maxRecDepth 100000 in
theorem smooths_walk (a : Option Addr) (c : Nat) (xs : List Nat) (sf tf : Nat) (w : World) (hf : Fm w a xs) (hw : Wd xs) (hl : xs.length ≤ 9223372036854775807) :
    Calls Try.prog 3 #[.slice a xs.length c, .float .f64 sf, .float .f64 tf] w fun r w' => r = .returned (.bool true) ∧ Below w.heap.size w w' := by
  have k1 := smooth_any (some ⟨w.heap.size, 0, none⟩) 2 [4607182418800017408, 4611686018427387904] 4602678819172646912 4602678819172646912 (w.alloc (.cells #[.float .f64 4607182418800017408, .float .f64 4611686018427387904] 23)) (Fm.two w 23 _ _) (fun j hj => by
    have : j < 2 := hj
    rcases (show j = 0 ∨ j = 1 by omega) with rfl | rfl <;> decide) (by decide)
  rw [smo12] at k1
  have hb1 : Below w.heap.size w (w.alloc (.cells #[.float .f64 4607182418800017408, .float .f64 4611686018427387904] 23)) := (Below.refl _ _).alloc (Nat.le_refl _) _
  have k2 := fun w' hf' => rsmooth_any a c xs sf tf w' hf' hw hl
  have k3 := fun w' hf' => smooth_any a c xs sf tf w' hf' hw hl
  have HF : Hid (Fm w a xs) := hf
  have HK2 : Hid _ := k2
  have HK3 : Hid _ := k3
  clear hf k2 k3
  go_enter Try.func3, Try.ntmps3
  go_wp2_with fail
  go_fit k1
  rintro r w1 ⟨z, k, rfl, rfl, _, hz⟩
  obtain ⟨rfl, _⟩ := cl_some hz
  have hb2 := below_drewN hb1 k
  have hf1 := HF.out.below hb2
  go_wp2_with fail
  go_fit (HK2.out _ hf1)
  rintro r w2 ⟨z2, k2, rfl, rfl, _, hz2⟩
  have hb3 := below_drewN hb2 k2
  rw [World.drewN_drewN] at hb3
  have hf2 := HF.out.below hb3
  go_wp2_with fail
  go_fit (HK3.out _ hf2)
  rintro r w3 ⟨z3, k3, rfl, rfl, _, hz3⟩
  have hb4 := below_drewN hb3 k3
  rw [World.drewN_drewN] at hb4
  have k4 := fun w' => alike_any z3 z2 (hz3.trans hz2.symm) w'
  clear hz3 hz2
  go_wp2_with fail
  go_fit (k4 _)
  rintro r w4 ⟨rfl, rfl⟩
  go_wp2
  go_ret
  exact ⟨rfl, hb4⟩
end Go.Proofs.Ytfjfpplemgjcmaa
