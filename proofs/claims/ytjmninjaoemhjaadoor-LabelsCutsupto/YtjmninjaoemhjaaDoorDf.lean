/- LabelsOrder: awake; same; the walk. -/
import Derived.Test.YtjmninjaoemhjaaDoorDe
import Derived.Test.YtjmninjaoemhjaaDoorDa
import Derived.Test.YtjmninjaoemhjaaDoorCd
import Derived.Test.YtjmninjaoemhjaaDoorCe
namespace Go.Proofs.YtjmninjaoemhjaaDoor
open Go.RowKit Go.Lib

set_option maxHeartbeats 2000000 in
set_option maxRecDepth 100000 in
theorem awake_any (w : World) : Calls Tryd.prog 7 #[] w fun e w' => e = .returned (.bool true) ∧ Below w.heap.size w w' := by
  have e1 : (w.alloc (.cells #[.string ⟨#[98]⟩, .string ⟨#[50]⟩, .string ⟨#[97]⟩, .string ⟨#[49]⟩] 26)).heap[w.heap.size]? = some (.cells #[.string ⟨#[98]⟩, .string ⟨#[50]⟩, .string ⟨#[97]⟩, .string ⟨#[49]⟩] 26) := heap_alloc_new w _
  have hc : C4 (w.alloc (.cells #[.string ⟨#[98]⟩, .string ⟨#[50]⟩, .string ⟨#[97]⟩, .string ⟨#[49]⟩] 26)) w.heap.size lB lA :=
    ⟨by unfold World.cell?; rw [e1]; rfl, by unfold World.cell?; rw [e1]; rfl, by unfold World.cell?; rw [e1]; rfl, by unfold World.cell?; rw [e1]; rfl, fun o => by unfold World.frozen?; rw [e1]; simp⟩
  have k1 := make2 w.heap.size 2 _ hc
  have HB : Hid (Below w.heap.size w (w.alloc (.cells #[.string ⟨#[98]⟩, .string ⟨#[50]⟩, .string ⟨#[97]⟩, .string ⟨#[49]⟩] 26))) := (Below.refl _ w).alloc (Nat.le_refl _) _
  clear e1 hc
  go_enter Tryd.func7, Tryd.ntmps7
  go_wp2_with fail
  go_fit k1
  rintro e w1 ⟨G, d, rfl, h1, b1⟩
  have k2 := get2 G d lA lB ⟨#[98]⟩ w1 h1 (by rw [Lib.toList_data, Lib.toList_data]; rfl) (by rw [Lib.toList_data]; exact beq_self_eq_true _) (by show 1 ≤ _; omega)
  have c0 : w1.cell? ⟨G, 0, none⟩ = some (.string ⟨#[97]⟩) := h1.1
  have HB1 : Hid (Below w.heap.size w w1) := HB.out.trans (b1.mono HB.out.size)
  clear k1 h1 b1 HB
  go_wp2_with fail
  go_fit k2
  rintro e w2 ⟨rfl, b2⟩
  have HB2 : Hid (Below w.heap.size w w2) := HB1.out.trans (b2.mono HB1.out.size)
  clear k2 b2 c0
  go_wp2
  go_ret
  exact ⟨rfl, HB2.out⟩
end Go.Proofs.YtjmninjaoemhjaaDoor
