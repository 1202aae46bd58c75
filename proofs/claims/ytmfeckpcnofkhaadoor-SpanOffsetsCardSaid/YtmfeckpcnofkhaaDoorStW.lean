/- The walk of the law SpanStamps, over what Stamp answers on both sides. -/
import Derived.Test.YtmfeckpcnofkhaaDoorStL
namespace Go.Proofs.YtmfeckpcnofkhaaDoor
open Go.RowKit

theorem ok1 : okS ⟨#[49, 46, 48, 48, 48, 53]⟩ := by decide +kernel
theorem v1 : tmR (secV (mn ⟨#[49, 46, 48, 48, 48, 53]⟩) (min (nmS ⟨#[49, 46, 48, 48, 48, 53]⟩) 315360000001 * 1000) (frS ⟨#[49, 46, 48, 48, 48, 53]⟩)) = (1001, 0) := by decide +kernel
theorem ok2 : okS ⟨#[49, 53]⟩ := by decide +kernel
theorem v2 : stR (secV (mn ⟨#[49, 53]⟩) (min (nmS ⟨#[49, 53]⟩) 315360000001 * 1000) (frS ⟨#[49, 53]⟩)) = (15000, 0) := by decide +kernel
theorem d2n : decide (0 < (hdG (V1 ⟨#[49, 53]⟩) ⟨#[49, 53]⟩ 7 0 0 0).1 ∧ (hdG (V1 ⟨#[49, 53]⟩) ⟨#[49, 53]⟩ 7 0 0 0).1 = (⟨#[49, 53]⟩ : ByteArray).size) = false := by decide +kernel
theorem first_stamp (w : World) (hU : Units w) : Calls Tryd.prog 15 #[.string ⟨#[49, 46, 48, 48, 48, 53]⟩] w fun e w' => e = .returned (.tuple #[.int .i64 1001, .int .i64 0]) ∧ Below w.heap.size w w' := by
  have k := stamp_sec ⟨#[49, 46, 48, 48, 48, 53]⟩ _ w (by decide) (fun w hU => seconds_ok _ w hU (by decide) ok1) hU
  rwa [v1] at k
theorem first_step (w : World) (hU : Units w) : Calls Tryd.prog 18 #[.string ⟨#[49, 53]⟩] w fun e w' => e = .returned (.tuple #[.int .i64 15000, .int .i64 0]) ∧ Below w.heap.size w w' := by
  have k1 := fun w hU => duration_any ⟨#[49, 53]⟩ w hU (by decide)
  rw [d2n] at k1
  have k := step_sec ⟨#[49, 53]⟩ _ _ w (by decide) k1 (fun w hU => seconds_ok _ w hU (by decide) ok2) hU
  rwa [v2] at k
set_option maxHeartbeats 2000000 in
set_option maxRecDepth 100000 in
theorem stamps_walk (s : ByteArray) (n1 e1 n2 e2 : Int) (w : World) (hU : Units w)
    (k3 : ∀ w, Units w → Calls Tryd.prog 15 #[.string s] w fun r w' => r = .returned (.tuple #[.int .i64 n1, .int .i64 e1]) ∧ Below w.heap.size w w')
    (k4 : ∀ w, Calls Tryd.prog 19 #[.string s] w fun r w' => r = .returned (.tuple #[.int .i64 n1, .int .i64 e1]) ∧ Below w.heap.size w w')
    (k5 : ∀ w, Units w → Calls Tryd.prog 18 #[.string s] w fun r w' => r = .returned (.tuple #[.int .i64 n2, .int .i64 e2]) ∧ Below w.heap.size w w')
    (k6 : ∀ w, Calls Tryd.prog 20 #[.string s] w fun r w' => r = .returned (.tuple #[.int .i64 n2, .int .i64 e2]) ∧ Below w.heap.size w w') :
    Calls Tryd.prog 7 #[.string s] w fun r w' => r = .returned (.bool true) ∧ Below w.heap.size w w' := by
  have k1 := first_stamp w hU
  have k2 := fun w hU => first_step w hU
  have HU : Hid (Units w) := hU
  clear hU
  go_enter Tryd.func7, Tryd.ntmps7
  go_wp2_with fail
  go_fit k1
  rintro e w1 ⟨rfl, h1⟩
  clear k1
  go_wp2_with fail
  go_fit (k2 w1 (HU.out.belowS h1))
  rintro e w2 ⟨rfl, h2'⟩
  have h2 := h1.trans (h2'.mono h1.size)
  clear k2 h1 h2'
  go_wp2_with fail
  go_fit (k3 w2 (HU.out.belowS h2))
  rintro e w3 ⟨rfl, h3'⟩
  have h3 := h2.trans (h3'.mono h2.size)
  clear k3 h2 h3'
  go_wp2_with fail
  go_fit (k4 w3)
  rintro e w4 ⟨rfl, h4'⟩
  have h4 := h3.trans (h4'.mono h3.size)
  clear k4 h3 h4'
  go_wp2_with fail
  go_fit (k5 w4 (HU.out.belowS h4))
  rintro e w5 ⟨rfl, h5'⟩
  have h5 := h4.trans (h5'.mono h4.size)
  clear k5 h4 h5'
  go_wp2_with fail
  go_fit (k6 w5)
  rintro e w6 ⟨rfl, h6'⟩
  have h6 := h5.trans (h6'.mono h5.size)
  clear k6 h5 h6'
  go_wp2
  go_ret
  exact ⟨rfl, h6⟩
end Go.Proofs.YtmfeckpcnofkhaaDoor
