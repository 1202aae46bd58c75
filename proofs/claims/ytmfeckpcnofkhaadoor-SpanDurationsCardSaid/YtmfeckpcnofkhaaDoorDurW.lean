/- The walk of the law SpanDurations. -/
import Derived.Test.YtmfeckpcnofkhaaDoorDurS
namespace Go.Proofs.YtmfeckpcnofkhaaDoor
open Go.RowKit

theorem pa_one (s : ByteArray) : paR s.size (hdG (V1 s) s 7 0 0 0) = paR s.size (hdG (V2 s) s 7 0 0 0) := by
  have h1 := hdG_fst (V1 s) (V2 s) s 7 0 0 0 0
  have h2 := hdG_snd s 7 0 0 0 0 (by omega) (by omega) (by omega) (.inl rfl)
  unfold far2 at h2
  generalize hdG (V1 s) s 7 0 0 0 = A at *
  generalize hdG (V2 s) s 7 0 0 0 = B at *
  obtain ⟨a1, a2⟩ := A
  obtain ⟨b1, b2⟩ := B
  simp only at h1 h2
  subst h1
  unfold paR
  split
  · rfl
  · split
    · rfl
    · rcases h2 with h2 | ⟨h2, h3⟩
      · rw [h2]
      · rw [if_pos h2, if_pos h3]
theorem c1 : paR (ByteArray.size ⟨#[49, 104, 51, 48, 109]⟩) (hdG (V1 ⟨#[49, 104, 51, 48, 109]⟩) ⟨#[49, 104, 51, 48, 109]⟩ 7 0 0 0) = (5400000, 0) := by decide +kernel
theorem c2 : (hdG (V1 ⟨#[53, 109, 51, 48, 120]⟩) ⟨#[53, 109, 51, 48, 120]⟩ 7 0 0 0).1 = 2 := by decide +kernel

set_option maxHeartbeats 2000000 in
set_option maxRecDepth 100000 in
theorem durations_walk (s : ByteArray) (w : World) (hU : Units w) (hs : s.size ≤ 140737488355328) : Calls Tryd.prog 5 #[.string s] w fun e w' => e = .returned (.bool true) ∧ Below w.heap.size w w' := by
  have k1 := parse_any ⟨#[49, 104, 51, 48, 109]⟩ w hU (by decide)
  rw [c1] at k1
  have k2 := fun w hU => prefixS_any ⟨#[53, 109, 51, 48, 120]⟩ w hU (by decide)
  rw [c2] at k2
  have k3 := fun w hU => parse_any s w hU hs
  rw [pa_one] at k3
  have k4 := fun w => rparse_any s w
  have k5 := fun w hU => prefixS_any s w hU hs
  rw [hdG_fst (V1 s) (V2 s) s 7 0 0 0 0] at k5
  have k6 := fun w => rprefix_any s w hs
  generalize paR s.size (hdG (V2 s) s 7 0 0 0) = R at *
  generalize (hdG (V2 s) s 7 0 0 0).1 = P at *
  have HU : Hid (Units w) := hU
  clear hU
  go_enter Tryd.func5, Tryd.ntmps5
  go_wp2_with fail
  go_fit k1
  rintro e w1 ⟨rfl, h1⟩
  clear k1
  go_wp2_with fail
  go_fit (k2 w1 (HU.out.belowS h1))
  rintro e w2 ⟨rfl, h2'⟩
  have h2 := h1.trans (h2'.mono h1.size)
  clear k2 h1 h2'
  go_wp2_with fail
  go_fit (k3 w2 (HU.out.belowS h2))
  rintro e w3 ⟨rfl, h3'⟩
  have h3 := h2.trans (h3'.mono h2.size)
  clear k3 h2 h3'
  go_wp2_with fail
  go_fit (k4 w3)
  rintro e w4 ⟨rfl, h4'⟩
  have h4 := h3.trans (h4'.mono h3.size)
  clear k4 h3 h4'
  go_wp2_with fail
  go_fit (k5 w4 (HU.out.belowS h4))
  rintro e w5 ⟨rfl, h5'⟩
  have h5 := h4.trans (h5'.mono h4.size)
  clear k5 h4 h5'
  go_wp2_with fail
  go_fit (k6 w5)
  rintro e w6 ⟨rfl, h6'⟩
  have h6 := h5.trans (h6'.mono h5.size)
  clear k6 h5 h6'
  go_wp2
  go_ret
  exact ⟨rfl, h6⟩
end Go.Proofs.YtmfeckpcnofkhaaDoor
