/- The walk of offset. -/
import Derived.Test.YtmfeckpcnofkhabDoorStI
import Derived.Test.YtmfeckpcnofkhabDoorMom
namespace Go.Proofs.YtmfeckpcnofkhabDoor
open Go.RowKit

set_option maxHeartbeats 2000000 in
set_option maxRecDepth 100000 in
theorem offset_z (w : World) : Calls Tryd.prog 56 #[.string ⟨#[90]⟩] w fun e w' => e = .returned (.tuple #[.int .i64 0, .bool true]) ∧ Below w.heap.size w w' := by
  go_enter Tryd.func56, Tryd.ntmps56
  go_wp2
  go_ret2
  exact ⟨rfl, Below.refl _ _⟩
set_option maxHeartbeats 2000000 in
set_option maxRecDepth 100000 in
theorem offset_same (z C : ByteArray) (m : Bool) (w : World) (hz : ¬ z.toList = [90]) (hC : C.size = z.size)
    (k1 : ∀ w, Calls Tryd.prog 40 #[.string z] w fun e w' => e = .returned (.tuple #[.string C, .bool m]) ∧ Below w.heap.size w w') :
    Calls Tryd.prog 56 #[.string z] w fun e w' => e = .returned (.tuple #[.int .i64 0, .bool false]) ∧ Below w.heap.size w w' := by
  have hz2 : (z.toList == [90]) = false := by simpa using hz
  have hs : ((C.size : Int) == z.size) = true := by simp; omega
  clear hC
  go_enter Tryd.func56, Tryd.ntmps56
  go_wp2_with fail
  go_fit (k1 _)
  rintro e w1 ⟨rfl, h1⟩
  clear k1
  go_wp2
  go_ret2
  exact ⟨rfl, h1⟩
set_option maxHeartbeats 2000000 in
set_option maxRecDepth 100000 in
theorem offset_shape (z C : ByteArray) (m : Bool) (w : World) (hz : ¬ z.toList = [90]) (hC : ¬ C.size = z.size)
    (k1 : ∀ w, Calls Tryd.prog 40 #[.string z] w fun e w' => e = .returned (.tuple #[.string C, .bool m]) ∧ Below w.heap.size w w')
    (k2 : ∀ w, Calls Tryd.prog 54 #[.string C, .string ⟨#[48, 48, 58, 48, 48]⟩] w fun e w' => e = .returned (.bool false) ∧ Below w.heap.size w w') :
    Calls Tryd.prog 56 #[.string z] w fun e w' => e = .returned (.tuple #[.int .i64 0, .bool false]) ∧ Below w.heap.size w w' := by
  have hz2 : (z.toList == [90]) = false := by simpa using hz
  have hs : ((C.size : Int) == z.size) = false := by simp; omega
  clear hC
  go_enter Tryd.func56, Tryd.ntmps56
  go_wp2_with fail
  go_fit (k1 _)
  rintro e w1 ⟨rfl, h1⟩
  clear k1
  go_wp2_with fail
  go_fit (k2 _)
  rintro e w2 ⟨rfl, h2⟩
  have h3 := h1.trans (h2.mono h1.size)
  clear k2 h1 h2
  go_wp2
  go_ret2
  exact ⟨rfl, h3⟩
set_option maxHeartbeats 2000000 in
set_option maxRecDepth 100000 in
theorem offset_mom (z C : ByteArray) (m : Bool) (h mi n e : Int) (w : World) (hU : Units w) (hz : ¬ z.toList = [90]) (hC : ¬ C.size = z.size) (h5 : 5 ≤ C.size) (n0 : -315360000000000 ≤ n) (n1 : n ≤ 315360000000000) (he : e = 0 ∨ e = 2)
    (k1 : ∀ w, Calls Tryd.prog 40 #[.string z] w fun e w' => e = .returned (.tuple #[.string C, .bool m]) ∧ Below w.heap.size w w')
    (k2 : ∀ w, Calls Tryd.prog 54 #[.string C, .string ⟨#[48, 48, 58, 48, 48]⟩] w fun e w' => e = .returned (.bool true) ∧ Below w.heap.size w w')
    (k3 : ∀ w, Calls Tryd.prog 55 #[.string (C.extract 0 2)] w fun e w' => e = .returned (.int .i64 h) ∧ w' = w)
    (k4 : ∀ w, Calls Tryd.prog 55 #[.string (C.extract 3 5)] w fun e w' => e = .returned (.int .i64 mi) ∧ w' = w)
    (k5 : ∀ w, Units w → Calls Tryd.prog 14 #[ag 1970 1 1 h mi 0 0 0 0 0] w fun r w' => r = .returned (.tuple #[.int .i64 n, .int .i64 e]) ∧ Below w.heap.size w w') :
    Calls Tryd.prog 56 #[.string z] w fun r w' => r = .returned (.tuple #[.int .i64 (if m = true then -n else n), .bool (decide (e = 0))]) ∧ Below w.heap.size w w' := by
  have hz2 : (z.toList == [90]) = false := by simpa using hz
  have hs : ((C.size : Int) == z.size) = false := by simp; omega
  have c2 : (2 : Int) ≤ C.size := by omega
  have c5 : (5 : Int) ≤ C.size := by omega
  have HU : Hid (Units w) := hU
  clear hC hU
  generalize hR : (if m = true then -n else n) = R
  have HR : Hid ((if m = true then -n else n) = R) := hR
  clear hR
  go_enter Tryd.func56, Tryd.ntmps56
  go_wp2_with fail
  go_fit (k1 _)
  rintro r w1 ⟨rfl, h1⟩
  clear k1
  go_wp2_with fail
  go_fit (k2 _)
  rintro r w2 ⟨rfl, h2⟩
  have h3 := h1.trans (h2.mono h1.size)
  clear k2 h1 h2
  have c3 : ∀ d os, Calls Tryd.prog 55 #[.string (C.extract 0 2)] (Go.Sort.grow (redrawn w2 d) os) fun e w'' => e = .returned (.int .i64 h) ∧ ∃ p : Regrown, w'' = Go.Sort.grow (redrawn w2 p.d) p.os := fun d os => calls_same (k3 _)
  have c4 : ∀ d os, Calls Tryd.prog 55 #[.string (C.extract 3 5)] (Go.Sort.grow (redrawn w2 d) os) fun e w'' => e = .returned (.int .i64 mi) ∧ ∃ p : Regrown, w'' = Go.Sort.grow (redrawn w2 p.d) p.os := fun d os => calls_same (k4 _)
  have hU2 : Units w2 := HU.out.belowS h3
  have c6 : ∀ d os, Calls Tryd.prog 14 #[ag 1970 1 1 h mi 0 0 0 0 0] (Go.Sort.grow (redrawn w2 d) os) fun r w'' => r = .returned (.tuple #[.int .i64 n, .int .i64 e]) ∧ ∃ p : Regrown, w'' = Go.Sort.grow (redrawn w2 p.d) p.os := fun d os => Calls.regrown_of (k5 _ (hU2.belowS (below_regrown w2 d os)))
  clear k3 k4 k5 hU2
  go_wp2_with fail
  refine wp_region_quiet_below (by kernel_rfl) (by kernel_rfl) ?_
  iterate 2
    (refine q_take (by kernel_rfl) (fun K hK => ?_)
     go_simp
     refine hK.out _ ?_; clear hK K)
  refine q_take (by kernel_rfl) (fun K hK => ?_)
  go_simp
  apply Exists.intro
  refine ⟨fun _ => ?_, hK.out _ ?_⟩
  exact c3 _ _
  clear hK K
  iterate 2
    (refine q_take (by kernel_rfl) (fun K hK => ?_)
     go_simp
     refine hK.out _ ?_; clear hK K)
  refine q_take (by kernel_rfl) (fun K hK => ?_)
  go_simp
  apply Exists.intro
  refine ⟨fun _ => ?_, hK.out _ ?_⟩
  exact c4 _ _
  clear hK K
  iterate 1
    (refine q_take (by kernel_rfl) (fun K hK => ?_)
     go_simp
     refine hK.out _ ?_; clear hK K)
  refine q_take (by kernel_rfl) (fun K hK => ?_)
  go_simp
  apply Exists.intro
  refine ⟨fun _ => ?_, hK.out _ ?_⟩
  exact c6 _ _
  clear hK K
  iterate 5
    (refine q_take (by kernel_rfl) (fun K hK => ?_)
     go_simp
     refine hK.out _ ?_; clear hK K)
  refine wpQuiet_nil ?_
  intro _ hw'
  obtain ⟨⟨dq, osq⟩, hw''⟩ := hw'
  subst hw''
  have h4 := h3.trans ((below_regrown w2 dq osq).mono h3.size)
  clear c3 c4 c6
  cases m with
  | true =>
    rcases he with rfl | rfl
    · go_wp2
      go_ret2
      exact ⟨by rw [← HR.out]; rfl, h4⟩
    · go_wp2
      go_ret2
      exact ⟨by rw [← HR.out]; rfl, h4⟩
  | false =>
    rcases he with rfl | rfl
    · go_wp2
      go_ret2
      exact ⟨by rw [← HR.out]; rfl, h4⟩
    · go_wp2
      go_ret2
      exact ⟨by rw [← HR.out]; rfl, h4⟩
end Go.Proofs.YtmfeckpcnofkhabDoor
