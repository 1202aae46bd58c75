/- The walk of date. -/
import Derived.Test.YtmfeckpcnofkhabDoorStK
namespace Go.Proofs.YtmfeckpcnofkhabDoor
open Go.RowKit

set_option maxHeartbeats 4000000 in
set_option maxRecDepth 100000 in
theorem date_short (s : ByteArray) (w : World) (h : s.size < 19) : Calls Tryd.prog 31 #[.string s] w fun e w' => e = .returned (.tuple #[.int .i64 0, .bool false]) ∧ Below w.heap.size w w' := by
  have hi : (s.size : Int) < 19 := by omega
  go_enter Tryd.func31, Tryd.ntmps31
  go_wp2
  go_ret2
  exact ⟨rfl, Below.refl _ _⟩
set_option maxHeartbeats 4000000 in
set_option maxRecDepth 100000 in
theorem date_shape (s : ByteArray) (w : World) (h : ¬ s.size < 19) (k1 : ∀ w, Calls Tryd.prog 54 #[.string (s.extract 0 19), .string ⟨#[48, 48, 48, 48, 45, 48, 48, 45, 48, 48, 84, 48, 48, 58, 48, 48, 58, 48, 48]⟩] w fun e w' => e = .returned (.bool false) ∧ Below w.heap.size w w') : Calls Tryd.prog 31 #[.string s] w fun e w' => e = .returned (.tuple #[.int .i64 0, .bool false]) ∧ Below w.heap.size w w' := by
  have hi : ¬ (s.size : Int) < 19 := by omega
  have hj : (19 : Int) ≤ s.size := by omega
  go_enter Tryd.func31, Tryd.ntmps31
  go_wp2_with fail
  go_fit (k1 _)
  rintro r w1 ⟨rfl, h1⟩
  clear k1
  go_wp2
  go_ret2
  exact ⟨rfl, h1⟩
set_option maxHeartbeats 4000000 in
set_option maxRecDepth 100000 in
theorem date_bad (s part zone : ByteArray) (y mo d h mi sc n e ahead : Int) (ok known : Bool) (w : World) (hU : Units w) (hl : ¬ s.size < 19) (he : e = 0 ∨ e = 2 ∨ e = 33) (hbad : e ≠ 0 ∨ ok = false ∨ known = false)
    (k1 : ∀ w, Calls Tryd.prog 54 #[.string (s.extract 0 19), .string ⟨#[48, 48, 48, 48, 45, 48, 48, 45, 48, 48, 84, 48, 48, 58, 48, 48, 58, 48, 48]⟩] w fun e w' => e = .returned (.bool true) ∧ Below w.heap.size w w')
    (n0 : ∀ w, Calls Tryd.prog 55 #[.string (s.extract 0 4)] w fun e w' => e = .returned (.int .i64 y) ∧ w' = w) (n1 : ∀ w, Calls Tryd.prog 55 #[.string (s.extract 5 7)] w fun e w' => e = .returned (.int .i64 mo) ∧ w' = w) (n2 : ∀ w, Calls Tryd.prog 55 #[.string (s.extract 8 10)] w fun e w' => e = .returned (.int .i64 d) ∧ w' = w) (n3 : ∀ w, Calls Tryd.prog 55 #[.string (s.extract 11 13)] w fun e w' => e = .returned (.int .i64 h) ∧ w' = w) (n4 : ∀ w, Calls Tryd.prog 55 #[.string (s.extract 14 16)] w fun e w' => e = .returned (.int .i64 mi) ∧ w' = w) (n5 : ∀ w, Calls Tryd.prog 55 #[.string (s.extract 17 19)] w fun e w' => e = .returned (.int .i64 sc) ∧ w' = w)
    (k5 : ∀ w, Units w → Calls Tryd.prog 14 #[ag y mo d h mi sc 0 0 0 0] w fun r w' => r = .returned (.tuple #[.int .i64 n, .int .i64 e]) ∧ Below w.heap.size w w')
    (k6 : ∀ w, Calls Tryd.prog 42 #[.string (s.extract 19 s.size)] w fun r w' => r = .returned (.tuple #[.string part, .string zone, .bool ok]) ∧ Below w.heap.size w w')
    (k7 : ∀ w, Units w → Calls Tryd.prog 56 #[.string zone] w fun r w' => r = .returned (.tuple #[.int .i64 ahead, .bool known]) ∧ Below w.heap.size w w') :
    Calls Tryd.prog 31 #[.string s] w fun r w' => r = .returned (.tuple #[.int .i64 0, .bool false]) ∧ Below w.heap.size w w' := by
  have hi : ¬ (s.size : Int) < 19 := by omega
  have hj : (19 : Int) ≤ s.size := by omega
  have i4 : (4 : Int) ≤ s.size := by omega
  have i7 : (7 : Int) ≤ s.size := by omega
  have i10 : (10 : Int) ≤ s.size := by omega
  have i13 : (13 : Int) ≤ s.size := by omega
  have i16 : (16 : Int) ≤ s.size := by omega
  have HU : Hid (Units w) := hU
  clear hU
  go_enter Tryd.func31, Tryd.ntmps31
  go_wp2_with fail
  go_fit (k1 _)
  rintro r w2 ⟨rfl, h3⟩
  clear k1
  have c0 : ∀ d' os, Calls Tryd.prog 55 #[.string (s.extract 0 4)] (Go.Sort.grow (redrawn w2 d') os) fun e w'' => e = .returned (.int .i64 y) ∧ ∃ p : Regrown, w'' = Go.Sort.grow (redrawn w2 p.d) p.os := fun d' os => calls_same (n0 _)
  have c1 : ∀ d' os, Calls Tryd.prog 55 #[.string (s.extract 5 7)] (Go.Sort.grow (redrawn w2 d') os) fun e w'' => e = .returned (.int .i64 mo) ∧ ∃ p : Regrown, w'' = Go.Sort.grow (redrawn w2 p.d) p.os := fun d' os => calls_same (n1 _)
  have c2 : ∀ d' os, Calls Tryd.prog 55 #[.string (s.extract 8 10)] (Go.Sort.grow (redrawn w2 d') os) fun e w'' => e = .returned (.int .i64 d) ∧ ∃ p : Regrown, w'' = Go.Sort.grow (redrawn w2 p.d) p.os := fun d' os => calls_same (n2 _)
  have c3 : ∀ d' os, Calls Tryd.prog 55 #[.string (s.extract 11 13)] (Go.Sort.grow (redrawn w2 d') os) fun e w'' => e = .returned (.int .i64 h) ∧ ∃ p : Regrown, w'' = Go.Sort.grow (redrawn w2 p.d) p.os := fun d' os => calls_same (n3 _)
  have c4 : ∀ d' os, Calls Tryd.prog 55 #[.string (s.extract 14 16)] (Go.Sort.grow (redrawn w2 d') os) fun e w'' => e = .returned (.int .i64 mi) ∧ ∃ p : Regrown, w'' = Go.Sort.grow (redrawn w2 p.d) p.os := fun d' os => calls_same (n4 _)
  have c5 : ∀ d' os, Calls Tryd.prog 55 #[.string (s.extract 17 19)] (Go.Sort.grow (redrawn w2 d') os) fun e w'' => e = .returned (.int .i64 sc) ∧ ∃ p : Regrown, w'' = Go.Sort.grow (redrawn w2 p.d) p.os := fun d' os => calls_same (n5 _)
  have hU2 : Units w2 := HU.out.belowS h3
  have c9 : ∀ d' os, Calls Tryd.prog 14 #[ag y mo d h mi sc 0 0 0 0] (Go.Sort.grow (redrawn w2 d') os) fun r w'' => r = .returned (.tuple #[.int .i64 n, .int .i64 e]) ∧ ∃ p : Regrown, w'' = Go.Sort.grow (redrawn w2 p.d) p.os := fun d' os => Calls.regrown_of (k5 _ (hU2.belowS (below_regrown w2 d' os)))
  clear n0 n1 n2 n3 n4 n5 k5 hU2
  go_wp2_with fail
  refine wp_region_quiet_below (by kernel_rfl) (by kernel_rfl) ?_
  iterate 2
    (refine q_take (by kernel_rfl) (fun K hK => ?_)
     go_simp
     refine hK.out _ ?_; clear hK K)
  refine q_take (by kernel_rfl) (fun K hK => ?_)
  go_simp
  apply Exists.intro
  refine ⟨fun _ => ?_, hK.out _ ?_⟩
  exact c0 _ _
  clear hK K
  iterate 2
    (refine q_take (by kernel_rfl) (fun K hK => ?_)
     go_simp
     refine hK.out _ ?_; clear hK K)
  refine q_take (by kernel_rfl) (fun K hK => ?_)
  go_simp
  apply Exists.intro
  refine ⟨fun _ => ?_, hK.out _ ?_⟩
  exact c1 _ _
  clear hK K
  iterate 2
    (refine q_take (by kernel_rfl) (fun K hK => ?_)
     go_simp
     refine hK.out _ ?_; clear hK K)
  refine q_take (by kernel_rfl) (fun K hK => ?_)
  go_simp
  apply Exists.intro
  refine ⟨fun _ => ?_, hK.out _ ?_⟩
  exact c2 _ _
  clear hK K
  iterate 2
    (refine q_take (by kernel_rfl) (fun K hK => ?_)
     go_simp
     refine hK.out _ ?_; clear hK K)
  refine q_take (by kernel_rfl) (fun K hK => ?_)
  go_simp
  apply Exists.intro
  refine ⟨fun _ => ?_, hK.out _ ?_⟩
  exact c3 _ _
  clear hK K
  iterate 2
    (refine q_take (by kernel_rfl) (fun K hK => ?_)
     go_simp
     refine hK.out _ ?_; clear hK K)
  refine q_take (by kernel_rfl) (fun K hK => ?_)
  go_simp
  apply Exists.intro
  refine ⟨fun _ => ?_, hK.out _ ?_⟩
  exact c4 _ _
  clear hK K
  iterate 2
    (refine q_take (by kernel_rfl) (fun K hK => ?_)
     go_simp
     refine hK.out _ ?_; clear hK K)
  refine q_take (by kernel_rfl) (fun K hK => ?_)
  go_simp
  apply Exists.intro
  refine ⟨fun _ => ?_, hK.out _ ?_⟩
  exact c5 _ _
  clear hK K
  iterate 1
    (refine q_take (by kernel_rfl) (fun K hK => ?_)
     go_simp
     refine hK.out _ ?_; clear hK K)
  refine q_take (by kernel_rfl) (fun K hK => ?_)
  go_simp
  apply Exists.intro
  refine ⟨fun _ => ?_, hK.out _ ?_⟩
  exact c9 _ _
  clear hK K
  iterate 5
    (refine q_take (by kernel_rfl) (fun K hK => ?_)
     go_simp
     refine hK.out _ ?_; clear hK K)
  refine wpQuiet_nil ?_
  intro w4 hw'
  have h4 : Below w.heap.size w w4 := by
    obtain ⟨⟨dq, osq⟩, hw''⟩ := hw'
    subst hw''
    exact h3.trans ((below_regrown w2 dq osq).mono h3.size)
  clear c0 c1 c2 c3 c4 c5 c9 hw' h3
  go_wp2_with fail
  go_fit (k6 _)
  rintro r w5 ⟨rfl, g5⟩
  have h5 := h4.trans (g5.mono h4.size)
  clear k6 h4 g5
  go_wp2_with fail
  go_fit (k7 _ (HU.out.belowS h5))
  rintro r w6 ⟨rfl, g6⟩
  have h6 := h5.trans (g6.mono h5.size)
  clear k7 h5 g6
  rcases he with rfl | rfl | rfl
  · cases ok with
    | false =>
      go_wp2
      go_ret2
      exact ⟨rfl, h6⟩
    | true =>
      cases known with
      | false =>
        go_wp2
        go_ret2
        exact ⟨rfl, h6⟩
      | true => exfalso; rcases hbad with q | q | q <;> simp at q
  · go_wp2
    go_ret2
    exact ⟨rfl, h6⟩
  · go_wp2
    go_ret2
    exact ⟨rfl, h6⟩
set_option maxHeartbeats 4000000 in
set_option maxRecDepth 100000 in
theorem date_ok (s part zone : ByteArray) (y mo d h mi sc n ahead rest half : Int) (w : World) (hU : Units w) (hl : ¬ s.size < 19) (n0' : -400000000000000 ≤ n) (n1' : n ≤ 400000000000000) (a0 : -100000000 ≤ ahead) (a1 : ahead ≤ 100000000) (r0 : 0 ≤ rest) (r1 : rest ≤ 999) (hh : half = -1 ∨ half = 0 ∨ half = 1)
    (k1 : ∀ w, Calls Tryd.prog 54 #[.string (s.extract 0 19), .string ⟨#[48, 48, 48, 48, 45, 48, 48, 45, 48, 48, 84, 48, 48, 58, 48, 48, 58, 48, 48]⟩] w fun e w' => e = .returned (.bool true) ∧ Below w.heap.size w w')
    (n0 : ∀ w, Calls Tryd.prog 55 #[.string (s.extract 0 4)] w fun e w' => e = .returned (.int .i64 y) ∧ w' = w) (n1 : ∀ w, Calls Tryd.prog 55 #[.string (s.extract 5 7)] w fun e w' => e = .returned (.int .i64 mo) ∧ w' = w) (n2 : ∀ w, Calls Tryd.prog 55 #[.string (s.extract 8 10)] w fun e w' => e = .returned (.int .i64 d) ∧ w' = w) (n3 : ∀ w, Calls Tryd.prog 55 #[.string (s.extract 11 13)] w fun e w' => e = .returned (.int .i64 h) ∧ w' = w) (n4 : ∀ w, Calls Tryd.prog 55 #[.string (s.extract 14 16)] w fun e w' => e = .returned (.int .i64 mi) ∧ w' = w) (n5 : ∀ w, Calls Tryd.prog 55 #[.string (s.extract 17 19)] w fun e w' => e = .returned (.int .i64 sc) ∧ w' = w)
    (k5 : ∀ w, Units w → Calls Tryd.prog 14 #[ag y mo d h mi sc 0 0 0 0] w fun r w' => r = .returned (.tuple #[.int .i64 n, .int .i64 0]) ∧ Below w.heap.size w w')
    (k6 : ∀ w, Calls Tryd.prog 42 #[.string (s.extract 19 s.size)] w fun r w' => r = .returned (.tuple #[.string part, .string zone, .bool true]) ∧ Below w.heap.size w w')
    (k7 : ∀ w, Units w → Calls Tryd.prog 56 #[.string zone] w fun r w' => r = .returned (.tuple #[.int .i64 ahead, .bool true]) ∧ Below w.heap.size w w')
    (k8 : ∀ w, Calls Tryd.prog 43 #[.string part] w fun r w' => r = .returned (.tuple #[.int .i64 rest, .int .i64 half]) ∧ Below w.heap.size w w') :
    Calls Tryd.prog 31 #[.string s] w fun r w' => r = .returned (.tuple #[.int .i64 (if 0 ≤ half then n + (rest + 1) - ahead else n + rest - ahead), .bool true]) ∧ Below w.heap.size w w' := by
  have hi : ¬ (s.size : Int) < 19 := by omega
  have hj : (19 : Int) ≤ s.size := by omega
  generalize hR : (if 0 ≤ half then n + (rest + 1) - ahead else n + rest - ahead) = R
  have HR : Hid ((if 0 ≤ half then n + (rest + 1) - ahead else n + rest - ahead) = R) := hR
  clear hR
  have i4 : (4 : Int) ≤ s.size := by omega
  have i7 : (7 : Int) ≤ s.size := by omega
  have i10 : (10 : Int) ≤ s.size := by omega
  have i13 : (13 : Int) ≤ s.size := by omega
  have i16 : (16 : Int) ≤ s.size := by omega
  have HU : Hid (Units w) := hU
  clear hU
  go_enter Tryd.func31, Tryd.ntmps31
  go_wp2_with fail
  go_fit (k1 _)
  rintro r w2 ⟨rfl, h3⟩
  clear k1
  have c0 : ∀ d' os, Calls Tryd.prog 55 #[.string (s.extract 0 4)] (Go.Sort.grow (redrawn w2 d') os) fun e w'' => e = .returned (.int .i64 y) ∧ ∃ p : Regrown, w'' = Go.Sort.grow (redrawn w2 p.d) p.os := fun d' os => calls_same (n0 _)
  have c1 : ∀ d' os, Calls Tryd.prog 55 #[.string (s.extract 5 7)] (Go.Sort.grow (redrawn w2 d') os) fun e w'' => e = .returned (.int .i64 mo) ∧ ∃ p : Regrown, w'' = Go.Sort.grow (redrawn w2 p.d) p.os := fun d' os => calls_same (n1 _)
  have c2 : ∀ d' os, Calls Tryd.prog 55 #[.string (s.extract 8 10)] (Go.Sort.grow (redrawn w2 d') os) fun e w'' => e = .returned (.int .i64 d) ∧ ∃ p : Regrown, w'' = Go.Sort.grow (redrawn w2 p.d) p.os := fun d' os => calls_same (n2 _)
  have c3 : ∀ d' os, Calls Tryd.prog 55 #[.string (s.extract 11 13)] (Go.Sort.grow (redrawn w2 d') os) fun e w'' => e = .returned (.int .i64 h) ∧ ∃ p : Regrown, w'' = Go.Sort.grow (redrawn w2 p.d) p.os := fun d' os => calls_same (n3 _)
  have c4 : ∀ d' os, Calls Tryd.prog 55 #[.string (s.extract 14 16)] (Go.Sort.grow (redrawn w2 d') os) fun e w'' => e = .returned (.int .i64 mi) ∧ ∃ p : Regrown, w'' = Go.Sort.grow (redrawn w2 p.d) p.os := fun d' os => calls_same (n4 _)
  have c5 : ∀ d' os, Calls Tryd.prog 55 #[.string (s.extract 17 19)] (Go.Sort.grow (redrawn w2 d') os) fun e w'' => e = .returned (.int .i64 sc) ∧ ∃ p : Regrown, w'' = Go.Sort.grow (redrawn w2 p.d) p.os := fun d' os => calls_same (n5 _)
  have hU2 : Units w2 := HU.out.belowS h3
  have c9 : ∀ d' os, Calls Tryd.prog 14 #[ag y mo d h mi sc 0 0 0 0] (Go.Sort.grow (redrawn w2 d') os) fun r w'' => r = .returned (.tuple #[.int .i64 n, .int .i64 0]) ∧ ∃ p : Regrown, w'' = Go.Sort.grow (redrawn w2 p.d) p.os := fun d' os => Calls.regrown_of (k5 _ (hU2.belowS (below_regrown w2 d' os)))
  clear n0 n1 n2 n3 n4 n5 k5 hU2
  go_wp2_with fail
  refine wp_region_quiet_below (by kernel_rfl) (by kernel_rfl) ?_
  iterate 2
    (refine q_take (by kernel_rfl) (fun K hK => ?_)
     go_simp
     refine hK.out _ ?_; clear hK K)
  refine q_take (by kernel_rfl) (fun K hK => ?_)
  go_simp
  apply Exists.intro
  refine ⟨fun _ => ?_, hK.out _ ?_⟩
  exact c0 _ _
  clear hK K
  iterate 2
    (refine q_take (by kernel_rfl) (fun K hK => ?_)
     go_simp
     refine hK.out _ ?_; clear hK K)
  refine q_take (by kernel_rfl) (fun K hK => ?_)
  go_simp
  apply Exists.intro
  refine ⟨fun _ => ?_, hK.out _ ?_⟩
  exact c1 _ _
  clear hK K
  iterate 2
    (refine q_take (by kernel_rfl) (fun K hK => ?_)
     go_simp
     refine hK.out _ ?_; clear hK K)
  refine q_take (by kernel_rfl) (fun K hK => ?_)
  go_simp
  apply Exists.intro
  refine ⟨fun _ => ?_, hK.out _ ?_⟩
  exact c2 _ _
  clear hK K
  iterate 2
    (refine q_take (by kernel_rfl) (fun K hK => ?_)
     go_simp
     refine hK.out _ ?_; clear hK K)
  refine q_take (by kernel_rfl) (fun K hK => ?_)
  go_simp
  apply Exists.intro
  refine ⟨fun _ => ?_, hK.out _ ?_⟩
  exact c3 _ _
  clear hK K
  iterate 2
    (refine q_take (by kernel_rfl) (fun K hK => ?_)
     go_simp
     refine hK.out _ ?_; clear hK K)
  refine q_take (by kernel_rfl) (fun K hK => ?_)
  go_simp
  apply Exists.intro
  refine ⟨fun _ => ?_, hK.out _ ?_⟩
  exact c4 _ _
  clear hK K
  iterate 2
    (refine q_take (by kernel_rfl) (fun K hK => ?_)
     go_simp
     refine hK.out _ ?_; clear hK K)
  refine q_take (by kernel_rfl) (fun K hK => ?_)
  go_simp
  apply Exists.intro
  refine ⟨fun _ => ?_, hK.out _ ?_⟩
  exact c5 _ _
  clear hK K
  iterate 1
    (refine q_take (by kernel_rfl) (fun K hK => ?_)
     go_simp
     refine hK.out _ ?_; clear hK K)
  refine q_take (by kernel_rfl) (fun K hK => ?_)
  go_simp
  apply Exists.intro
  refine ⟨fun _ => ?_, hK.out _ ?_⟩
  exact c9 _ _
  clear hK K
  iterate 5
    (refine q_take (by kernel_rfl) (fun K hK => ?_)
     go_simp
     refine hK.out _ ?_; clear hK K)
  refine wpQuiet_nil ?_
  intro w4 hw'
  have h4 : Below w.heap.size w w4 := by
    obtain ⟨⟨dq, osq⟩, hw''⟩ := hw'
    subst hw''
    exact h3.trans ((below_regrown w2 dq osq).mono h3.size)
  clear c0 c1 c2 c3 c4 c5 c9 hw' h3
  go_wp2_with fail
  go_fit (k6 _)
  rintro r w5 ⟨rfl, g5⟩
  have h5 := h4.trans (g5.mono h4.size)
  clear k6 h4 g5
  go_wp2_with fail
  go_fit (k7 _ (HU.out.belowS h5))
  rintro r w6 ⟨rfl, g6⟩
  have h6 := h5.trans (g6.mono h5.size)
  clear k7 h5 g6
  go_wp2_with fail
  go_fit (k8 _)
  rintro r w7 ⟨rfl, g7⟩
  have h7 := h6.trans (g7.mono h6.size)
  clear k8 h6 g7
  rcases hh with rfl | rfl | rfl
  · go_wp2
    go_ret2
    exact ⟨by rw [← HR.out]; rfl, h7⟩
  · go_wp2
    go_ret2
    exact ⟨by rw [← HR.out]; rfl, h7⟩
  · go_wp2
    go_ret2
    exact ⟨by rw [← HR.out]; rfl, h7⟩
end Go.Proofs.YtmfeckpcnofkhabDoor
