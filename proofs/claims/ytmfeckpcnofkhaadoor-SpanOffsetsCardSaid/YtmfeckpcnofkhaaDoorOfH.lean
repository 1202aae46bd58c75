/- SpanOffsets: the ways of the law. -/
import Derived.Test.YtmfeckpcnofkhaaDoorOfG
import Derived.Lib.QuietBelow
import Derived.BigQuiet
namespace Go.Proofs.YtmfeckpcnofkhaaDoor
open Go.RowKit Go.Lib

set_option maxHeartbeats 8000000 in
set_option maxRecDepth 100000 in
theorem walk_pos (ms minutes : Int) (d d' T : ByteArray) (H MI : Nat) (w : World) (hU : Units w) (hT : Tab w) (i0 : -1439 ≤ minutes) (i1 : minutes ≤ 1439) (hm : ¬ minutes < 0) (j0 : -62167219200000 ≤ ms) (j1 : ms ≤ 253402300799999)
    (hz : d.size = 20 ∨ d.size = 24) (hx : d.extract 0 (d.size - 1) = d') (hH : H ≤ 23) (hMI : MI ≤ 59) (tH : minutes.tdiv 60 = (H : Int)) (tM : minutes.tmod 60 = (MI : Int))
    (hTx : (((d' ++ ⟨#[43]⟩) ++ mk (p2 H)) ++ ⟨#[58]⟩) ++ mk (p2 MI) = T)
    (kD : ∀ w, Units w → Tab w → Calls Tryd.prog 16 #[.int .i64 ms] w fun e w' => e = .returned (.tuple #[.string d, .int .i64 0]) ∧ Below w.heap.size w w')
    (kS : ∀ w, Units w → Calls Tryd.prog 15 #[.string T] w fun e w' => e = .returned (.tuple #[.int .i64 (tmR (ms - minutes * 60000)).1, .int .i64 (tmR (ms - minutes * 60000)).2]) ∧ Below w.heap.size w w') :
    Calls Tryd.prog 6 #[.int .i64 ms, .int .i64 minutes] w fun e w' => e = .returned (.bool true) ∧ Below w.heap.size w w' := by
  have HU : Hid (Units w) := hU
  have HTb : Hid (Tab w) := hT
  have k0 := first_off w hU
  have a0 : ¬ minutes < -1439 := by omega
  have a1 : ¬ 1439 < minutes := by omega
  have a2 : ¬ ms < -62167219200000 := by omega
  have a3 : ¬ 253402300799999 < ms := by omega
  obtain ⟨x1, hx1⟩ : ∃ x1, x1 = d' ++ ⟨#[43]⟩ := ⟨_, rfl⟩
  obtain ⟨x2, hx2⟩ : ∃ x2, x2 = x1 ++ mk (p2 H) := ⟨_, rfl⟩
  obtain ⟨x3, hx3⟩ : ∃ x3, x3 = x2 ++ ⟨#[58]⟩ := ⟨_, rfl⟩
  have z0 : d'.size ≤ 30 := by rw [← hx, ByteArray.size_extract]; omega
  have zs : (⟨#[43]⟩ : ByteArray).size = 1 := rfl
  have zc : (⟨#[58]⟩ : ByteArray).size = 1 := rfl
  have zp : (mk (p2 H)).size = 2 := rfl
  have zq : (mk (p2 MI)).size = 2 := rfl
  have z1 : x1.size ≤ 40 := by rw [hx1, ByteArray.size_append]; omega
  have z2 : x2.size ≤ 50 := by rw [hx2, ByteArray.size_append]; omega
  have z3 : x3.size ≤ 60 := by rw [hx3, ByteArray.size_append]; omega
  have f1 : ∀ w, (Op.stringOp .add d' ⟨#[43]⟩).run Tryd.prog w = .ok (.string x1) w := fun w => by rw [hx1]; exact run_string_add w _ _ (by omega) (by omega)
  have f2 : ∀ w, (Op.stringOp .add x1 (mk (p2 H))).run Tryd.prog w = .ok (.string x2) w := fun w => by rw [hx2]; exact run_string_add w _ _ (by omega) (by omega)
  have f3 : ∀ w, (Op.stringOp .add x2 ⟨#[58]⟩).run Tryd.prog w = .ok (.string x3) w := fun w => by rw [hx3]; exact run_string_add w _ _ (by omega) (by omega)
  have f4 : ∀ w, (Op.stringOp .add x3 (mk (p2 MI))).run Tryd.prog w = .ok (.string T) w := fun w => by rw [← hTx, ← hx1, ← hx2, ← hx3]; exact run_string_add w _ _ (by omega) (by omega)
  have kH := fun w => two_any H (by omega) w
  have kM := fun w => two_any MI (by omega) w
  have HTR : Hid _ := tmR_cases (ms - minutes * 60000)
  obtain ⟨r1, hr1⟩ : ∃ r1, r1 = (tmR (ms - minutes * 60000)).1 := ⟨_, rfl⟩
  obtain ⟨r2, hr2⟩ : ∃ r2, r2 = (tmR (ms - minutes * 60000)).2 := ⟨_, rfl⟩
  rw [← hr1, ← hr2] at kS
  have HR : Hid (r1 = (tmR (ms - minutes * 60000)).1 ∧ r2 = (tmR (ms - minutes * 60000)).2) := ⟨hr1, hr2⟩
  have wH : IntKind.i64.wrap (H : Int) = (H : Int) := wrI _ (by omega) (by omega)
  have wM : IntKind.i64.wrap (MI : Int) = (MI : Int) := wrI _ (by omega) (by omega)
  have w19 : IntKind.i64.wrap 19 = 19 := wrI _ (by omega) (by omega)
  have w23 : IntKind.i64.wrap 23 = 23 := wrI _ (by omega) (by omega)
  generalize mk (p2 H) = pH at *
  generalize mk (p2 MI) = pM at *
  generalize (H : Int) = Hi at *
  generalize (MI : Int) = Mi at *
  clear hx1 hx2 hx3 hTx z0 zs zc zp zq z1 z2 z3 hr1 hr2 hU hT hH hMI
  rcases hz with hz | hz
  · rw [hz] at hx
    have hx' : d.extract 0 19 = d' := hx
    clear hx
    go_enter Tryd.func6, Tryd.ntmps6
    go_wp2_with fail
    go_fit k0
    rintro e w1 ⟨rfl, b1⟩
    have kD1 := kD w1 (HU.out.belowS b1) (HTb.out.below b1)
    go_wp2_with fail
    go_fit kD1
    rintro e w2 ⟨rfl, b2⟩
    have B2 := b1.trans (b2.mono b1.size)
    have HB2 : Hid (Below w.heap.size w w2) := B2
    have c1 := fun d os => Calls.regrown_of (kH (Go.Sort.grow (redrawn w2 d) os))
    have c2 := fun d os => Calls.regrown_of (kM (Go.Sort.grow (redrawn w2 d) os))
    have c3 := fun d os => Calls.regrown_of (kS (Go.Sort.grow (redrawn w2 d) os) (HU.out.belowS (B2.trans ((below_regrown w2 d os).mono B2.size))))
    clear k0 kD kD1 kH kM kS b1 b2 B2
    go_wp2_with fail
    refine wp_region_quiet_below (by kernel_rfl) (by kernel_rfl) ?_
    iterate 9 (quiet_step (fail))
    quiet_step (exact c1 _ _)
    iterate 4 (quiet_step (fail))
    quiet_step (exact c2 _ _)
    iterate 1 (quiet_step (fail))
    quiet_step (exact c3 _ _)
    iterate 5 (quiet_step (fail))
    refine wpQuiet_nil ?_
    intro _ hw'
    obtain ⟨⟨dq, osq⟩, hw''⟩ := hw'
    subst hw''
    have hb3 := below_regrown w2 dq osq
    have HB3 : Hid (Below w.heap.size w (Go.Sort.grow (redrawn w2 dq) osq)) := HB2.out.trans (hb3.mono HB2.out.size)
    clear c1 c2 c3 hb3
    generalize Go.Sort.grow (redrawn w2 dq) osq = w3 at *
    rcases HTR.out with ⟨q1, q2⟩ | ⟨q1, q2, q3⟩ | ⟨q1, q2, q3⟩
    · have e1 : r1 = 0 := by rw [HR.out.1, q2]
      have e2 : r2 = 33 := by rw [HR.out.2, q2]
      subst e1 e2
      go_wp2
      go_ret
      exact ⟨rfl, HB3.out⟩
    · have e1 : r1 = 0 := by rw [HR.out.1, q3]
      have e2 : r2 = 33 := by rw [HR.out.2, q3]
      subst e1 e2
      go_wp2
      go_ret
      exact ⟨rfl, HB3.out⟩
    · have e1 : r1 = ms - minutes * 60000 := by rw [HR.out.1, q3]
      have e2 : r2 = 0 := by rw [HR.out.2, q3]
      subst e1 e2
      go_wp2
      go_ret
      exact ⟨by simp, HB3.out⟩
  · rw [hz] at hx
    have hx' : d.extract 0 23 = d' := hx
    clear hx
    go_enter Tryd.func6, Tryd.ntmps6
    go_wp2_with fail
    go_fit k0
    rintro e w1 ⟨rfl, b1⟩
    have kD1 := kD w1 (HU.out.belowS b1) (HTb.out.below b1)
    go_wp2_with fail
    go_fit kD1
    rintro e w2 ⟨rfl, b2⟩
    have B2 := b1.trans (b2.mono b1.size)
    have HB2 : Hid (Below w.heap.size w w2) := B2
    have c1 := fun d os => Calls.regrown_of (kH (Go.Sort.grow (redrawn w2 d) os))
    have c2 := fun d os => Calls.regrown_of (kM (Go.Sort.grow (redrawn w2 d) os))
    have c3 := fun d os => Calls.regrown_of (kS (Go.Sort.grow (redrawn w2 d) os) (HU.out.belowS (B2.trans ((below_regrown w2 d os).mono B2.size))))
    clear k0 kD kD1 kH kM kS b1 b2 B2
    go_wp2_with fail
    refine wp_region_quiet_below (by kernel_rfl) (by kernel_rfl) ?_
    iterate 9 (quiet_step (fail))
    quiet_step (exact c1 _ _)
    iterate 4 (quiet_step (fail))
    quiet_step (exact c2 _ _)
    iterate 1 (quiet_step (fail))
    quiet_step (exact c3 _ _)
    iterate 5 (quiet_step (fail))
    refine wpQuiet_nil ?_
    intro _ hw'
    obtain ⟨⟨dq, osq⟩, hw''⟩ := hw'
    subst hw''
    have hb3 := below_regrown w2 dq osq
    have HB3 : Hid (Below w.heap.size w (Go.Sort.grow (redrawn w2 dq) osq)) := HB2.out.trans (hb3.mono HB2.out.size)
    clear c1 c2 c3 hb3
    generalize Go.Sort.grow (redrawn w2 dq) osq = w3 at *
    rcases HTR.out with ⟨q1, q2⟩ | ⟨q1, q2, q3⟩ | ⟨q1, q2, q3⟩
    · have e1 : r1 = 0 := by rw [HR.out.1, q2]
      have e2 : r2 = 33 := by rw [HR.out.2, q2]
      subst e1 e2
      go_wp2
      go_ret
      exact ⟨rfl, HB3.out⟩
    · have e1 : r1 = 0 := by rw [HR.out.1, q3]
      have e2 : r2 = 33 := by rw [HR.out.2, q3]
      subst e1 e2
      go_wp2
      go_ret
      exact ⟨rfl, HB3.out⟩
    · have e1 : r1 = ms - minutes * 60000 := by rw [HR.out.1, q3]
      have e2 : r2 = 0 := by rw [HR.out.2, q3]
      subst e1 e2
      go_wp2
      go_ret
      exact ⟨by simp, HB3.out⟩

set_option maxHeartbeats 8000000 in
set_option maxRecDepth 100000 in
theorem walk_neg (ms minutes : Int) (d d' T : ByteArray) (H MI : Nat) (w : World) (hU : Units w) (hT : Tab w) (i0 : -1439 ≤ minutes) (i1 : minutes ≤ 1439) (hm : minutes < 0) (j0 : -62167219200000 ≤ ms) (j1 : ms ≤ 253402300799999)
    (hz : d.size = 20 ∨ d.size = 24) (hx : d.extract 0 (d.size - 1) = d') (hH : H ≤ 23) (hMI : MI ≤ 59) (tH : (-minutes).tdiv 60 = (H : Int)) (tM : (-minutes).tmod 60 = (MI : Int))
    (hTx : (((d' ++ ⟨#[45]⟩) ++ mk (p2 H)) ++ ⟨#[58]⟩) ++ mk (p2 MI) = T)
    (kD : ∀ w, Units w → Tab w → Calls Tryd.prog 16 #[.int .i64 ms] w fun e w' => e = .returned (.tuple #[.string d, .int .i64 0]) ∧ Below w.heap.size w w')
    (kS : ∀ w, Units w → Calls Tryd.prog 15 #[.string T] w fun e w' => e = .returned (.tuple #[.int .i64 (tmR (ms - minutes * 60000)).1, .int .i64 (tmR (ms - minutes * 60000)).2]) ∧ Below w.heap.size w w') :
    Calls Tryd.prog 6 #[.int .i64 ms, .int .i64 minutes] w fun e w' => e = .returned (.bool true) ∧ Below w.heap.size w w' := by
  have HU : Hid (Units w) := hU
  have HTb : Hid (Tab w) := hT
  have k0 := first_off w hU
  have a0 : ¬ minutes < -1439 := by omega
  have a1 : ¬ 1439 < minutes := by omega
  have a2 : ¬ ms < -62167219200000 := by omega
  have a3 : ¬ 253402300799999 < ms := by omega
  obtain ⟨x1, hx1⟩ : ∃ x1, x1 = d' ++ ⟨#[45]⟩ := ⟨_, rfl⟩
  obtain ⟨x2, hx2⟩ : ∃ x2, x2 = x1 ++ mk (p2 H) := ⟨_, rfl⟩
  obtain ⟨x3, hx3⟩ : ∃ x3, x3 = x2 ++ ⟨#[58]⟩ := ⟨_, rfl⟩
  have z0 : d'.size ≤ 30 := by rw [← hx, ByteArray.size_extract]; omega
  have zs : (⟨#[45]⟩ : ByteArray).size = 1 := rfl
  have zc : (⟨#[58]⟩ : ByteArray).size = 1 := rfl
  have zp : (mk (p2 H)).size = 2 := rfl
  have zq : (mk (p2 MI)).size = 2 := rfl
  have z1 : x1.size ≤ 40 := by rw [hx1, ByteArray.size_append]; omega
  have z2 : x2.size ≤ 50 := by rw [hx2, ByteArray.size_append]; omega
  have z3 : x3.size ≤ 60 := by rw [hx3, ByteArray.size_append]; omega
  have f1 : ∀ w, (Op.stringOp .add d' ⟨#[45]⟩).run Tryd.prog w = .ok (.string x1) w := fun w => by rw [hx1]; exact run_string_add w _ _ (by omega) (by omega)
  have f2 : ∀ w, (Op.stringOp .add x1 (mk (p2 H))).run Tryd.prog w = .ok (.string x2) w := fun w => by rw [hx2]; exact run_string_add w _ _ (by omega) (by omega)
  have f3 : ∀ w, (Op.stringOp .add x2 ⟨#[58]⟩).run Tryd.prog w = .ok (.string x3) w := fun w => by rw [hx3]; exact run_string_add w _ _ (by omega) (by omega)
  have f4 : ∀ w, (Op.stringOp .add x3 (mk (p2 MI))).run Tryd.prog w = .ok (.string T) w := fun w => by rw [← hTx, ← hx1, ← hx2, ← hx3]; exact run_string_add w _ _ (by omega) (by omega)
  have kH := fun w => two_any H (by omega) w
  have kM := fun w => two_any MI (by omega) w
  have HTR : Hid _ := tmR_cases (ms - minutes * 60000)
  obtain ⟨r1, hr1⟩ : ∃ r1, r1 = (tmR (ms - minutes * 60000)).1 := ⟨_, rfl⟩
  obtain ⟨r2, hr2⟩ : ∃ r2, r2 = (tmR (ms - minutes * 60000)).2 := ⟨_, rfl⟩
  rw [← hr1, ← hr2] at kS
  have HR : Hid (r1 = (tmR (ms - minutes * 60000)).1 ∧ r2 = (tmR (ms - minutes * 60000)).2) := ⟨hr1, hr2⟩
  have wH : IntKind.i64.wrap (H : Int) = (H : Int) := wrI _ (by omega) (by omega)
  have wM : IntKind.i64.wrap (MI : Int) = (MI : Int) := wrI _ (by omega) (by omega)
  have w19 : IntKind.i64.wrap 19 = 19 := wrI _ (by omega) (by omega)
  have w23 : IntKind.i64.wrap 23 = 23 := wrI _ (by omega) (by omega)
  generalize mk (p2 H) = pH at *
  generalize mk (p2 MI) = pM at *
  generalize (H : Int) = Hi at *
  generalize (MI : Int) = Mi at *
  clear hx1 hx2 hx3 hTx z0 zs zc zp zq z1 z2 z3 hr1 hr2 hU hT hH hMI
  rcases hz with hz | hz
  · rw [hz] at hx
    have hx' : d.extract 0 19 = d' := hx
    clear hx
    go_enter Tryd.func6, Tryd.ntmps6
    go_wp2_with fail
    go_fit k0
    rintro e w1 ⟨rfl, b1⟩
    have kD1 := kD w1 (HU.out.belowS b1) (HTb.out.below b1)
    go_wp2_with fail
    go_fit kD1
    rintro e w2 ⟨rfl, b2⟩
    have B2 := b1.trans (b2.mono b1.size)
    have HB2 : Hid (Below w.heap.size w w2) := B2
    have c1 := fun d os => Calls.regrown_of (kH (Go.Sort.grow (redrawn w2 d) os))
    have c2 := fun d os => Calls.regrown_of (kM (Go.Sort.grow (redrawn w2 d) os))
    have c3 := fun d os => Calls.regrown_of (kS (Go.Sort.grow (redrawn w2 d) os) (HU.out.belowS (B2.trans ((below_regrown w2 d os).mono B2.size))))
    clear k0 kD kD1 kH kM kS b1 b2 B2
    go_wp2_with fail
    refine wp_region_quiet_below (by kernel_rfl) (by kernel_rfl) ?_
    iterate 9 (quiet_step (fail))
    quiet_step (exact c1 _ _)
    iterate 4 (quiet_step (fail))
    quiet_step (exact c2 _ _)
    iterate 1 (quiet_step (fail))
    quiet_step (exact c3 _ _)
    iterate 5 (quiet_step (fail))
    refine wpQuiet_nil ?_
    intro _ hw'
    obtain ⟨⟨dq, osq⟩, hw''⟩ := hw'
    subst hw''
    have hb3 := below_regrown w2 dq osq
    have HB3 : Hid (Below w.heap.size w (Go.Sort.grow (redrawn w2 dq) osq)) := HB2.out.trans (hb3.mono HB2.out.size)
    clear c1 c2 c3 hb3
    generalize Go.Sort.grow (redrawn w2 dq) osq = w3 at *
    rcases HTR.out with ⟨q1, q2⟩ | ⟨q1, q2, q3⟩ | ⟨q1, q2, q3⟩
    · have e1 : r1 = 0 := by rw [HR.out.1, q2]
      have e2 : r2 = 33 := by rw [HR.out.2, q2]
      subst e1 e2
      go_wp2
      go_ret
      exact ⟨rfl, HB3.out⟩
    · have e1 : r1 = 0 := by rw [HR.out.1, q3]
      have e2 : r2 = 33 := by rw [HR.out.2, q3]
      subst e1 e2
      go_wp2
      go_ret
      exact ⟨rfl, HB3.out⟩
    · have e1 : r1 = ms - minutes * 60000 := by rw [HR.out.1, q3]
      have e2 : r2 = 0 := by rw [HR.out.2, q3]
      subst e1 e2
      go_wp2
      go_ret
      exact ⟨by simp, HB3.out⟩
  · rw [hz] at hx
    have hx' : d.extract 0 23 = d' := hx
    clear hx
    go_enter Tryd.func6, Tryd.ntmps6
    go_wp2_with fail
    go_fit k0
    rintro e w1 ⟨rfl, b1⟩
    have kD1 := kD w1 (HU.out.belowS b1) (HTb.out.below b1)
    go_wp2_with fail
    go_fit kD1
    rintro e w2 ⟨rfl, b2⟩
    have B2 := b1.trans (b2.mono b1.size)
    have HB2 : Hid (Below w.heap.size w w2) := B2
    have c1 := fun d os => Calls.regrown_of (kH (Go.Sort.grow (redrawn w2 d) os))
    have c2 := fun d os => Calls.regrown_of (kM (Go.Sort.grow (redrawn w2 d) os))
    have c3 := fun d os => Calls.regrown_of (kS (Go.Sort.grow (redrawn w2 d) os) (HU.out.belowS (B2.trans ((below_regrown w2 d os).mono B2.size))))
    clear k0 kD kD1 kH kM kS b1 b2 B2
    go_wp2_with fail
    refine wp_region_quiet_below (by kernel_rfl) (by kernel_rfl) ?_
    iterate 9 (quiet_step (fail))
    quiet_step (exact c1 _ _)
    iterate 4 (quiet_step (fail))
    quiet_step (exact c2 _ _)
    iterate 1 (quiet_step (fail))
    quiet_step (exact c3 _ _)
    iterate 5 (quiet_step (fail))
    refine wpQuiet_nil ?_
    intro _ hw'
    obtain ⟨⟨dq, osq⟩, hw''⟩ := hw'
    subst hw''
    have hb3 := below_regrown w2 dq osq
    have HB3 : Hid (Below w.heap.size w (Go.Sort.grow (redrawn w2 dq) osq)) := HB2.out.trans (hb3.mono HB2.out.size)
    clear c1 c2 c3 hb3
    generalize Go.Sort.grow (redrawn w2 dq) osq = w3 at *
    rcases HTR.out with ⟨q1, q2⟩ | ⟨q1, q2, q3⟩ | ⟨q1, q2, q3⟩
    · have e1 : r1 = 0 := by rw [HR.out.1, q2]
      have e2 : r2 = 33 := by rw [HR.out.2, q2]
      subst e1 e2
      go_wp2
      go_ret
      exact ⟨rfl, HB3.out⟩
    · have e1 : r1 = 0 := by rw [HR.out.1, q3]
      have e2 : r2 = 33 := by rw [HR.out.2, q3]
      subst e1 e2
      go_wp2
      go_ret
      exact ⟨rfl, HB3.out⟩
    · have e1 : r1 = ms - minutes * 60000 := by rw [HR.out.1, q3]
      have e2 : r2 = 0 := by rw [HR.out.2, q3]
      subst e1 e2
      go_wp2
      go_ret
      exact ⟨by simp, HB3.out⟩
end Go.Proofs.YtmfeckpcnofkhaaDoor
