/- Both sides' Millis, and the law. -/
import Derived.Test.YtmfeckpcnofkhaaMil
namespace Go.Proofs.Ytmfeckpcnofkhaa
open Go.RowKit

/-- How a word stands to MinTime and to MaxTime. -/
def oA (z : Nat) : Option Ordering := FloatKind.f64.format.order z 14036670243316695040
def oB (z : Nat) : Option Ordering := FloatKind.f64.format.order z 4822456875284660192
theorem o_cases (o : Option Ordering) : o = none ∨ o = some .lt ∨ o = some .eq ∨ o = some .gt := by
  cases o with
  | none => exact .inl rfl
  | some o => cases o <;> simp
theorem oA_isN (z : Nat) (h : isN z) : oA z = none := order_isN z _ h

/-- What Millis answers. -/
def MilR (s : Nat) (n e : Int) : Prop :=
  (n = 0 ∧ e = 33 ∧ (Ieee.double.mul s 4652007308841189376 = none ∨ (∃ x, Ieee.double.mul s 4652007308841189376 = some x ∧ Ieee.double.add x 4602678819172646912 = none) ∨ (∃ x y, Ieee.double.mul s 4652007308841189376 = some x ∧ Ieee.double.add x 4602678819172646912 = some y ∧ isN y) ∨
    (∃ x y, Ieee.double.mul s 4652007308841189376 = some x ∧ Ieee.double.add x 4602678819172646912 = some y ∧ ¬ isN y ∧ (oA (flr y) = none ∨ oA (flr y) = some .lt)) ∨ (∃ x y, Ieee.double.mul s 4652007308841189376 = some x ∧ Ieee.double.add x 4602678819172646912 = some y ∧ ¬ isN y ∧ (oA (flr y) = some .gt ∨ oA (flr y) = some .eq) ∧ (oB (flr y) = none ∨ oB (flr y) = some .gt)))) ∨
  (e = 0 ∧ ∃ x y, Ieee.double.mul s 4652007308841189376 = some x ∧ Ieee.double.add x 4602678819172646912 = some y ∧ ¬ isN y ∧ (oA (flr y) = some .gt ∨ oA (flr y) = some .eq) ∧ (oB (flr y) = some .lt ∨ oB (flr y) = some .eq) ∧ floatToIntVal .f64 (flr y) .i64 = some n)
theorem MilR.nan1 {s : Nat} (h1 : Ieee.double.mul s 4652007308841189376 = none) : MilR s 0 33 := .inl ⟨rfl, rfl, .inl h1⟩
theorem MilR.nan2 {s : Nat} (x : Nat) (h1 : Ieee.double.mul s 4652007308841189376 = some x) (h2 : Ieee.double.add x 4602678819172646912 = none) : MilR s 0 33 := .inl ⟨rfl, rfl, .inr (.inl ⟨x, h1, h2⟩)⟩
theorem MilR.nan3 {s : Nat} (x y : Nat) (h1 : Ieee.double.mul s 4652007308841189376 = some x) (h2 : Ieee.double.add x 4602678819172646912 = some y) (h3 : isN y) : MilR s 0 33 := .inl ⟨rfl, rfl, .inr (.inr (.inl ⟨x, y, h1, h2, h3⟩))⟩
theorem MilR.low {s : Nat} (x y : Nat) (h1 : Ieee.double.mul s 4652007308841189376 = some x) (h2 : Ieee.double.add x 4602678819172646912 = some y) (h3 : ¬ isN y) (h4 : (oA (flr y) = none ∨ oA (flr y) = some .lt)) : MilR s 0 33 := .inl ⟨rfl, rfl, .inr (.inr (.inr (.inl ⟨x, y, h1, h2, h3, h4⟩)))⟩
theorem MilR.high {s : Nat} (x y : Nat) (h1 : Ieee.double.mul s 4652007308841189376 = some x) (h2 : Ieee.double.add x 4602678819172646912 = some y) (h3 : ¬ isN y) (h4 : (oA (flr y) = some .gt ∨ oA (flr y) = some .eq)) (h5 : (oB (flr y) = none ∨ oB (flr y) = some .gt)) : MilR s 0 33 := .inl ⟨rfl, rfl, .inr (.inr (.inr (.inr ⟨x, y, h1, h2, h3, h4, h5⟩)))⟩
theorem MilR.good {s : Nat} (x y : Nat) (n : Int) (h1 : Ieee.double.mul s 4652007308841189376 = some x) (h2 : Ieee.double.add x 4602678819172646912 = some y) (h3 : ¬ isN y) (h4 : (oA (flr y) = some .gt ∨ oA (flr y) = some .eq)) (h5 : (oB (flr y) = some .lt ∨ oB (flr y) = some .eq)) (h6 : floatToIntVal .f64 (flr y) .i64 = some n) : MilR s n 0 := .inr ⟨rfl, x, y, h1, h2, h3, h4, h5, h6⟩
theorem mil_ex (s : Nat) : ∃ n e, MilR s n e := by
  cases h1 : Ieee.double.mul s 4652007308841189376 with
  | none => exact ⟨_, _, MilR.nan1 h1⟩
  | some x =>
    cases h2 : Ieee.double.add x 4602678819172646912 with
    | none => exact ⟨_, _, MilR.nan2 x h1 h2⟩
    | some y =>
      by_cases h3 : isN y
      · exact ⟨_, _, MilR.nan3 x y h1 h2 h3⟩
      · by_cases h4 : oA (flr y) = none ∨ oA (flr y) = some .lt
        · exact ⟨_, _, MilR.low x y h1 h2 h3 h4⟩
        · have h4' : oA (flr y) = some .gt ∨ oA (flr y) = some .eq := by
            rcases o_cases (oA (flr y)) with h | h | h | h <;> simp_all
          by_cases h5 : oB (flr y) = none ∨ oB (flr y) = some .gt
          · exact ⟨_, _, MilR.high x y h1 h2 h3 h4' h5⟩
          · have h5' : oB (flr y) = some .lt ∨ oB (flr y) = some .eq := by
              rcases o_cases (oB (flr y)) with h | h | h | h <;> simp_all
            obtain ⟨n, h6⟩ := conv_ok (flr y) h4' h5'
            exact ⟨n, 0, MilR.good x y n h1 h2 h3 h4' h5' h6⟩

theorem mulS (s x : Nat) (h : Ieee.double.mul s 4652007308841189376 = some x) (t : TypeId) (w : World) : (binOp .mul t (.float .f64 s) (.float .f64 4652007308841189376)).run Try.prog w = .ok (.float .f64 x) w :=
  run_float_arith w .mul t .f64 _ _ _ h
theorem addS (s x : Nat) (h : Ieee.double.add s 4602678819172646912 = some x) (t : TypeId) (w : World) : (binOp .add t (.float .f64 s) (.float .f64 4602678819172646912)).run Try.prog w = .ok (.float .f64 x) w :=
  run_float_arith w .add t .f64 _ _ _ h
theorem mulN (s : Nat) (h : Ieee.double.mul s 4652007308841189376 = none) (t : TypeId) (w : World) : ∃ n, (binOp .mul t (.float .f64 s) (.float .f64 4652007308841189376)).run Try.prog w = .ok (.float .f64 n) w.drew ∧ isN n := by
  have h' : FloatKind.f64.format.mul s 4652007308841189376 = none := h
  exact ⟨_, by simp [binOp, Op.floatArith, h', Question.forced]; rfl, cut_isN _ _ _⟩
theorem addN (s : Nat) (h : Ieee.double.add s 4602678819172646912 = none) (t : TypeId) (w : World) : ∃ n, (binOp .add t (.float .f64 s) (.float .f64 4602678819172646912)).run Try.prog w = .ok (.float .f64 n) w.drew ∧ isN n := by
  have h' : FloatKind.f64.format.add s 4602678819172646912 = none := h
  exact ⟨_, by simp [binOp, Op.floatArith, h', Question.forced]; rfl, cut_isN _ _ _⟩
theorem cvf (x : Nat) (w : World) : (convert 22 22 (.float .f64 x)).run Try.prog w = .ok (.float .f64 x) w :=
  run_convert_float_float w 22 22 .f64 .f64 x x (by rw [Try.underlying22]; rfl) Try.underlying22 (by simp [floatToFloatBits])
theorem cvi (x : Nat) (n : Int) (h : floatToIntVal .f64 x .i64 = some n) (w : World) : (convert 22 2 (.float .f64 x)).run Try.prog w = .ok (.int .i64 n) w :=
  run_convert_float_int w 22 2 .f64 .i64 x n (by rw [Try.underlying22]; rfl) Try.underlying2 h

set_option maxHeartbeats 400000 in
theorem millis_any (s : Nat) (n e : Int) (h : MilR s n e) (w : World) : Calls Try.prog 4 #[.float .f64 s] w fun r w' => ∃ k, r = .returned (.tuple #[.int .i64 n, .int .i64 e]) ∧ w' = w.drewN k := by
  have hcf := cvf
  rcases h with ⟨rfl, rfl, h1 | ⟨x, h1, h2⟩ | ⟨x, y, h1, h2, h3⟩ | ⟨x, y, h1, h2, h3, h4⟩ | ⟨x, y, h1, h2, h3, h4, h5⟩⟩ | ⟨rfl, x, y, h1, h2, h3, h4, h5, h6⟩
  · obtain ⟨x, e1, hx⟩ := mulN s h1 22 w
    obtain ⟨y, e2, hy⟩ := addN x (add_isN _ _ hx) 22 w.drew
    have k1 := floor_nan y hy w.drew.drew
    go_enter Try.func4, Try.ntmps4
    go_wp2_with fail
    go_fit k1
    rintro r w' ⟨z, k, rfl, rfl, hz⟩
    have g1 := oA_isN z hz
    unfold oA at g1
    go_wp2
    go_ret2
    exact ⟨k + 2, rfl, by simp [World.drewN]; omega⟩
  · have e1 := mulS s x h1 22
    obtain ⟨y, e2, hy⟩ := addN x h2 22 w
    have k1 := floor_nan y hy w.drew
    go_enter Try.func4, Try.ntmps4
    go_wp2_with fail
    go_fit k1
    rintro r w' ⟨z, k, rfl, rfl, hz⟩
    have g1 := oA_isN z hz
    unfold oA at g1
    go_wp2
    go_ret2
    exact ⟨k + 1, rfl, by simp [World.drewN]; omega⟩
  · have e1 := mulS s x h1 22
    have e2 := addS x y h2 22
    have k1 := floor_nan y h3 w
    go_enter Try.func4, Try.ntmps4
    go_wp2_with fail
    go_fit k1
    rintro r w' ⟨z, k, rfl, rfl, hz⟩
    have g1 := oA_isN z hz
    unfold oA at g1
    go_wp2
    go_ret2
    exact ⟨k, rfl, by simp [World.drewN]⟩
  · have e1 := mulS s x h1 22
    have e2 := addS x y h2 22
    have k1 := floor_num y h3 w
    unfold oA at h4
    rcases h4 with h4 | h4
    · go_enter Try.func4, Try.ntmps4
      go_wp2_with fail
      go_fit k1
      rintro r w' ⟨rfl, rfl⟩
      go_wp2
      go_ret2
      exact ⟨0, rfl, rfl⟩
    · go_enter Try.func4, Try.ntmps4
      go_wp2_with fail
      go_fit k1
      rintro r w' ⟨rfl, rfl⟩
      go_wp2
      go_ret2
      exact ⟨0, rfl, rfl⟩
  · have e1 := mulS s x h1 22
    have e2 := addS x y h2 22
    have k1 := floor_num y h3 w
    unfold oA at h4
    unfold oB at h5
    rcases h4 with h4 | h4 <;> rcases h5 with h5 | h5
    · go_enter Try.func4, Try.ntmps4
      go_wp2_with fail
      go_fit k1
      rintro r w' ⟨rfl, rfl⟩
      go_wp2
      go_ret2
      exact ⟨0, rfl, rfl⟩
    · go_enter Try.func4, Try.ntmps4
      go_wp2_with fail
      go_fit k1
      rintro r w' ⟨rfl, rfl⟩
      go_wp2
      go_ret2
      exact ⟨0, rfl, rfl⟩
    · go_enter Try.func4, Try.ntmps4
      go_wp2_with fail
      go_fit k1
      rintro r w' ⟨rfl, rfl⟩
      go_wp2
      go_ret2
      exact ⟨0, rfl, rfl⟩
    · go_enter Try.func4, Try.ntmps4
      go_wp2_with fail
      go_fit k1
      rintro r w' ⟨rfl, rfl⟩
      go_wp2
      go_ret2
      exact ⟨0, rfl, rfl⟩
  · have e1 := mulS s x h1 22
    have e2 := addS x y h2 22
    have e3 := cvi (flr y) _ h6
    have k1 := floor_num y h3 w
    unfold oA at h4
    unfold oB at h5
    rcases h4 with h4 | h4 <;> rcases h5 with h5 | h5
    · go_enter Try.func4, Try.ntmps4
      go_wp2_with fail
      go_fit k1
      rintro r w' ⟨rfl, rfl⟩
      go_wp2
      go_ret2
      exact ⟨0, rfl, rfl⟩
    · go_enter Try.func4, Try.ntmps4
      go_wp2_with fail
      go_fit k1
      rintro r w' ⟨rfl, rfl⟩
      go_wp2
      go_ret2
      exact ⟨0, rfl, rfl⟩
    · go_enter Try.func4, Try.ntmps4
      go_wp2_with fail
      go_fit k1
      rintro r w' ⟨rfl, rfl⟩
      go_wp2
      go_ret2
      exact ⟨0, rfl, rfl⟩
    · go_enter Try.func4, Try.ntmps4
      go_wp2_with fail
      go_fit k1
      rintro r w' ⟨rfl, rfl⟩
      go_wp2
      go_ret2
      exact ⟨0, rfl, rfl⟩

set_option maxHeartbeats 400000 in
theorem rmillis_any (s : Nat) (n e : Int) (h : MilR s n e) (w : World) : Calls Try.prog 5 #[.float .f64 s] w fun r w' => ∃ k, r = .returned (.tuple #[.int .i64 n, .int .i64 e]) ∧ w' = w.drewN k := by
  have hcf := cvf
  rcases h with ⟨rfl, rfl, h1 | ⟨x, h1, h2⟩ | ⟨x, y, h1, h2, h3⟩ | ⟨x, y, h1, h2, h3, h4⟩ | ⟨x, y, h1, h2, h3, h4, h5⟩⟩ | ⟨rfl, x, y, h1, h2, h3, h4, h5, h6⟩
  · obtain ⟨x, e1, hx⟩ := mulN s h1 22 w
    obtain ⟨y, e2, hy⟩ := addN x (add_isN _ _ hx) 22 w.drew
    have k1 := floor_nan y hy w.drew.drew
    go_enter Try.func5, Try.ntmps5
    go_wp2_with fail
    go_fit k1
    rintro r w' ⟨z, k, rfl, rfl, hz⟩
    have g1 := oA_isN z hz
    unfold oA at g1
    go_wp2
    go_ret2
    exact ⟨k + 2, rfl, by simp [World.drewN]; omega⟩
  · have e1 := mulS s x h1 22
    obtain ⟨y, e2, hy⟩ := addN x h2 22 w
    have k1 := floor_nan y hy w.drew
    go_enter Try.func5, Try.ntmps5
    go_wp2_with fail
    go_fit k1
    rintro r w' ⟨z, k, rfl, rfl, hz⟩
    have g1 := oA_isN z hz
    unfold oA at g1
    go_wp2
    go_ret2
    exact ⟨k + 1, rfl, by simp [World.drewN]; omega⟩
  · have e1 := mulS s x h1 22
    have e2 := addS x y h2 22
    have k1 := floor_nan y h3 w
    go_enter Try.func5, Try.ntmps5
    go_wp2_with fail
    go_fit k1
    rintro r w' ⟨z, k, rfl, rfl, hz⟩
    have g1 := oA_isN z hz
    unfold oA at g1
    go_wp2
    go_ret2
    exact ⟨k, rfl, by simp [World.drewN]⟩
  · have e1 := mulS s x h1 22
    have e2 := addS x y h2 22
    have k1 := floor_num y h3 w
    unfold oA at h4
    rcases h4 with h4 | h4
    · go_enter Try.func5, Try.ntmps5
      go_wp2_with fail
      go_fit k1
      rintro r w' ⟨rfl, rfl⟩
      go_wp2
      go_ret2
      exact ⟨0, rfl, rfl⟩
    · go_enter Try.func5, Try.ntmps5
      go_wp2_with fail
      go_fit k1
      rintro r w' ⟨rfl, rfl⟩
      go_wp2
      go_ret2
      exact ⟨0, rfl, rfl⟩
  · have e1 := mulS s x h1 22
    have e2 := addS x y h2 22
    have k1 := floor_num y h3 w
    unfold oA at h4
    unfold oB at h5
    rcases h4 with h4 | h4 <;> rcases h5 with h5 | h5
    · go_enter Try.func5, Try.ntmps5
      go_wp2_with fail
      go_fit k1
      rintro r w' ⟨rfl, rfl⟩
      go_wp2
      go_ret2
      exact ⟨0, rfl, rfl⟩
    · go_enter Try.func5, Try.ntmps5
      go_wp2_with fail
      go_fit k1
      rintro r w' ⟨rfl, rfl⟩
      go_wp2
      go_ret2
      exact ⟨0, rfl, rfl⟩
    · go_enter Try.func5, Try.ntmps5
      go_wp2_with fail
      go_fit k1
      rintro r w' ⟨rfl, rfl⟩
      go_wp2
      go_ret2
      exact ⟨0, rfl, rfl⟩
    · go_enter Try.func5, Try.ntmps5
      go_wp2_with fail
      go_fit k1
      rintro r w' ⟨rfl, rfl⟩
      go_wp2
      go_ret2
      exact ⟨0, rfl, rfl⟩
  · have e1 := mulS s x h1 22
    have e2 := addS x y h2 22
    have e3 := cvi (flr y) _ h6
    have k1 := floor_num y h3 w
    unfold oA at h4
    unfold oB at h5
    rcases h4 with h4 | h4 <;> rcases h5 with h5 | h5
    · go_enter Try.func5, Try.ntmps5
      go_wp2_with fail
      go_fit k1
      rintro r w' ⟨rfl, rfl⟩
      go_wp2
      go_ret2
      exact ⟨0, rfl, rfl⟩
    · go_enter Try.func5, Try.ntmps5
      go_wp2_with fail
      go_fit k1
      rintro r w' ⟨rfl, rfl⟩
      go_wp2
      go_ret2
      exact ⟨0, rfl, rfl⟩
    · go_enter Try.func5, Try.ntmps5
      go_wp2_with fail
      go_fit k1
      rintro r w' ⟨rfl, rfl⟩
      go_wp2
      go_ret2
      exact ⟨0, rfl, rfl⟩
    · go_enter Try.func5, Try.ntmps5
      go_wp2_with fail
      go_fit k1
      rintro r w' ⟨rfl, rfl⟩
      go_wp2
      go_ret2
      exact ⟨0, rfl, rfl⟩

theorem mil15 : MilR 4609434218613702656 1500 0 := by
  refine MilR.good 4654311885213007872 4654314084236263424 1500 (by decide +kernel) (by decide +kernel) ?_ (.inl (by decide +kernel)) (.inl (by decide +kernel)) (by decide +kernel)
  rintro ⟨s, f, h⟩
  rw [show Ieee.double.read 4654314084236263424 = .number false (4503599627370496 + 2095669162541056) (-42) by decide +kernel] at h
  cases h

set_option maxHeartbeats 400000 in
theorem law_any (s : Nat) (w : World) : Calls Try.prog 3 #[.float .f64 s] w fun r w' => r = .returned (.bool true) ∧ ∃ k, w' = w.drewN k := by
  obtain ⟨n, e, h⟩ := mil_ex s
  have k1 := millis_any _ _ _ mil15 w
  have k2 := fun w => millis_any s n e h w
  have k3 := fun w => rmillis_any s n e h w
  go_enter Try.func3, Try.ntmps3
  go_wp2_with fail
  go_fit k1
  rintro r w1 ⟨j1, rfl, rfl⟩
  go_wp2_with fail
  go_fit (k2 _)
  rintro r w2 ⟨j2, rfl, rfl⟩
  go_wp2_with fail
  go_fit (k3 _)
  rintro r w3 ⟨j3, rfl, rfl⟩
  clear k1 k2 k3
  go_wp2
  go_ret
  exact ⟨rfl, j1 + j2 + j3, by simp [World.drewN]⟩

end Go.Proofs.Ytmfeckpcnofkhaa
