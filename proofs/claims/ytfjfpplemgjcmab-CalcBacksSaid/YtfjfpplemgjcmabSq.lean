/- The square root. -/
import Derived.Test.YtfjfpplemgjcmabBa
import Derived.Test.YtfjfpplemgjcmabSu
namespace Go.Proofs.Ytfjfpplemgjcmab
open Go.RowKit Ieee

def fsq (c : Option Nat) : Option Nat := c.bind fun x => Ieee.double.sqrt x
theorem root_num (n : Nat) (a d : Datum) (h : a.root n = some d) : d.isNaN = false := by
  unfold Datum.root at h
  split at h
  · cases h
  · split at h
    · cases h
    · cases h; rfl
  · split at h
    · cases h; rfl
    · split at h
      · cases h
      · cases h; rfl
theorem sqrt_num {x r : Nat} (h : Ieee.double.sqrt x = some r) : nanB r = false ∧ r < 18446744073709551616 := by
  change (((Ieee.double.read x).root 54).map Ieee.double.write) = some r at h
  obtain ⟨d, hd, rfl⟩ := Option.map_eq_some_iff.1 h
  refine ⟨nanB_write d (root_num _ _ _ hd), ?_⟩
  have : FloatKind.f64.encode d < 18446744073709551616 := by simpa [Lit.wf] using encode_wf .f64 d
  exact this
theorem sqrt_nan {x : Nat} (h : nanB x = true) : Ieee.double.sqrt x = none := by
  unfold nanB at h
  show ((Ieee.double.read x).root 54).map Ieee.double.write = none
  have : (Ieee.double.read x).root 54 = none := by
    generalize Ieee.double.read x = d at *
    cases d <;> simp [Datum.isNaN] at h; rfl
  rw [this]; rfl
theorem callSqrt0 (args : Array Value) (w : World) : (callFunc 99 args).run Try.prog w = ((Extern.MathSqrt.sqrt args).run Try.prog w).andThen fun v w' => .ok (.value v) w' :=
  run_callFunc_extern Try.func99 (by kernel_rfl) (by kernel_rfl) (by kernel_rfl) (by kernel_rfl) args w
theorem sqrtRow (x : Nat) : Extern.MathSqrt.sqrt #[.float .f64 x] = (match FloatKind.f64.format.sqrt x with
    | some r => pure (.float .f64 r)
    | none => do pure (.float .f64 (← choose (.nanBits .f64 x x)))) := rfl
theorem callSqrt (x : Nat) (w : World) : ∃ z k, (callFunc 99 #[.float .f64 x]).run Try.prog w = .ok (.value (.float .f64 z)) (w.drewN k) ∧ z < 18446744073709551616 ∧ cl z = fsq (cl x) := by
  rw [callSqrt0]
  cases h : Ieee.double.sqrt x with
  | some r =>
    have hx : cl x = some x := by
      apply cl_num
      cases hn : nanB x with
      | false => rfl
      | true => rw [sqrt_nan hn] at h; cases h
    have e : Extern.MathSqrt.sqrt #[.float .f64 x] = pure (.float .f64 r) := by
      have h' : FloatKind.f64.format.sqrt x = some r := h
      rw [sqrtRow, h']
    rw [e]
    exact ⟨r, 0, rfl, (sqrt_num h).2, by rw [cl_num (sqrt_num h).1, hx]; exact h.symm⟩
  | none =>
    have e : (Extern.MathSqrt.sqrt #[.float .f64 x]).run Try.prog w = .ok (.float .f64 ((Question.nanBits .f64 x x).cut (w.tape w.drawn (.nanBits .f64 x x)))) (w.drewN 1) := by
      have h' : FloatKind.f64.format.sqrt x = none := h
      rw [sqrtRow, h']
      simp [Question.forced]
      rfl
    rw [e]
    refine ⟨_, 1, rfl, cut_lt _ _ _, ?_⟩
    rw [cl_nan (cut_nan _ _ _)]
    unfold cl
    split
    · rfl
    · exact h.symm

set_option maxHeartbeats 400000 in
theorem sqrt_any (x : Nat) (w : World) : Calls Try.prog 45 #[.float .f64 x] w (RF w (fsq (cl x))) := by
  obtain ⟨z, k, h1, hz, hc⟩ := callSqrt x w
  have HC : Hid (cl z = fsq (cl x)) := hc
  clear hc
  go_enter Try.func45, Try.ntmps45
  go_wp2
  go_ret
  exact ⟨z, k, rfl, rfl, hz, HC.out⟩
end Go.Proofs.Ytfjfpplemgjcmab
