/- PairScalars: the walk. -/
import Derived.Test.YtebjklppbkkinaaSa4
namespace Go.Proofs.Ytebjklppbkkinaa
open Go.RowKit

def sMod : ByteArray := ⟨#[37]⟩
theorem sMod_list : sMod.toList = [37] := by rw [ByteArray.toList_eq]; rfl
theorem opK_mod : OpK sMod 4 := by constructor <;> rw [sMod_list] <;> rfl
set_option maxHeartbeats 4000000 in
set_option maxRecDepth 100000 in
theorem value_mod (x y : Nat) (hx : x < 18446744073709551616) (hy : y < 18446744073709551616) (w : World) : Calls Try.prog 15 #[.string sMod, .float .f64 x, .float .f64 y] w (RF w (mdC x y)) := by
  obtain ⟨e0, e1, e2, e3, e4, e5, e6, e7, e8, e9, e10, e11, e12, e13, e14⟩ := opK_mod
  simp only [Nat.reduceBEq] at e0 e1 e2 e3 e4 e5 e6 e7 e8 e9 e10 e11 e12 e13 e14
  generalize sMod = s at *
  go_enter Try.func15, Try.ntmps15
  go_wp2_with fail
  go_fit (calcMod_any x y hx hy _)
  rintro e w2 ⟨z, n, rfl, rfl, hz, hc⟩
  have HC : Hid (cl z = mdC x y) := hc
  clear hc
  go_wp2
  go_ret
  exact ⟨_, _, rfl, rfl, hz, HC.out⟩
theorem scalars_mod (w : World) : Calls Try.prog 4 #[.string ⟨#[37]⟩, .float .f64 13840687554816376832, .float .f64 4613937818241073152] w (RN w (some 13835058055282163712) 0) := by
  have h := scalars_walk sMod (knN 4) 13840687554816376832 4613937818241073152 (some 13835058055282163712) (kindOf_k sMod 4 (by decide) opK_mod) ?_ (between_arith sMod 4 (by decide) true _ _ _ _ fun w => by have := value_mod 13840687554816376832 4613937818241073152 (by decide) (by decide) w; rw [md53] at this; exact this) w
  · exact h
  · exact fun w => (takes_any sMod 4 true w).mono fun r w' q => q
theorem cl_someZ {z k : Nat} (h : cl z = some k) : z = k := by
  unfold cl at h
  split at h
  · cases h
  · exact Option.some.inj h

set_option maxHeartbeats 8000000 in
set_option maxRecDepth 100000 in
theorem scalarsLaw_walk (s : ByteArray) (x y : Nat) (hx : x < 18446744073709551616) (hy : y < 18446744073709551616) (w : World) :
    Calls Try.prog 3 #[.string s, .float .f64 x, .float .f64 y] w fun r w' => r = .returned (.bool true) ∧ Below w.heap.size w w' := by
  obtain ⟨c, e, ha, hb⟩ := scalars_both s x y hx hy
  have HA : Hid (∀ w, Calls Try.prog 4 #[.string s, .float .f64 x, .float .f64 y] w (RN w c e)) := ha
  have HBB : Hid (∀ w, Calls Try.prog 5 #[.string s, .float .f64 x, .float .f64 y] w (RN w c e)) := hb
  clear ha hb hx hy
  go_enter Try.func3, Try.ntmps3
  go_wp2_with fail
  go_fit (scalars_mod _)
  rintro e1 w1 ⟨z1, rfl, b1, _, hc1⟩
  obtain rfl := cl_someZ hc1
  have B1 : Hid (Below w.heap.size w w1) := b1
  clear b1 hc1
  go_wp2_with fail
  go_fit (HA.out _)
  rintro e2 w2 ⟨z2, rfl, b2, _, hc2⟩
  have B2 : Hid (Below w.heap.size w w2) := B1.out.trans (b2.mono B1.out.size)
  have HC2 : Hid (cl z2 = c) := hc2
  clear b2 hc2
  go_wp2_with fail
  go_fit (HBB.out _)
  rintro e3 w3 ⟨z3, rfl, b3, _, hc3⟩
  have B3 : Hid (Below w.heap.size w w3) := B2.out.trans (b3.mono B2.out.size)
  have HC3 : Hid (cl z2 = cl z3) := HC2.out.trans hc3.symm
  clear b3 hc3 HC2
  go_wp2_with fail
  go_fit (alike_c z2 z3 HC3.out _)
  rintro e4 w4 ⟨rfl, rfl⟩
  go_wp2
  go_ret
  exact ⟨rfl, B3.out⟩
end Go.Proofs.Ytebjklppbkkinaa
