/- CalcSums: the law's walk. -/
import Derived.Test.YtfjfpplemgjcmaaSd
namespace Go.Proofs.Ytfjfpplemgjcmaa
open Go.RowKit

theorem RF.rb {w : World} {c : Option Nat} {r : Ending} {w' : World} (h : RF w c r w') : RB w c r w' := by
  obtain ⟨z, k, h1, h2, h3, h4⟩ := h
  exact ⟨z, h1, by rw [h2]; exact below_drewN (Below.refl _ _) _, h3, h4⟩
theorem sum12 : sumF (cs [4607182418800017408, 4611686018427387904]) = some 4613937818241073152 := by decide +kernel

set_option maxHeartbeats 4000000 in
set_option maxRecDepth 100000 in
theorem sums_walk (a : Option Addr) (c : Nat) (xs : List Nat) (w : World) (hf : Fm w a xs) (hw : Wd xs) (hl : 8 * xs.length ≤ 140737488355328) :
    Calls Try.prog 8 #[.slice a xs.length c] w fun r w' => r = .returned (.bool true) ∧ Below w.heap.size w w' := by
  have k0 := (sum_any (some ⟨w.heap.size, 0, none⟩) 2 [4607182418800017408, 4611686018427387904] (w.alloc (.cells #[.float .f64 4607182418800017408, .float .f64 4611686018427387904] 23)) (Fm.two w 23 _ _) (fun j hj => by
    have : j < 2 := hj
    rcases (show j = 0 ∨ j = 1 by omega) with rfl | rfl <;> decide) (by decide)).mono fun _ _ => RF.rb
  rw [sum12] at k0
  have hb1 : Below w.heap.size w (w.alloc (.cells #[.float .f64 4607182418800017408, .float .f64 4611686018427387904] 23)) := (Below.refl _ _).alloc (Nat.le_refl _) _
  have HF : Hid (Fm w a xs) := hf
  have step : Hid (∀ w1 w2, Below w.heap.size w w1 → Below w1.heap.size w1 w2 → Below w.heap.size w w2) := fun w1 w2 h1 h2 => h1.trans (h2.mono h1.size)
  have K1 : Hid (∀ w1, Below w.heap.size w w1 → Calls Try.prog 20 #[.slice a xs.length c] w1 (RB w1 (sumF (cs xs)))) := fun w1 h => (rsum_any a c xs w1 (HF.out.below h) hw (by omega)).mono fun _ _ => RF.rb
  have K2 : Hid (∀ w1, Below w.heap.size w w1 → Calls Try.prog 21 #[.slice a xs.length c] w1 (RB w1 (meanF xs))) := fun w1 h => rmean_any a c xs w1 (HF.out.below h) hw hl
  have K3 : Hid (∀ w1, Below w.heap.size w w1 → Calls Try.prog 22 #[.slice a xs.length c] w1 (RB w1 (varF xs))) := fun w1 h => rvariance_any a c xs w1 (HF.out.below h) hw hl
  have K4 : Hid (∀ w1, Below w.heap.size w w1 → Calls Try.prog 23 #[.slice a xs.length c] w1 (RB w1 (sprF xs))) := fun w1 h => rspread_any a c xs w1 (HF.out.below h) hw hl
  have K5 : Hid (∀ w1, Below w.heap.size w w1 → Calls Try.prog 12 #[.slice a xs.length c] w1 (RB w1 (sumF (cs xs)))) := fun w1 h => (sum_any a c xs w1 (HF.out.below h) hw (by omega)).mono fun _ _ => RF.rb
  have K6 : Hid (∀ w1, Below w.heap.size w w1 → Calls Try.prog 13 #[.slice a xs.length c] w1 (RB w1 (meanF xs))) := fun w1 h => mean_any a c xs w1 (HF.out.below h) hw hl
  have K7 : Hid (∀ w1, Below w.heap.size w w1 → Calls Try.prog 24 #[.slice a xs.length c] w1 (RB w1 (varF xs))) := fun w1 h => variance_any a c xs w1 (HF.out.below h) hw hl
  have K8 : Hid (∀ w1, Below w.heap.size w w1 → Calls Try.prog 25 #[.slice a xs.length c] w1 (RB w1 (sprF xs))) := fun w1 h => spread_any a c xs w1 (HF.out.below h) hw hl
  clear hf hw
  go_enter Try.func8, Try.ntmps8
  go_wp2_with fail
  go_fit k0
  rintro r w1 ⟨z, rfl, hb, _, hz⟩
  obtain ⟨rfl, _⟩ := cl_some hz
  have b1 : Hid (Below w.heap.size w w1) := step.out _ _ hb1 hb
  clear hb hb1 hz k0
  go_wp2_with fail
  go_fit (K1.out _ b1.out)
  rintro r w2 ⟨z1, rfl, hb, _, c1⟩
  have b2 : Hid (Below w.heap.size w w2) := step.out _ _ b1.out hb
  have C1 : Hid _ := c1
  clear hb c1
  go_wp2_with fail
  go_fit (K2.out _ b2.out)
  rintro r w3 ⟨z2, rfl, hb, _, c2⟩
  have b3 : Hid (Below w.heap.size w w3) := step.out _ _ b2.out hb
  have C2 : Hid _ := c2
  clear hb c2
  go_wp2_with fail
  go_fit (K3.out _ b3.out)
  rintro r w4 ⟨z3, rfl, hb, _, c3⟩
  have b4 : Hid (Below w.heap.size w w4) := step.out _ _ b3.out hb
  have C3 : Hid _ := c3
  clear hb c3
  go_wp2_with fail
  go_fit (K4.out _ b4.out)
  rintro r w5 ⟨z4, rfl, hb, _, c4⟩
  have b5 : Hid (Below w.heap.size w w5) := step.out _ _ b4.out hb
  have C4 : Hid _ := c4
  clear hb c4
  go_wp2_with fail
  go_fit (K5.out _ b5.out)
  rintro r w6 ⟨y1, rfl, hb, _, d1⟩
  have b6 : Hid (Below w.heap.size w w6) := step.out _ _ b5.out hb
  have k1 := fun w' => alike_any y1 z1 (d1.trans C1.out.symm) w'
  clear hb d1
  go_wp2_with fail
  go_fit (k1 _)
  rintro r _ ⟨rfl, rfl⟩
  go_wp2_with fail
  go_fit (K6.out _ b6.out)
  rintro r w7 ⟨y2, rfl, hb, _, d2⟩
  have b7 : Hid (Below w.heap.size w w7) := step.out _ _ b6.out hb
  have k2 := fun w' => alike_any y2 z2 (d2.trans C2.out.symm) w'
  clear hb d2
  go_wp2_with fail
  go_fit (k2 _)
  rintro r _ ⟨rfl, rfl⟩
  go_wp2_with fail
  go_fit (K7.out _ b7.out)
  rintro r w8 ⟨y3, rfl, hb, _, d3⟩
  have b8 : Hid (Below w.heap.size w w8) := step.out _ _ b7.out hb
  have k3 := fun w' => alike_any y3 z3 (d3.trans C3.out.symm) w'
  clear hb d3
  go_wp2_with fail
  go_fit (k3 _)
  rintro r _ ⟨rfl, rfl⟩
  go_wp2_with fail
  go_fit (K8.out _ b8.out)
  rintro r w9 ⟨y4, rfl, hb, _, d4⟩
  have b9 : Hid (Below w.heap.size w w9) := step.out _ _ b8.out hb
  have k4 := fun w' => alike_any y4 z4 (d4.trans C4.out.symm) w'
  clear hb d4
  go_wp2_with fail
  go_fit (k4 _)
  rintro r _ ⟨rfl, rfl⟩
  go_wp2
  go_ret
  exact ⟨rfl, b9.out⟩
end Go.Proofs.Ytfjfpplemgjcmaa
