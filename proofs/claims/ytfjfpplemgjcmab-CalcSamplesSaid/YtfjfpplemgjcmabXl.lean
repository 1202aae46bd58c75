/- CalcSamples: the law's walk. -/
import Derived.Test.YtfjfpplemgjcmabRl
import Derived.Test.YtfjfpplemgjcmabRt
namespace Go.Proofs.Ytfjfpplemgjcmab
open Go.RowKit

abbrev two01 : Nat → Smp := fun j => if j = 0 then ⟨0, 0, false⟩ else ⟨1000, 4607182418800017408, false⟩
abbrev one53 : Nat → Smp := fun _ => ⟨5, 4613937818241073152, false⟩
theorem line01 : liS (fun j => df (two01 j).t 0) (fun j => (two01 j).v) 2 (lvB two01 2) = some 4607182418800017408 := by decide +kernel
theorem beat53 : beF (fun j => df (one53 j).t (one53 0).t) (fun j => (one53 j).v) 1 8 = some 4613937818241073152 := by decide +kernel
abbrev blk2 : Obj := .cells #[.int .i64 0, .float .f64 0, .bool false, .int .i64 1000, .float .f64 4607182418800017408, .bool false] 27

set_option maxHeartbeats 2000000 in
set_option maxRecDepth 100000 in
theorem samples_walk (a : Option Addr) (c n : Nat) (ss : Nat → Smp) (at_ p : Int) (w : World) (hf : Sml w a ss n) (hsw : SW ss n) (hc : n ≤ c) (hl : 24 * n ≤ 140737488355328) :
    Calls Try.prog 3 #[.slice a n c, .int .i64 at_, .int .i64 p] w fun r w' => r = .returned (.bool true) ∧ Below w.heap.size w w' := by
  have k0 := line_any (some ⟨w.heap.size, 0, none⟩) 2 2 two01 0 (w.alloc blk2) (.inr ⟨w.heap.size, 0, rfl, by simp, fun j hj => by
    unfold World.cell?
    rw [show (w.alloc blk2).heap[w.heap.size]? = some blk2 from heap_alloc_new w _]
    rcases (show j = 0 ∨ j = 1 by omega) with rfl | rfl <;> exact ⟨rfl, rfl, rfl⟩⟩) (fun j hj => by
    rcases (show j = 0 ∨ j = 1 by omega) with rfl | rfl <;> decide) (by decide) (by decide)
  rw [line01] at k0
  have hb1 : Below w.heap.size w (w.alloc blk2) := (Below.refl _ _).alloc (Nat.le_refl _) _
  have K0 : Hid (∀ w1 : World, Calls Try.prog 10 #[.slice (some ⟨w1.heap.size, 0, none⟩) 1 1, .int .i64 8] (w1.alloc (cp (one53 0))) (RB (w1.alloc (cp (one53 0))) (some 4613937818241073152))) := fun w1 => by
    have := beat_any (some ⟨w1.heap.size, 0, none⟩) 1 1 one53 8 (w1.alloc (cp (one53 0))) (.inr ⟨w1.heap.size, 0, rfl, by simp, fun j hj => by
      obtain rfl : j = 0 := by omega
      exact ⟨cp_cell w1 (one53 0) 0 _ rfl, cp_cell w1 (one53 0) 1 _ rfl, cp_cell w1 (one53 0) 2 _ rfl⟩⟩) (by decide)
    rw [beat53] at this
    exact this
  have step : Hid (∀ w1 w2, Below w.heap.size w w1 → Below w1.heap.size w1 w2 → Below w.heap.size w w2) := fun w1 w2 h1 h2 => h1.trans (h2.mono h1.size)
  have K1 : Hid (∀ w1, Below w.heap.size w w1 → Calls Try.prog 11 #[.slice a n c, .int .i64 at_] w1 (RT w1 (liS (fun j => df (ss j).t at_) (fun j => (ss j).v) n (lvB ss n)) (liV (fun j => df (ss j).t at_) (fun j => (ss j).v) n (lvB ss n)))) := fun w1 h => rline_any a c n ss at_ w1 (hf.below h) hsw hl
  have K2 : Hid (∀ w1, Below w.heap.size w w1 → Calls Try.prog 12 #[.slice a n c, .int .i64 p] w1 (RT w1 (tuF (fun j => df (ss j).t (ss 0).t) (fun j => (ss j).v) n p).1 (tuF (fun j => df (ss j).t (ss 0).t) (fun j => (ss j).v) n p).2)) := fun w1 h => rturn_any a c n ss p w1 (hf.below h) (by omega)
  have K3 : Hid (∀ w1, Below w.heap.size w w1 → Calls Try.prog 13 #[.slice a n c, .int .i64 p] w1 (RB w1 (beF (fun j => df (ss j).t (ss 0).t) (fun j => (ss j).v) n p))) := fun w1 h => rbeat_any a c n ss p w1 (hf.below h) (by omega)
  have K4 : Hid (∀ w1, Below w.heap.size w w1 → Calls Try.prog 9 #[.slice a n c, .int .i64 at_] w1 (RT w1 (liS (fun j => df (ss j).t at_) (fun j => (ss j).v) n (lvB ss n)) (liV (fun j => df (ss j).t at_) (fun j => (ss j).v) n (lvB ss n)))) := fun w1 h => line_any a c n ss at_ w1 (hf.below h) hsw hc hl
  have K5 : Hid (∀ w1, Below w.heap.size w w1 → Calls Try.prog 14 #[.slice a n c, .int .i64 p] w1 (RC w1 (tuF (fun j => df (ss j).t (ss 0).t) (fun j => (ss j).v) n p))) := fun w1 h => turn_any a c n ss p w1 (hf.below h) (by omega)
  have K6 : Hid (∀ w1, Below w.heap.size w w1 → Calls Try.prog 10 #[.slice a n c, .int .i64 p] w1 (RB w1 (beF (fun j => df (ss j).t (ss 0).t) (fun j => (ss j).v) n p))) := fun w1 h => beat_any a c n ss p w1 (hf.below h) (by omega)
  generalize liS (fun j => df (ss j).t at_) (fun j => (ss j).v) n (lvB ss n) = R1 at *
  generalize liV (fun j => df (ss j).t at_) (fun j => (ss j).v) n (lvB ss n) = R2 at *
  generalize tuF (fun j => df (ss j).t (ss 0).t) (fun j => (ss j).v) n p = R3 at *
  generalize beF (fun j => df (ss j).t (ss 0).t) (fun j => (ss j).v) n p = R4 at *
  have h11 : FloatKind.f64.format.order 4607182418800017408 4607182418800017408 = some .eq := by decide +kernel
  have h33 : FloatKind.f64.format.order 4613937818241073152 4613937818241073152 = some .eq := by decide +kernel
  clear hf hsw
  go_enter Try.func3, Try.ntmps3
  go_wp2_with fail
  go_fit k0
  rintro r w1 ⟨z, z', rfl, hb, _, _, hz, _⟩
  obtain ⟨rfl, _⟩ := cl_some hz
  have b1 : Hid (Below w.heap.size w w1) := step.out _ _ hb1 hb
  clear hb hb1 hz k0
  go_wp2_with fail
  go_fit (K0.out w1)
  rintro r w2 ⟨z, rfl, hb, _, hz⟩
  obtain ⟨rfl, _⟩ := cl_some hz
  have b2 : Hid (Below w.heap.size w w2) := step.out _ _ (b1.out.alloc b1.out.size _) hb
  clear hb hz
  go_wp2_with fail
  go_fit (K1.out _ b2.out)
  rintro r w3 ⟨x1, x2, rfl, hb, _, _, c1, c2⟩
  have b3 : Hid (Below w.heap.size w w3) := step.out _ _ b2.out hb
  have C1 : Hid _ := c1
  have C2 : Hid _ := c2
  clear hb c1 c2
  go_wp2_with fail
  go_fit (K2.out _ b3.out)
  rintro r w4 ⟨x3, x4, rfl, hb, _, _, c1, c2⟩
  have b4 : Hid (Below w.heap.size w w4) := step.out _ _ b3.out hb
  have C3 : Hid _ := c1
  have C4 : Hid _ := c2
  clear hb c1 c2
  go_wp2_with fail
  go_fit (K3.out _ b4.out)
  rintro r w5 ⟨x5, rfl, hb, _, c1⟩
  have b5 : Hid (Below w.heap.size w w5) := step.out _ _ b4.out hb
  have C5 : Hid _ := c1
  clear hb c1
  go_wp2_with fail
  go_fit (K4.out _ b5.out)
  rintro r w6 ⟨y1, y2, rfl, hb, _, _, c1, c2⟩
  have b6 : Hid (Below w.heap.size w w6) := step.out _ _ b5.out hb
  have k1 := fun w' => alike_any y1 x1 (c1.trans C1.out.symm) w'
  have k2 := fun w' => alike_any y2 x2 (c2.trans C2.out.symm) w'
  clear hb c1 c2
  go_wp2_with fail
  go_fit (K5.out _ b6.out)
  rintro r w7 ⟨y3, y4, rfl, hb, _, _, c1⟩
  have b7 : Hid (Below w.heap.size w w7) := step.out _ _ b6.out hb
  have k3 := fun w' => alike_any y3 x3 ((congrArg Prod.fst c1).trans C3.out.symm) w'
  have k4 := fun w' => alike_any y4 x4 ((congrArg Prod.snd c1).trans C4.out.symm) w'
  clear hb c1
  go_wp2_with fail
  go_fit (k1 _)
  rintro r _ ⟨rfl, rfl⟩
  go_wp2_with fail
  go_fit (k2 _)
  rintro r _ ⟨rfl, rfl⟩
  go_wp2_with fail
  go_fit (k3 _)
  rintro r _ ⟨rfl, rfl⟩
  go_wp2_with fail
  go_fit (k4 _)
  rintro r _ ⟨rfl, rfl⟩
  go_wp2_with fail
  go_fit (K6.out _ b7.out)
  rintro r w8 ⟨y5, rfl, hb, _, c1⟩
  have b8 : Hid (Below w.heap.size w w8) := step.out _ _ b7.out hb
  have k5 := fun w' => alike_any y5 x5 (c1.trans C5.out.symm) w'
  clear hb c1
  go_wp2_with fail
  go_fit (k5 _)
  rintro r _ ⟨rfl, rfl⟩
  go_wp2
  go_ret
  exact ⟨rfl, b8.out⟩
end Go.Proofs.Ytfjfpplemgjcmab
