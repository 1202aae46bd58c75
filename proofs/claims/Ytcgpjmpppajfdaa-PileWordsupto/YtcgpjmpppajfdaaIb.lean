/- awake. -/
import Derived.Test.YtcgpjmpppajfdaaIa
namespace Go.Proofs.Ytcgpjmpppajfdaa
open Go.RowKit

theorem two_first (f0 : Nat → Rk) : (riseF (inO lsK) (up (riseF (inO lsK) (up f0 0 ((2, 1), ((0 : Nat) : Int))) 0) 1 ((1, 2), ((1 : Nat) : Int))) 1) 0 = ((1, 2), 1) := by
  rw [riseF_zero, riseF_yes _ _ 1 (by decide) (by
    rw [up_same, up_other _ _ _ _ (by decide), show (1 - 1) / 2 = 0 from rfl, up_same]
    decide), show (1 - 1) / 2 = 0 from rfl, riseF_zero]
  unfold swp
  rw [up_same, up_same]
  rfl

set_option maxHeartbeats 2000000 in
set_option maxRecDepth 100000 in
theorem awake_any (w : World) : Calls Try.prog 16 #[] w fun r w' => r = .returned (.bool true) ∧ Below w.heap.size w w' := by
  have kN := new_some 33 (fun _ => ((0, 0), 0)) w
  have hE := eq_it
  obtain ⟨G, hG⟩ : ∃ G, G = w.heap.size := ⟨_, rfl⟩
  have HG : Hid (G = w.heap.size) := hG
  rw [← hG] at kN ⊢
  clear hG
  go_enter Try.func16, Try.ntmps16
  go_wp2_with fail
  refine kN.mono ?_
  rintro r w1 ⟨rfl, p1, b1⟩
  have P1 : Hid _ := p1
  have B1 : Hid (Below G w w1) := b1
  clear p1 b1 kN
  go_wp2_with fail
  refine (it_any 2 1 w1).mono ?_
  rintro r w2 ⟨rfl, b2⟩
  have p2 := P1.out.below b2
  have kP := ppush_any (inO lsK) (G + 1) G 0 0 lvK _ _ (2, 1) w2 aheadK p2 (by omega) (by omega)
  have B2 : Hid (Below G w w2) := B1.out.trans (b2.mono (by rw [HG.out]; exact (HG.out ▸ B1.out).size))
  clear p2 b2 P1 B1
  go_wp2_with fail
  refine kP.mono ?_
  rintro r w3 ⟨rfl, g3, c3, p3, k3, _⟩
  have B3 : Hid (Below G w w3) := B2.out.trans (k3.below (by rw [HG.out]; exact (HG.out ▸ B2.out).size) (fun k hk e => by
    rcases e with e | e
    · omega
    · cases e))
  have hg3 : G ≤ g3 := by
    rename_i hx
    rcases hx with hx | hx
    · cases hx
    · exact Nat.le_trans (by rw [HG.out]; exact (HG.out ▸ B2.out).size) hx
  have P3 : Hid _ := p3
  clear p3 k3 kP B2
  go_wp2_with fail
  refine (it_any 1 2 w3).mono ?_
  rintro r w4 ⟨rfl, b4⟩
  have p4 := P3.out.below b4
  have kP := ppush_any (inO lsK) (G + 1) G 1 1 lvK _ _ (1, 2) w4 aheadK p4 (by omega) (by omega)
  have B4 : Hid (Below G w w4) := B3.out.trans (b4.mono (by rw [HG.out]; exact (HG.out ▸ B3.out).size))
  clear p4 b4 P3 B3
  go_wp2_with fail
  refine kP.mono ?_
  rintro r w5 ⟨rfl, g5, c5, p5, k5, hx5⟩
  have B5 : Hid (Below G w w5) := B4.out.trans (k5.below (by rw [HG.out]; exact (HG.out ▸ B4.out).size) (fun k hk e => by
    rcases e with e | e
    · omega
    · have : g3 = k := Option.some.inj e
      omega))
  have hg5 : G ≤ g5 := by
    rcases hx5 with hx | hx
    · have : g3 = g5 := Option.some.inj hx
      omega
    · exact Nat.le_trans (by rw [HG.out]; exact (HG.out ▸ B4.out).size) hx
  have kQ := ppop_some (inO lsK) (G + 1) G g5 c5 1 2 lvK _ w5 aheadK p5 (by omega)
  rw [two_first] at kQ
  have HG5 : Hid (G ≤ g5) := hg5
  clear p5 k5 kP B4 hx5 hg3 hg5
  go_wp2_with fail
  refine kQ.mono ?_
  rintro r w6 ⟨er, p6, k6⟩
  have er : r = .returned (.tuple #[.agg #[.int .i64 1, .int .i64 2], .bool true]) := er
  subst er
  have B6 : Hid (Below G w w6) := B5.out.trans (k6.below (by rw [HG.out]; exact (HG.out ▸ B5.out).size) (fun k hk e => by
    have := HG5.out
    rcases e with e | e <;> omega))
  have P6 : Hid _ := p6
  clear p6 k6 kQ B5
  go_wp2_with fail
  obtain ⟨W7, h7⟩ : ∃ W7, W7 = w6.alloc (.cells #[.int .i64 1, .int .i64 2] 24) := ⟨_, rfl⟩
  have c0 : W7.cell? ⟨w6.heap.size, 0, none⟩ = some (.int .i64 1) := by rw [h7]; exact iX_cell w6 (1, 2) 0 _ rfl
  have c1 : W7.cell? ⟨w6.heap.size, 1, none⟩ = some (.int .i64 2) := by rw [h7]; exact iX_cell w6 (1, 2) 1 _ rfl
  have b7 : Below w6.heap.size w6 W7 := by rw [h7]; exact (Below.refl _ w6).alloc (Nat.le_refl _) _
  have p7 := P6.out.below b7
  have B7 : Hid (Below G w W7) := B6.out.trans (b7.mono (by rw [HG.out]; exact (HG.out ▸ B6.out).size))
  rw [← h7]
  have heq : eqB (1, 2) (1, 2) = true := rfl
  have e0 := fun d os => cell_regrown c0 d os
  have e1 := fun d os => cell_regrown c1 d os
  have cI := fun d os => Calls.regrown_of (it_any 1 2 (Go.Sort.grow (redrawn W7 d) os))
  have cL := fun d os => Calls.regrown_of ((len_any (G + 1) G 1 2 lvK _ _ (Go.Sort.grow (redrawn W7 d) os) (p7.below (below_regrown W7 d os))).mono fun _ _ ⟨he, hw⟩ => ⟨he, hw ▸ Below.refl _ _⟩)
  clear p7 P6 B6 h7 b7
  refine wp_region_quiet_below (by kernel_rfl) (by kernel_rfl) ?_
  repeat (first | quiet_step (fail) | quiet_step (exact cI _ _) | quiet_step (exact cL _ _))
  refine wpQuiet_nil ?_
  intro _ hw'
  obtain ⟨⟨dq, osq⟩, hw''⟩ := hw'
  subst hw''
  have B8 : Hid (Below G w (Go.Sort.grow (redrawn W7 dq) osq)) := B7.out.trans ((below_regrown W7 dq osq).mono (by rw [HG.out]; exact (HG.out ▸ B7.out).size))
  clear c0 c1 e0 e1 cI cL
  generalize Go.Sort.grow (redrawn W7 dq) osq = W8 at *
  go_wp2
  go_ret
  exact ⟨rfl, B8.out⟩
end Go.Proofs.Ytcgpjmpppajfdaa
