/- PileNil: the walk. -/
import Derived.Test.YtcgpjmpppajfdaaNa
import Derived.Deep.RegionWith
namespace Go.Proofs.Ytcgpjmpppajfdaa
open Go.RowKit

theorem bcell {W W' : World} {p : Addr} {v : Value} (b : Below W.heap.size W W') (h : W.cell? p = some v) : W'.cell? p = some v := (Kp.of (M := fun _ => False) b).cell h id
set_option maxHeartbeats 4000000 in
set_option maxRecDepth 100000 in
theorem nil_walk (a : Option Addr) (c n : Nat) (f : Nat → It) (w : World) (hf : Iml w a f n) (hl : n ≤ 1152921504606846976) :
    Calls Try.prog 4 #[.slice a n c] w fun r w' => r = .returned (.bool true) ∧ Below w.heap.size w w' := by
  have hN := ne_it
  have HF : Hid (Iml w a f n) := hf
  obtain ⟨G, hG⟩ : ∃ G, G = w.heap.size := ⟨_, rfl⟩
  have HG : Hid (G = w.heap.size) := hG
  rw [← hG]
  clear hG hf
  go_enter Try.func4, Try.ntmps4
  go_wp2_with fail
  refine (awake_any w).mono ?_
  rintro r w1 ⟨rfl, b1⟩
  rw [← HG.out] at b1
  go_wp2
  go_loopw [14, 5, 6, 7, 8, 9] (fun iv _ _ _ _ _ w' => ∃ (i : Nat), iv = .int .i64 (i : Int) ∧ i ≤ n ∧ Below G w w') (fun iv _ _ _ _ _ _ => n - (RowKit.intOf iv).toNat)
  case atStart => exact ⟨0, rfl, by omega, b1⟩
  case round =>
    obtain ⟨i, rfl, hi, hb⟩ := hrel
    have hGw : G ≤ wr.heap.size := by rw [HG.out]; rw [HG.out] at hb; exact hb.size
    by_cases hlt : i < n
    · have hii : (i : Int) < n := by omega
      rcases HF.out with h0 | ⟨g, o, rfl, hg, hat⟩
      · omega
      rw [← HG.out] at hg
      have q1 := (hb.cell (p := ⟨g, o + i * 2, none⟩) hg).trans (hat i hlt).1
      have q2 := (hb.cell (p := ⟨g, o + i * 2 + 1, none⟩) hg).trans (hat i hlt).2
      have HI : Hid (i + 1 ≤ n) := hlt
      clear hat
      generalize (f i).1 = xk at *
      generalize (f i).2 = xi at *
      have hb2 : Below G w (wr.alloc (.cells #[.int .i64 xk, .int .i64 xi] 24)) := hb.alloc hGw _
      have x0 : (wr.alloc (.cells #[.int .i64 xk, .int .i64 xi] 24)).cell? ⟨wr.heap.size, 0, none⟩ = some (.int .i64 xk) := iX_cell wr (xk, xi) 0 _ rfl
      have x1 : (wr.alloc (.cells #[.int .i64 xk, .int .i64 xi] 24)).cell? ⟨wr.heap.size, 1, none⟩ = some (.int .i64 xi) := iX_cell wr (xk, xi) 1 _ rfl
      have HB2 : Hid _ := hb2
      have X0 : Hid _ := x0
      have X1 : Hid _ := x1
      clear hb hb2 x0 x1
      go_wp2_with fail
      refine (ppush_nil (xk, xi) _).mono ?_
      rintro r w2 ⟨rfl, b2⟩
      have y0 := bcell b2 X0.out
      have y1 := bcell b2 X1.out
      have HB3 : Hid (Below G w w2) := HB2.out.trans (b2.mono (by simp; omega))
      have hG2 : G ≤ w2.heap.size := by rw [HG.out]; exact (HG.out ▸ HB3.out).size
      clear b2 HB2 X0 X1
      go_wp2_with fail
      refine (ppop_nil _).mono ?_
      rintro r w3 ⟨rfl, b3⟩
      have z0 := bcell b3 y0
      have z1 := bcell b3 y1
      have HB4 : Hid (Below G w w3) := HB3.out.trans (b3.mono hG2)
      have hG3 : G ≤ w3.heap.size := by rw [HG.out]; exact (HG.out ▸ HB4.out).size
      have u0 : (w3.alloc (.cells #[.int .i64 0, .int .i64 0] 24)).cell? ⟨w3.heap.size, 0, none⟩ = some (.int .i64 0) := iX_cell w3 (0, 0) 0 _ rfl
      have u1 : (w3.alloc (.cells #[.int .i64 0, .int .i64 0] 24)).cell? ⟨w3.heap.size, 1, none⟩ = some (.int .i64 0) := iX_cell w3 (0, 0) 1 _ rfl
      have v0 := cell_al (.cells #[.int .i64 0, .int .i64 0] 24) z0
      have v1 := cell_al (.cells #[.int .i64 0, .int .i64 0] 24) z1
      have HB5 : Hid (Below G w (w3.alloc (.cells #[.int .i64 0, .int .i64 0] 24))) := HB4.out.alloc hG3 _
      clear b3 HB3 y0 y1 z0 z1 hG2
      go_wp2_with fail
      refine (peek_nil _).mono ?_
      rintro r w4 ⟨rfl, b4⟩
      have t0 := bcell b4 u0
      have t1 := bcell b4 u1
      have s0 := bcell b4 v0
      have s1 := bcell b4 v1
      have HB6 : Hid (Below G w w4) := HB5.out.trans (b4.mono (by simp; omega))
      have hG4 : G ≤ w4.heap.size := by rw [HG.out]; exact (HG.out ▸ HB6.out).size
      obtain ⟨W5, h5⟩ : ∃ W5, W5 = w4.alloc (.cells #[.int .i64 0, .int .i64 0] 24) := ⟨_, rfl⟩
      have p0 : W5.cell? ⟨w4.heap.size, 0, none⟩ = some (.int .i64 0) := by rw [h5]; exact iX_cell w4 (0, 0) 0 _ rfl
      have p1 : W5.cell? ⟨w4.heap.size, 1, none⟩ = some (.int .i64 0) := by rw [h5]; exact iX_cell w4 (0, 0) 1 _ rfl
      have o0 := cell_al (.cells #[.int .i64 0, .int .i64 0] 24) t0
      have o1 := cell_al (.cells #[.int .i64 0, .int .i64 0] 24) t1
      have m0 := cell_al (.cells #[.int .i64 0, .int .i64 0] 24) s0
      have m1 := cell_al (.cells #[.int .i64 0, .int .i64 0] 24) s1
      have HB7 : Hid (Below G w (w4.alloc (.cells #[.int .i64 0, .int .i64 0] 24))) := HB6.out.alloc hG4 _
      have hG5 : G ≤ (w4.alloc (.cells #[.int .i64 0, .int .i64 0] 24)).heap.size := by simp; omega
      rw [← h5] at HB7 o0 o1 m0 m1 hG5
      have H5 : Hid (W5 = w4.alloc (.cells #[.int .i64 0, .int .i64 0] 24)) := h5
      have heq : eqB (0, 0) (0, 0) = true := rfl
      clear b4 HB4 HB5 HB6 u0 u1 v0 v1 t0 t1 s0 s1 h5 hG3 hG4
      go_wp2_with fail
      rw [← H5.out]
      have r0 := cell_al (.cells #[.pointer none] 28) m0
      have r1 := cell_al (.cells #[.pointer none] 28) m1
      have rb : (W5.alloc (.cells #[.pointer none] 28)).cell? ⟨W5.heap.size, 0, none⟩ = some (.pointer none) := (Boxed.new W5 28 (.pointer none)).cell
      have kD := drained_nil W5.heap.size (xk, xi) (W5.alloc (.cells #[.pointer none] 28)).drew rb
      go_region_with (first | (go_at_call 18; refine (len_nil _).mono ?_; rintro r w6 ⟨rfl, rfl⟩) | (go_at_call 20; refine (drain_any none _).mono ?_; rintro r w6 ⟨rfl, rfl⟩) | (go_at_call 19; refine kD.mono ?_; rintro r w6 ⟨rfl, b6⟩; have B8 : Hid (Below G w w6) := (HB7.out.alloc hG5 (.cells #[.pointer none] 28)).drew.trans (b6.mono (by simp; omega)); clear b6 kD))
      all_goals go_wp2
      all_goals exact ⟨⟨i + 1, by go_num, HI.out, B8.out⟩, by simp [RowKit.intOf]; omega⟩
    · have hii : ¬ (i : Int) < n := by omega
      go_wp2_with fail
      refine (len_nil _).mono ?_
      rintro r w2 ⟨rfl, rfl⟩
      go_wp2
      go_ret
      exact ⟨rfl, hb⟩
end Go.Proofs.Ytcgpjmpppajfdaa
