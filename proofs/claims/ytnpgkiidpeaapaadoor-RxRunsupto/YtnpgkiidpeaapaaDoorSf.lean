/- RxprogSounds: the reference's sound at an instruction that takes a rune. -/
import Derived.Test.YtnpgkiidpeaapaaDoorSe
namespace Go.Proofs.YtnpgkiidpeaapaaDoor
open Go.RowKit

theorem below_drewN {B : Nat} {a w : World} (h : Below B a w) (k : Nat) : Below B a (w.drewN k) := ⟨h.os, h.tape, h.output, h.size, h.block⟩
set_option maxHeartbeats 4000000 in
set_option maxRecDepth 100000 in
theorem rsound_f (out alt arg : Int) (a : Option Addr) (n c : Nat) (f : Nat → Rg) (m g : Int) (w : World) (hR : Rml w a f n) (hn : n ≤ 1152921504606846976) :
    Calls Tryd.prog 21 #[inV 2 out alt arg a n c, .int .i64 m, .int .i64 g] w fun r w' => r = .returned (.bool (sdB 2 out alt arg n f m g)) ∧ Below w.heap.size w w' := by
  have HB : Hid (Below w.heap.size w (w.alloc (inX 2 out alt arg a n c))) := (Below.refl _ w).alloc (Nat.le_refl _) _
  have HR0 : Hid (Rml w a f n) := hR
  clear hR
  by_cases to0 : out < 0
  · have HX : Hid (sdB 2 out alt arg n f m g = false) := sdB_no (by omega)
    go_enter Tryd.func21, Tryd.ntmps21
    go_wp2
    go_ret
    exact ⟨ret_bool (by rw [HX.out]), HB.out⟩
  by_cases to1 : m ≤ out
  · have HX : Hid (sdB 2 out alt arg n f m g = false) := sdB_no (by omega)
    go_enter Tryd.func21, Tryd.ntmps21
    go_wp2
    go_ret
    exact ⟨ret_bool (by rw [HX.out]), HB.out⟩
  by_cases ta : alt = 0
  rotate_left
  · have HX : Hid (sdB 2 out alt arg n f m g = false) := sdB_no (by omega)
    have bta : (alt != 0) = true := by simp [ta]
    clear ta
    go_enter Tryd.func21, Tryd.ntmps21
    go_wp2
    go_ret
    exact ⟨ret_bool (by rw [HX.out]), HB.out⟩
  by_cases tg : arg = 0
  rotate_left
  · have HX : Hid (sdB 2 out alt arg n f m g = false) := sdB_no (by omega)
    have bta : (alt != 0) = false := by simp [ta]
    have btg : (arg != 0) = true := by simp [tg]
    clear ta tg
    go_enter Tryd.func21, Tryd.ntmps21
    go_wp2
    go_ret
    exact ⟨ret_bool (by rw [HX.out]), HB.out⟩
  by_cases tn : 0 < (n : Int)
  rotate_left
  · have HX : Hid (sdB 2 out alt arg n f m g = false) := sdB_no (by omega)
    have bta : (alt != 0) = false := by simp [ta]
    have btg : (arg != 0) = false := by simp [tg]
    have btn : (!decide (0 < n)) = true := by simp; omega
    clear ta tg tn
    go_enter Tryd.func21, Tryd.ntmps21
    go_wp2
    go_ret
    exact ⟨ret_bool (by rw [HX.out]), HB.out⟩
  have HT : Hid (rgB f n = true → sdB 2 out alt arg n f m g = true) := fun h => (sdB_iff 2 out alt arg n f m g).2 ⟨by omega, by omega, by omega, by omega, by omega, by omega, by omega, by omega, by omega, h⟩
  have HN : Hid (rgB f n = false → sdB 2 out alt arg n f m g = false) := fun h => sdB_rg h
  have bta : (alt != 0) = false := by simp [ta]
  have btg : (arg != 0) = false := by simp [tg]
  have btn : (!decide (0 < n)) = false := by simp; omega
  clear ta tg tn
  obtain ⟨W, hW⟩ : ∃ W, W = w.alloc (inX 2 out alt arg a n c) := ⟨_, rfl⟩
  obtain ⟨c0, c1, c2, c3, c4⟩ := inX_cells 2 out alt arg a n c (Below.refl _ (w.alloc (inX 2 out alt arg a n c)))
  rw [← hW] at c0 c1 c2 c3 c4 HB
  have HR : Hid (Rml W a f n) := HR0.out.below HB.out
  have HW : Hid (W = w.alloc (inX 2 out alt arg a n c)) := hW
  have C0 : Hid _ := c0
  have C4 : Hid _ := c4
  obtain ⟨G, hG⟩ : ∃ G, G = w.heap.size := ⟨_, rfl⟩
  have HG : Hid (G = w.heap.size) := hG
  clear hW HR0 c0 c1 c2 c3 c4 hG
  go_enter Tryd.func21, Tryd.ntmps21
  go_wp2_with fail
  rw [← HW.out, ← HG.out]
  rw [← HG.out] at C0 C4
  go_loopw [8] (fun ivv w' => ∃ i : Nat, ivv = .int .i64 (i : Int) ∧ i ≤ n ∧ rgB f i = true ∧ Hid (Below W.heap.size W w')) (fun ivv _ => n - (RowKit.intOf ivv).toNat)
  case atStart => exact ⟨0, rfl, by omega, rfl, Below.refl _ _⟩
  case round =>
    obtain ⟨i, rfl, hi, hrg, hb⟩ := hrel
    have HRG : Hid (rgB f i = true) := hrg
    have c0 := bcell2 hb.out C0.out
    have c4 := bcell2 hb.out C4.out
    clear hrg
    by_cases hlt : i < n
    · have hii : (i : Int) < n := by omega
      obtain ⟨g1, o1, rfl, hg1, x0, x1⟩ := HR.out.at i hlt
      have e0 := bcell2 hb.out x0
      have e1 := bcell2 hb.out x1
      have HOK : Hid (okB f i = true ↔ (0 ≤ (f i).1 ∧ (f i).1 ≤ (f i).2 ∧ (f i).2 ≤ 1114111 ∧ (0 < i → (f (i - 1)).2 < (f i).1))) := by unfold Hid okB; exact decide_eq_true_iff
      have HBad : Hid (okB f i = false → sdB 2 out alt arg n f m g = false) := fun h => HN.out (rgB_bad hlt h)
      have HGo : Hid (okB f i = true → rgB f (i + 1) = true) := fun h => rgB_succ HRG.out h
      have HP : Hid (∀ j, i = j + 1 → wr.cell? ⟨g1, o1 + j * 2 + 1, none⟩ = some (.int .i32 (f (i - 1)).2)) := fun j hj => by
        obtain ⟨g2, o2, e, _, _, y1⟩ := HR.out.at j (by omega)
        cases e
        rw [show i - 1 = j by omega]
        exact bcell2 hb.out y1
      obtain ⟨⟨lo, hi'⟩, hx⟩ : ∃ x, f i = x := ⟨_, rfl⟩
      rw [hx] at e0 e1 HOK
      dsimp only at e0 e1
      obtain ⟨W6, hW6⟩ : ∃ W6, W6 = wr.alloc (.cells #[.int .i32 lo, .int .i32 hi'] 54) := ⟨_, rfl⟩
      have b6 : Below wr.heap.size wr W6 := by rw [hW6]; exact (Below.refl _ wr).alloc (Nat.le_refl _) _
      have n6 : W6.heap[wr.heap.size]? = some (.cells #[.int .i32 lo, .int .i32 hi'] 54) := by rw [hW6]; exact heap_alloc_new wr _
      have y0 : W6.cell? ⟨wr.heap.size, 0, none⟩ = some (.int .i32 lo) := by unfold World.cell?; rw [n6]; rfl
      have y1 : W6.cell? ⟨wr.heap.size, 1, none⟩ = some (.int .i32 hi') := by unfold World.cell?; rw [n6]; rfl
      have d4 := bcell2 b6 c4
      have HP6 : Hid (∀ j, i = j + 1 → W6.cell? ⟨g1, o1 + j * 2 + 1, none⟩ = some (.int .i32 (f (i - 1)).2)) := fun j hj => bcell2 b6 (HP.out j hj)
      have HB6 : Hid (∀ q, Below W.heap.size W (W6.drewN q)) := fun q => below_drewN (hb.out.trans (b6.mono hb.out.size)) q
      have HW6 : Hid (W6 = wr.alloc (.cells #[.int .i32 lo, .int .i32 hi'] 54)) := hW6
      obtain ⟨Xb, hXb⟩ : ∃ Xb, Xb = wr.heap.size := ⟨_, rfl⟩
      have HXb : Hid (Xb = wr.heap.size) := hXb
      rw [← hXb] at y0 y1
      have HF : Hid (∀ q, Below w.heap.size w (W6.drewN q)) := fun q => HB.out.trans ((HB6.out q).mono HB.out.size)
      have HI : Hid (i < n) := hlt
      clear hx x0 x1 hW6 b6 n6 hXb HP hb
      generalize (f (i - 1)).2 = pv at *
      by_cases k1 : lo < 0
      · have HX : Hid _ := HBad.out (by cases h : okB f i with | false => rfl | true => have := HOK.out.1 h; dsimp only at this; omega)
        clear HOK HBad HGo HP6
        go_wp2_with fail
        rw [← HW6.out, ← HXb.out]
        go_big_quiet (fail)
        go_wp2
        go_ret
        exact ⟨ret_bool (by rw [HX.out]), HF.out _⟩
      have d1 : decide (lo < 0) = false := decide_eq_false k1
      by_cases k2 : hi' < lo
      · have d2 : decide (hi' < lo) = true := decide_eq_true k2
        have HX : Hid _ := HBad.out (by cases h : okB f i with | false => rfl | true => have := HOK.out.1 h; dsimp only at this; omega)
        clear HOK HBad HGo HP6
        go_wp2_with fail
        rw [← HW6.out, ← HXb.out]
        go_big_quiet (fail)
        go_wp2
        go_ret
        exact ⟨ret_bool (by rw [HX.out]), HF.out _⟩
      have d2 : decide (hi' < lo) = false := decide_eq_false k2
      by_cases k3 : 1114111 < hi'
      · have d3 : decide (1114111 < hi') = true := decide_eq_true k3
        have HX : Hid _ := HBad.out (by cases h : okB f i with | false => rfl | true => have := HOK.out.1 h; dsimp only at this; omega)
        clear HOK HBad HGo HP6
        go_wp2_with fail
        rw [← HW6.out, ← HXb.out]
        go_big_quiet (fail)
        go_wp2
        go_ret
        exact ⟨ret_bool (by rw [HX.out]), HF.out _⟩
      have d3 : decide (1114111 < hi') = false := decide_eq_false k3
      by_cases k4 : 0 < i
      · obtain ⟨j, rfl⟩ : ∃ j, i = j + 1 := ⟨i - 1, by omega⟩
        have p1 := HP6.out j rfl
        have d4 : decide (0 < ((j + 1 : Nat) : Int)) = true := decide_eq_true (by omega)
        have d5 : decide (0 < (j : Int) + 1) = true := decide_eq_true (by omega)
        by_cases k5 : lo ≤ pv
        · have d6 : decide (lo ≤ pv) = true := decide_eq_true k5
          have HX : Hid _ := HBad.out (by cases h : okB f (j + 1) with | false => rfl | true => have := HOK.out.1 h; dsimp only at this; omega)
          clear HOK HBad HGo HP6
          go_wp2_with fail
          rw [← HW6.out, ← HXb.out]
          go_big_quiet (fail)
          go_wp2
          go_ret
          exact ⟨ret_bool (by rw [HX.out]), HF.out _⟩
        · have d6 : decide (lo ≤ pv) = false := decide_eq_false k5
          have HX : Hid _ := HGo.out (HOK.out.2 (by dsimp only; omega))
          clear HOK HBad HGo HP6
          go_wp2_with fail
          rw [← HW6.out, ← HXb.out]
          go_big_quiet (fail)
          go_wp2
          exact ⟨⟨j + 2, by go_num, HI.out, HX.out, HB6.out _⟩, by simp [RowKit.intOf]; omega⟩
      · have d4 : decide (0 < i) = false := decide_eq_false k4
        have HX : Hid _ := HGo.out (HOK.out.2 (by dsimp only; omega))
        clear HOK HBad HGo HP6
        go_wp2_with fail
        rw [← HW6.out, ← HXb.out]
        go_big_quiet (fail)
        go_wp2
        exact ⟨⟨i + 1, by go_num, HI.out, HX.out, HB6.out _⟩, by simp [RowKit.intOf]; omega⟩
    · have hii : ¬ (i : Int) < n := by omega
      obtain rfl : i = n := by omega
      have HX : Hid _ := HT.out HRG.out
      go_wp2
      go_ret
      exact ⟨ret_bool (by rw [HX.out]), HB.out.trans (hb.out.mono HB.out.size)⟩
end Go.Proofs.YtnpgkiidpeaapaaDoor
