/- RxprogSounds: hasSoundRanges. -/
import Derived.Test.YtnpgkiidpeaapaaDoorSa
namespace Go.Proofs.YtnpgkiidpeaapaaDoor
open Go.RowKit

set_option maxHeartbeats 1000000 in
set_option maxRecDepth 100000 in
theorem ranges_any (op out alt arg : Int) (a : Option Addr) (n c : Nat) (f : Nat → Rg) (w : World) (hR : Rml w a f n) (hn : n ≤ 1152921504606846976) :
    Calls Tryd.prog 27 #[inV op out alt arg a n c] w fun r w' => r = .returned (.bool (srB op n f)) ∧ Below w.heap.size w w' := by
  have HB : Hid (Below w.heap.size w (w.alloc (inX op out alt arg a n c))) := (Below.refl _ w).alloc (Nat.le_refl _) _
  by_cases h2 : op = 2
  · have HE : Hid (srB op n f = (rgB f n && decide (0 < n))) := by unfold Hid srB; rw [if_pos h2]
    subst h2
    obtain ⟨W, hW⟩ : ∃ W, W = w.alloc (inX 2 out alt arg a n c) := ⟨_, rfl⟩
    have hc4 : W.cell? ⟨w.heap.size, 4, none⟩ = some (.slice a n c) := by rw [hW]; unfold World.cell?; rw [show (w.alloc (inX 2 out alt arg a n c)).heap[w.heap.size]? = _ from heap_alloc_new w _]; rfl
    have HW : Hid (W = w.alloc (inX 2 out alt arg a n c)) := hW
    have HBW : Hid (Below w.heap.size w W) := by rw [hW]; exact HB.out
    have HR : Hid (Rml W a f n) := hR.below HBW.out
    have H4 : Hid (W.cell? ⟨w.heap.size, 4, none⟩ = some (.slice a n c)) := hc4
    obtain ⟨G, hG⟩ : ∃ G, G = w.heap.size := ⟨_, rfl⟩
    have HG : Hid (G = w.heap.size) := hG
    clear hR hW hc4 HB hG
    go_enter Tryd.func27, Tryd.ntmps27
    go_wp2_with fail
    rw [← HW.out, ← HG.out]
    go_loopw [3, 16] (fun lst ivv w' => ∃ i : Nat, ivv = .int .i64 (i : Int) ∧ i ≤ n ∧ lst = .int .i32 (leF f i) ∧ rgB f i = true ∧ Hid (Below W.heap.size W w')) (fun _ ivv _ => n - (RowKit.intOf ivv).toNat)
    case atStart => exact ⟨0, rfl, by omega, rfl, rfl, Below.refl _ _⟩
    case round =>
      obtain ⟨i, rfl, hi, rfl, hrg, hb⟩ := hrel
      have HRG : Hid (rgB f i = true) := hrg
      have lb := leF_bd hrg
      by_cases hlt : i < n
      · have hii : (i : Int) < n := by omega
        obtain ⟨g1, o1, rfl, hg1, x0, x1⟩ := HR.out.at i hlt
        have e0 := bcell2 hb.out x0
        have e1 := bcell2 hb.out x1
        have HO := okB_iff hrg
        have HS := leF_succ f i
        obtain ⟨⟨lo, hi'⟩, hx⟩ : ∃ x, f i = x := ⟨_, rfl⟩
        rw [hx] at e0 e1 HO HS
        dsimp only at e0 e1 HO HS
        have HOK : Hid (okB f i = true ↔ (leF f i ≤ lo ∧ lo ≤ hi' ∧ hi' ≤ 1114111)) := HO
        have HSC : Hid (leF f (i + 1) = hi' + 1) := HS
        have HI : Hid (i < n) := hlt
        have HB2 : Hid (∀ v, Below W.heap.size W (wr.alloc v)) := fun v => hb.out.alloc hb.out.size v
        clear hx x0 x1 HO HS hrg
        generalize leF f i = L at *
        by_cases k1 : lo < L
        · go_wp2
          go_ret
          refine ⟨ret_bool (by rw [HE.out, rgB_bad HI.out (by cases h : okB f i with | false => rfl | true => have := HOK.out.1 h; omega)]; rfl), ?_⟩
          exact HBW.out.trans ((HB2.out _).mono HBW.out.size)
        · by_cases k2 : hi' < lo
          · go_wp2
            go_ret
            refine ⟨ret_bool (by rw [HE.out, rgB_bad HI.out (by cases h : okB f i with | false => rfl | true => have := HOK.out.1 h; omega)]; rfl), ?_⟩
            exact HBW.out.trans ((HB2.out _).mono HBW.out.size)
          · by_cases k3 : 1114111 < hi'
            · go_wp2
              go_ret
              refine ⟨ret_bool (by rw [HE.out, rgB_bad HI.out (by cases h : okB f i with | false => rfl | true => have := HOK.out.1 h; omega)]; rfl), ?_⟩
              exact HBW.out.trans ((HB2.out _).mono HBW.out.size)
            · go_wp2
              exact ⟨⟨i + 1, by go_num, by omega, by rw [HSC.out], rgB_succ HRG.out (HOK.out.2 (by omega)), HB2.out _⟩, by simp [RowKit.intOf]; omega⟩
      · have hii : ¬ (i : Int) < n := by omega
        have e4 := bcell2 hb.out H4.out
        rw [← HG.out] at e4
        obtain rfl : i = n := by omega
        by_cases k0 : 0 < (i : Int)
        · go_wp2
          go_ret
          exact ⟨ret_bool (by rw [HE.out, HRG.out]; simp), HBW.out.trans (hb.out.mono HBW.out.size)⟩
        · go_wp2
          go_ret
          exact ⟨ret_bool (by rw [HE.out, HRG.out]; simp), HBW.out.trans (hb.out.mono HBW.out.size)⟩
  · have HE : Hid (srB op n f = ((n : Int) == 0)) := by unfold Hid srB; rw [if_neg h2, Bool.eq_iff_iff]; simp
    have e2 : (op == 2) = false := by simpa using h2
    cases h0 : ((n : Int) == 0)
    all_goals
      rw [h0] at HE
      go_enter Tryd.func27, Tryd.ntmps27
      go_wp2
      go_ret
      exact ⟨ret_bool (by rw [HE.out]), HB.out⟩
end Go.Proofs.YtnpgkiidpeaapaaDoor
