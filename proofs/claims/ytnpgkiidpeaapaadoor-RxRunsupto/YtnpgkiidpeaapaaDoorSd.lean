/- RxprogSounds: isSound. -/
import Derived.Test.YtnpgkiidpeaapaaDoorSb
import Derived.Test.YtnpgkiidpeaapaaDoorSc
namespace Go.Proofs.YtnpgkiidpeaapaaDoor
open Go.RowKit

theorem inX_cells {w W : World} (op out alt arg : Int) (a : Option Addr) (n c : Nat) (h : Below (w.alloc (inX op out alt arg a n c)).heap.size (w.alloc (inX op out alt arg a n c)) W) :
    W.cell? ⟨w.heap.size, 0, none⟩ = some (.int .i64 op) ∧ W.cell? ⟨w.heap.size, 1, none⟩ = some (.int .i64 out) ∧ W.cell? ⟨w.heap.size, 2, none⟩ = some (.int .i64 alt) ∧ W.cell? ⟨w.heap.size, 3, none⟩ = some (.int .i64 arg) ∧ W.cell? ⟨w.heap.size, 4, none⟩ = some (.slice a n c) := by
  have e : (w.alloc (inX op out alt arg a n c)).heap[w.heap.size]? = some (inX op out alt arg a n c) := heap_alloc_new w _
  refine ⟨bcell2 h ?_, bcell2 h ?_, bcell2 h ?_, bcell2 h ?_, bcell2 h ?_⟩
  all_goals
    unfold World.cell?
    rw [e]
    rfl
theorem alloc_lt (w : World) (o : Obj) : w.heap.size ≤ (w.alloc o).heap.size := by simp

set_option maxHeartbeats 1000000 in
set_option maxRecDepth 100000 in
theorem isSound_any (op out alt arg : Int) (a : Option Addr) (n c : Nat) (f : Nat → Rg) (m g : Int) (w : World) (hR : Rml w a f n) (hn : n ≤ 1152921504606846976) (hg0 : 0 ≤ g) (hg1 : g ≤ 100) :
    Calls Tryd.prog 18 #[inV op out alt arg a n c, .int .i64 m, .int .i64 g] w fun r w' => r = .returned (.bool (sdB op out alt arg n f m g)) ∧ Below w.heap.size w w' := by
  have HB : Hid (Below w.heap.size w (w.alloc (inX op out alt arg a n c))) := (Below.refl _ w).alloc (Nat.le_refl _) _
  have HE : Hid (sdB op out alt arg n f m g = (decide (1 ≤ op) && decide (op ≤ 11) && spB op out alt m && saB op arg g && srB op n f)) := by unfold Hid sdB; rw [Bool.decide_and]
  have HK : Hid (∀ W, Below (w.alloc (inX op out alt arg a n c)).heap.size (w.alloc (inX op out alt arg a n c)) W → W.cell? ⟨w.heap.size, 0, none⟩ = some (.int .i64 op) ∧ W.cell? ⟨w.heap.size, 1, none⟩ = some (.int .i64 out) ∧ W.cell? ⟨w.heap.size, 2, none⟩ = some (.int .i64 alt) ∧ W.cell? ⟨w.heap.size, 3, none⟩ = some (.int .i64 arg) ∧ W.cell? ⟨w.heap.size, 4, none⟩ = some (.slice a n c)) := fun W h => inX_cells op out alt arg a n c h
  have kP := fun W => places_any op out alt arg a n c m W
  have kA := fun W => arg_any op out alt arg a n c g W hg0 hg1
  have kR := fun W (h : Below (w.alloc (inX op out alt arg a n c)).heap.size (w.alloc (inX op out alt arg a n c)) W) => ranges_any op out alt arg a n c f W (hR.below (HB.out.trans (h.mono (alloc_lt _ _)))) hn
  have HF : Hid (∀ W, Below (w.alloc (inX op out alt arg a n c)).heap.size (w.alloc (inX op out alt arg a n c)) W → Below w.heap.size w W) := fun W h => HB.out.trans (h.mono (alloc_lt _ _))
  clear hR
  by_cases h1 : 1 ≤ op
  · by_cases h2 : op ≤ 11
    · have e1 : decide (1 ≤ op) = true := decide_eq_true h1
      have e2 : decide (op ≤ 11) = true := decide_eq_true h2
      rw [e1, e2] at HE
      clear e1 e2
      cases hp : spB op out alt m
      · rw [hp] at HE
        simp only [hp] at kP
        go_enter Tryd.func18, Tryd.ntmps18
        go_wp2_with fail
        go_fit (kP _)
        rintro r w1 ⟨rfl, b1⟩
        have B1 : Hid _ := b1
        clear b1
        go_wp2
        go_ret
        exact ⟨ret_bool (by rw [HE.out]; rfl), HF.out _ B1.out⟩
      · cases ha : saB op arg g
        · rw [hp, ha] at HE
          simp only [hp] at kP
          simp only [ha] at kA
          go_enter Tryd.func18, Tryd.ntmps18
          go_wp2_with fail
          go_fit (kP _)
          rintro r w1 ⟨rfl, b1⟩
          have B1 : Hid _ := b1
          obtain ⟨c0, c1, c2, c3, c4⟩ := HK.out w1 b1
          clear b1
          go_wp2_with fail
          go_fit (kA _)
          rintro r w2 ⟨rfl, b2⟩
          have B2 : Hid _ := B1.out.trans (b2.mono B1.out.size)
          clear b2 c0 c1 c2 c3 c4
          go_wp2
          go_ret
          exact ⟨ret_bool (by rw [HE.out]; rfl), HF.out _ B2.out⟩
        · rw [hp, ha] at HE
          simp only [hp] at kP
          simp only [ha] at kA
          cases hs : srB op n f
          all_goals
            rw [hs] at HE
            simp only [hs] at kR
            go_enter Tryd.func18, Tryd.ntmps18
            go_wp2_with fail
            go_fit (kP _)
            rintro r w1 ⟨rfl, b1⟩
            have B1 : Hid _ := b1
            obtain ⟨c0, c1, c2, c3, c4⟩ := HK.out w1 b1
            clear b1
            go_wp2_with fail
            go_fit (kA _)
            rintro r w2 ⟨rfl, b2⟩
            have B2 : Hid _ := B1.out.trans (b2.mono B1.out.size)
            have kR2 := kR w2 B2.out
            obtain ⟨d0, d1, d2, d3, d4⟩ := HK.out w2 B2.out
            clear b2 c0 c1 c2 c3 c4 kR
            go_wp2_with fail
            go_fit kR2
            rintro r w3 ⟨rfl, b3⟩
            have B3 : Hid _ := B2.out.trans (b3.mono B2.out.size)
            clear b3 d0 d1 d2 d3 d4 kR2
            go_wp2
            go_ret
            exact ⟨ret_bool (by rw [HE.out]; rfl), HF.out _ B3.out⟩
    · have e2 : decide (op ≤ 11) = false := decide_eq_false h2
      rw [e2] at HE
      clear kP kA kR e2
      go_enter Tryd.func18, Tryd.ntmps18
      go_wp2
      go_ret
      exact ⟨ret_bool (by rw [HE.out]; simp), HB.out⟩
  · have e1 : decide (1 ≤ op) = false := decide_eq_false h1
    rw [e1] at HE
    clear kP kA kR e1
    go_enter Tryd.func18, Tryd.ntmps18
    go_wp2
    go_ret
    exact ⟨ret_bool (by rw [HE.out]; simp), HB.out⟩
end Go.Proofs.YtnpgkiidpeaapaaDoor
