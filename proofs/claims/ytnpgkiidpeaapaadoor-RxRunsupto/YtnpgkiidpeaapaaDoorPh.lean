/- holds; inside. -/
import Derived.Test.YtnpgkiidpeaapaaDoorPg
namespace Go.Proofs.YtnpgkiidpeaapaaDoor
open Go.RowKit

set_option maxHeartbeats 4000000 in
set_option maxRecDepth 100000 in
theorem holds_any (a : Option Addr) (n c : Nat) (f : Nat → Rg) (r : Int) (w : World) (hR : Rml w a f n) (hn : n ≤ 1152921504606846976) (hg : rgB f n = true) :
    Calls Tryd.prog 38 #[.slice a n c, .int .i32 r] w fun e w' => e = .returned (.bool (inB r f n)) ∧ Below w.heap.size w w' := by
  obtain ⟨W, hW⟩ : ∃ W, W = (w.alloc (.cells #[.slice a n c] 23)).alloc (.cells #[.int .i32 r] 21) := ⟨_, rfl⟩
  have hB : Below w.heap.size w W := by rw [hW]; exact ((Below.refl _ _).alloc (Nat.le_refl _) _).alloc (by simp) _
  have hsz : W.heap.size = w.heap.size + 2 := by rw [hW]; simp
  have cs : W.cell? ⟨w.heap.size, 0, none⟩ = some (.slice a n c) := by
    rw [hW]
    refine cell_al _ ?_
    unfold World.cell?
    rw [show (w.alloc (.cells #[.slice a n c] 23)).heap[w.heap.size]? = some (.cells #[.slice a n c] 23) from heap_alloc_new w _]
    rfl
  have cr : W.cell? ⟨w.heap.size + 1, 0, none⟩ = some (.int .i32 r) := by
    rw [hW]
    unfold World.cell?
    have e : (w.alloc (.cells #[.slice a n c] 23)).heap.size = w.heap.size + 1 := by simp
    rw [← e, show ((w.alloc (.cells #[.slice a n c] 23)).alloc (.cells #[.int .i32 r] 21)).heap[(w.alloc (.cells #[.slice a n c] 23)).heap.size]? = some (.cells #[.int .i32 r] 21) from heap_alloc_new _ _]
    rfl
  have hRW := hR.below hB
  have kS := search_any #[.pointer (some ⟨w.heap.size + 1, 0, none⟩), .pointer (some ⟨w.heap.size, 0, none⟩)] n (fun k => decide (r ≤ (f k).2)) W (fun _ _ => rfl) hn
    (fun V i hb hi => hold1_any V (w.heap.size + 1) w.heap.size a n c f r i hi (hRW.below hb) (bcell2 hb cr) (bcell2 hb cs))
    (fun p q hpq hq hp => by
      rw [decide_eq_true_iff] at hp ⊢
      by_cases e : p = q
      · rw [← e]; exact hp
      · have h1 := rgB_rise hg p q (by omega) hq
        have h2 := rgB_ok hg q hq
        omega)
  have HW : Hid (W = (w.alloc (.cells #[.slice a n c] 23)).alloc (.cells #[.int .i32 r] 21)) := hW
  have HG : Hid (rgB f n = true) := hg
  clear hW hg hR
  go_enter Tryd.func38, Tryd.ntmps38
  go_wp2_with fail
  rw [← HW.out]
  go_fit kS
  rintro e w1 ⟨k, rfl, hk, h1, h2, hb1⟩
  have c1 := bcell2 hb1 cs
  have c2 := bcell2 hb1 cr
  have HR : Hid (inB r f n = (decide (k < n) && decide ((f k).1 ≤ r))) := hold_is HG.out hk h1 h2
  have hBw : Below w.heap.size w w1 := hB.trans (hb1.mono hB.size)
  clear h1 h2 kS cs cr
  by_cases hkn : k < n
  · obtain ⟨g, o, rfl, _, q0, _⟩ := (hRW.below hb1).at k hkn
    have hki : (k : Int) < (n : Int) := by omega
    have HR2 : Hid (inB r f n = decide ((f k).1 ≤ r)) := by show _ = _; rw [HR.out, decide_eq_true hkn]; rfl
    clear hRW HR
    generalize (f k).1 = y at *
    go_wp2_with fail
    go_region
    all_goals go_wp2
    all_goals go_ret
    all_goals exact ⟨ret_bool (by rw [HR2.out]), hBw.drew⟩
  · have hki : ¬ (k : Int) < (n : Int) := by omega
    have hkd : decide ((k : Int) < (n : Int)) = false := by simpa using hki
    have HR2 : Hid (inB r f n = false) := by show _ = _; rw [HR.out, decide_eq_false hkn]; rfl
    clear hRW HR
    go_wp2_with fail
    go_quiet (fail)
    go_wp2
    go_ret
    exact ⟨ret_bool (by rw [HR2.out]), below_drewN hBw nq⟩

set_option maxHeartbeats 2000000 in
set_option maxRecDepth 100000 in
theorem inside_any (a : Option Addr) (n c : Nat) (f : Nat → Rg) (r : Int) (w : World) (hR : Rml w a f n) (hn : n ≤ 1152921504606846976) :
    Calls Tryd.prog 15 #[.int .i32 r, .slice a n c] w fun e w' => e = .returned (.bool (inB r f n)) ∧ Below w.heap.size w w' := by
  have HR : Hid (Rml w a f n) := hR
  clear hR
  go_enter Tryd.func15, Tryd.ntmps15
  go_wp2
  go_loopw [5] (fun t W => ∃ j : Nat, t = .int .i64 (j : Int) ∧ j ≤ n ∧ Hid (inB r f j = false) ∧ Below w.heap.size w W) (fun t _ => n - (RowKit.intOf t).toNat)
  case atStart => exact ⟨0, rfl, Nat.zero_le _, rfl, Below.refl _ _⟩
  case round =>
    obtain ⟨j, rfl, hj, hf, hbw⟩ := hrel
    by_cases hlt : j < n
    · have hji : (j : Int) < (n : Int) := by omega
      obtain ⟨g, o, rfl, _, q0, q1⟩ := (HR.out.below hbw).at j hlt
      by_cases h1 : (f j).1 ≤ r
      · by_cases h2 : r ≤ (f j).2
        · have HT : Hid (inB r f n = true) := (inB_iff r f n).2 ⟨j, hlt, h1, h2⟩
          generalize (f j).1 = y at *
          generalize (f j).2 = z at *
          go_wp2
          go_ret
          exact ⟨ret_bool (by rw [HT.out]), hbw⟩
        · have HT : Hid (inB r f (j + 1) = false) := by
            show (inB r f j || _) = false
            rw [hf.out, decide_eq_false (fun h => h2 h.2)]
            rfl
          generalize (f j).1 = y at *
          generalize (f j).2 = z at *
          go_wp2
          exact ⟨⟨j + 1, by go_num, by omega, HT, hbw⟩, by simp [RowKit.intOf]; omega⟩
      · have HT : Hid (inB r f (j + 1) = false) := by
          show (inB r f j || _) = false
          rw [hf.out, decide_eq_false (fun h => h1 h.1)]
          rfl
        generalize (f j).1 = y at *
        go_wp2
        exact ⟨⟨j + 1, by go_num, by omega, HT, hbw⟩, by simp [RowKit.intOf]; omega⟩
    · obtain rfl : j = n := by omega
      have hji : ¬ (j : Int) < (j : Int) := by omega
      go_wp2
      go_ret
      exact ⟨ret_bool (by rw [hf.out]), hbw⟩
end Go.Proofs.YtnpgkiidpeaapaaDoor
