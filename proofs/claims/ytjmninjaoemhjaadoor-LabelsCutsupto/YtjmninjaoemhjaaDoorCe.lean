/- Labels: the reference's Compare; same. -/
import Derived.Test.YtjmninjaoemhjaaDoorCb
namespace Go.Proofs.YtjmninjaoemhjaaDoor
open Go.RowKit

theorem dr_step {w W : World} (h : ∃ q, W = w.drewN q) (k : Nat) : ∃ q, W.drewN k = w.drewN q := by
  obtain ⟨q, e⟩ := h
  exact ⟨q + k, by rw [e, World.drewN_drewN]⟩
theorem dr_below {w W : World} (h : ∃ q, W = w.drewN q) : Below w.heap.size w W := by
  obtain ⟨q, e⟩ := h
  rw [e]
  exact below_drewN (Below.refl _ _) _
set_option maxHeartbeats 4000000 in
set_option maxRecDepth 100000 in
theorem rcompare_any (a b : Option Addr) (n m c d : Nat) (f g : Nat → Lb) (w : World) (ha : Lm w a f n) (hb : Lm w b g m) (hn : n ≤ 1152921504606846976) (hm : m ≤ 1152921504606846976) :
    Calls Tryd.prog 45 #[.slice a n c, .slice b m d] w fun e w' => e = .returned (.int .i64 (cm f n g m)) ∧ Below w.heap.size w w' := by
  have HA : Hid (Lm w a f n) := ha
  have HB : Hid (Lm w b g m) := hb
  obtain ⟨G, hG⟩ : ∃ G, G = w.heap.size := ⟨_, rfl⟩
  have HG : Hid (G = w.heap.size) := hG
  rw [← hG]
  obtain ⟨C, hC⟩ : ∃ C, C = cm f n g m := ⟨_, rfl⟩
  have HC : Hid (cmF f g m (n - 0) 0 = C) := hC.symm
  rw [← hC]
  clear ha hb hG hC
  go_enter Tryd.func45, Tryd.ntmps45
  go_wp2
  go_loopw [5] (fun t w' => ∃ i : Nat, t = .int .i64 (i : Int) ∧ i ≤ n ∧ i ≤ m ∧ Hid (cmF f g m (n - i) i = C) ∧ Hid (∃ k, w' = w.drewN k)) (fun t _ => n - (RowKit.intOf t).toNat)
  case atStart => exact ⟨0, rfl, by omega, by omega, HC, ⟨0, rfl⟩⟩
  case round =>
    obtain ⟨i, rfl, hi, him, HI, HW⟩ := hrel
    have HBW : Hid (∀ k, Below G w (wr.drewN k)) := fun k => by
      obtain ⟨q, e⟩ := HW.out
      rw [e, World.drewN_drewN]
      exact below_drewN (Below.refl _ _) _
    have HDW : Hid (∀ k, ∃ q, wr.drewN k = w.drewN q) := fun k => by
      obtain ⟨q, e⟩ := HW.out
      exact ⟨q + k, by rw [e, World.drewN_drewN]⟩
    by_cases hlt : i < n
    · have hii : (i : Int) < n := by omega
      have hb1 : 0 ≤ (i : Int) ∧ (i : Int) < (n : Int) := by omega
      by_cases hmm : i < m
      · have hjj : (i : Int) < m := by omega
        have hb2 : 0 ≤ (i : Int) ∧ (i : Int) < (m : Int) := by omega
        obtain ⟨g1, p1, rfl, _, x0, x1⟩ := HA.out.at i hlt
        obtain ⟨g2, p2, rfl, _, y0, y1⟩ := HB.out.at i hmm
        have hb' : Below w.heap.size w wr := HG.out ▸ HBW.out 0
        have e0 := bcell2 hb' x0
        have e1 := bcell2 hb' x1
        have d0 := bcell2 hb' y0
        have d1 := bcell2 hb' y1
        obtain ⟨⟨s1, s2⟩, hx⟩ : ∃ x, f i = x := ⟨_, rfl⟩
        obtain ⟨⟨t1, t2⟩, hy⟩ : ∃ y, g i = y := ⟨_, rfl⟩
        rw [hx] at e0 e1
        rw [hy] at d0 d1
        dsimp only at e0 e1 d0 d1
        have HO : Hid (o2 (f i) (g i) = if od s1 t1 = 0 then od s2 t2 else od s1 t1) := by unfold Hid; rw [hx, hy]; rfl
        have K1 : Hid (∀ (q : Nat) (W : World), Calls Tryd.prog 67 #[.string s1, .string t1] (W.drewN q) fun e w' => e = .returned (.int .i64 (od s1 t1)) ∧ ∃ k, w' = (W.drewN q).drewN k) := fun q W => (order_any s1 t1 _).mono fun e w' ⟨h1, h2⟩ => ⟨h1, 0, h2⟩
        have K2 : Hid (∀ (q : Nat) (W : World), Calls Tryd.prog 67 #[.string s2, .string t2] (W.drewN q) fun e w' => e = .returned (.int .i64 (od s2 t2)) ∧ ∃ k, w' = (W.drewN q).drewN k) := fun q W => (order_any s2 t2 _).mono fun e w' ⟨h1, h2⟩ => ⟨h1, 0, h2⟩
        generalize od s1 t1 = Z1 at *
        generalize od s2 t2 = Z2 at *
        clear hx hy x0 x1 y0 y1 hb'
        by_cases hz : Z1 = 0
        · subst hz
          rw [if_pos rfl] at HO
          by_cases hz2 : Z2 = 0
          · subst hz2
            have HC2 : Hid (cmF f g m (n - (i + 1)) (i + 1) = C) := by
              unfold Hid
              rw [← cmF_eq hlt hmm HO.out]
              exact HI.out
            go_wp2_with fail
            go_quiet ((go_at_call 67; exact Calls.quiet_of (K1.out _ _)))
            have f1 : (wr.drewN nq).cell? ⟨g1, p1 + i * 2 + 1, none⟩ = some (.string s2) := e1
            have f2 : (wr.drewN nq).cell? ⟨g2, p2 + i * 2 + 1, none⟩ = some (.string t2) := d1
            have HD2 : Hid (∃ q, wr.drewN nq = w.drewN q) := HDW.out _
            have HG2 : Hid (G = w.heap.size) := HG
            clear e0 e1 d0 d1 HBW HDW HW
            generalize wr.drewN nq = W2 at *
            go_wp2_with fail
            go_quiet ((go_at_call 67; exact Calls.quiet_of (K2.out _ _)))
            go_wp2
            exact ⟨⟨i + 1, by go_num, by omega, by omega, HC2, dr_step HD2.out _⟩, by simp [RowKit.intOf]; omega⟩
          · have HC2 : Hid (C = Z2) := by
              unfold Hid
              rw [← HO.out, ← HI.out]
              exact cmF_ne hlt hmm (fun h => hz2 (HO.out ▸ h))
            have hz1 : (Z2 != 0) = true := by simpa using hz2
            go_wp2_with fail
            go_quiet ((go_at_call 67; exact Calls.quiet_of (K1.out _ _)))
            have f1 : (wr.drewN nq).cell? ⟨g1, p1 + i * 2 + 1, none⟩ = some (.string s2) := e1
            have f2 : (wr.drewN nq).cell? ⟨g2, p2 + i * 2 + 1, none⟩ = some (.string t2) := d1
            have HD2 : Hid (∃ q, wr.drewN nq = w.drewN q) := HDW.out _
            have HG2 : Hid (G = w.heap.size) := HG
            clear e0 e1 d0 d1 HBW HDW HW
            generalize wr.drewN nq = W2 at *
            go_wp2_with fail
            go_quiet ((go_at_call 67; exact Calls.quiet_of (K2.out _ _)))
            go_wp2
            go_ret
            exact ⟨by rw [HC2.out]; rfl, by rw [HG2.out]; exact dr_below (dr_step HD2.out _)⟩
        · rw [if_neg hz] at HO
          have HC2 : Hid (C = Z1) := by
            unfold Hid
            rw [← HO.out, ← HI.out]
            exact cmF_ne hlt hmm (fun h => hz (HO.out ▸ h))
          have hz1 : (Z1 != 0) = true := by simpa using hz
          have hz0 : (Z1 == 0) = false := by simpa using hz
          go_wp2_with fail
          go_quiet ((go_at_call 67; exact Calls.quiet_of (K1.out _ _)))
          go_wp2
          go_ret
          exact ⟨by rw [HC2.out]; rfl, HBW.out _⟩
      · have hjj : ¬ (i : Int) < m := by omega
        have HE : Hid (C = 1) := by unfold Hid; rw [← HI.out]; exact cmF_out hlt hmm
        have h3 : ¬ (n : Int) < (m : Int) := by omega
        have h4 : (m : Int) < (n : Int) := by omega
        go_wp2
        go_ret
        exact ⟨by rw [HE.out]; rfl, HBW.out 0⟩
    · have hii : ¬ (i : Int) < n := by omega
      obtain rfl : i = n := by omega
      have HE : Hid (C = if i < m then -1 else 0) := by unfold Hid; rw [← HI.out]; exact cmF_end rfl
      by_cases hmm : i < m
      · have h2 : (i : Int) < (m : Int) := by omega
        rw [if_pos hmm] at HE
        go_wp2
        go_ret
        exact ⟨by rw [HE.out]; rfl, HBW.out 0⟩
      · have h2 : ¬ (i : Int) < (m : Int) := by omega
        have h3 : ¬ (m : Int) < (i : Int) := by omega
        rw [if_neg hmm] at HE
        go_wp2
        go_ret
        exact ⟨by rw [HE.out]; rfl, HBW.out 0⟩
theorem eqLb (x y : Lb) (w : World) : (Op.equalIn 10000 26 (lbV x) (lbV y)).run Tryd.prog w = .ok (x.1.toList == y.1.toList && x.2.toList == y.2.toList) w := by
  obtain ⟨a, b⟩ := x
  obtain ⟨c, d⟩ := y
  have u3 := Tryd.underlying9
  have a3 := Tryd.isAgg9
  have z3 := Tryd.sizeOf9
  have hS : Tryd.prog.underlying 26 = some (.struct (Tryd.prog.fieldsOf 26)) := by kernel_rfl
  rw [show (10000 : Nat) = 9999 + 1 from rfl, run_equalIn_agg w 9999 26 _ _ hS (by kernel_rfl)]
  simp only [Program.fieldsOf, Tryd.underlying26]
  go_simp
  by_cases h1 : a.toList = c.toList <;> by_cases h2 : b.toList = d.toList <;> simp [h1, h2]
theorem ne_lb (x : Lb) (w : World) : (binOp .neq 26 (lbV x) (lbV x)).run Tryd.prog w = .ok (.bool false) w := by
  rw [run_neq_struct, eqLb]
  simp
set_option maxHeartbeats 2000000 in
set_option maxRecDepth 100000 in
theorem same_true (a b : Option Addr) (c d n : Nat) (xs : Nat → Lb) (w : World) (ha : Lm w a xs n) (hb : Lm w b xs n) (hn : n ≤ 1152921504606846976) :
    Calls Tryd.prog 9 #[.slice a n c, .slice b n d] w fun r w' => r = .returned (.bool true) ∧ Below w.heap.size w w' := by
  have hN := fun a b => ne_lb (a, b)
  have HA : Hid (Lm w a xs n) := ha
  have HB : Hid (Lm w b xs n) := hb
  obtain ⟨G, hG⟩ : ∃ G, G = w.heap.size := ⟨_, rfl⟩
  have HG : Hid (G = w.heap.size) := hG
  rw [← hG]
  clear ha hb hG
  go_enter Tryd.func9, Tryd.ntmps9
  go_wp2
  go_loopw [13] (fun ivv w' => ∃ i : Nat, ivv = .int .i64 (i : Int) ∧ i ≤ n ∧ Hid (Below G w w')) (fun ivv _ => n - (RowKit.intOf ivv).toNat)
  case atStart => exact ⟨0, rfl, by omega, Below.refl _ _⟩
  case round =>
    obtain ⟨i, rfl, hi, hb⟩ := hrel
    by_cases hlt : i < n
    · have hii : (i : Int) < n := by omega
      obtain ⟨g1, o1, rfl, _, x0, x1⟩ := HA.out.at i hlt
      obtain ⟨g2, o2, rfl, _, y0, y1⟩ := HB.out.at i hlt
      have hb' : Below w.heap.size w wr := HG.out ▸ hb.out
      have e0 := bcell2 hb' x0
      have e1 := bcell2 hb' x1
      have e2 := bcell2 hb' y0
      have e3 := bcell2 hb' y1
      obtain ⟨⟨xk, xi⟩, hx⟩ : ∃ x, xs i = x := ⟨_, rfl⟩
      rw [hx] at e0 e1 e2 e3
      dsimp only at e0 e1 e2 e3
      have HB2 : Hid (∀ m, Below G w (wr.drewN m)) := fun m => below_drewN hb.out m
      clear hx x0 x1 y0 y1 hb hb'
      go_wp2_with fail
      go_big_quiet (fail)
      have HB3 : Hid _ := HB2.out nq
      generalize wr.drewN nq = W6 at *
      go_wp2
      exact ⟨⟨i + 1, by go_num, by omega, HB3⟩, by simp [RowKit.intOf]; omega⟩
    · have hii : ¬ (i : Int) < n := by omega
      go_wp2
      go_ret
      exact ⟨rfl, hb.out⟩
end Go.Proofs.YtjmninjaoemhjaaDoor
