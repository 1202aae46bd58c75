/- Labels: lists against lists. -/
import Derived.Test.YtjmninjaoemhjaaDoorCc
namespace Go.Proofs.YtjmninjaoemhjaaDoor
open Go.RowKit

set_option maxHeartbeats 2000000 in
theorem compareFunc_any (a b : Option Addr) (n m c d : Nat) (f g : Nat → Lb) (w : World) (ha : Lm w a f n) (hb : Lm w b g m) (hn : n ≤ 1152921504606846976) (_hm : m ≤ 1152921504606846976) :
    Calls Tryd.prog 25 #[.slice a n c, .slice b m d, .func (.func 26) #[] #[]] w fun e w' => e = .returned (.int .i64 (cm f n g m)) ∧ Below w.heap.size w w' := by
  have HA : Hid (Lm w a f n) := ha
  have HB : Hid (Lm w b g m) := hb
  obtain ⟨G, hG⟩ : ∃ G, G = w.heap.size := ⟨_, rfl⟩
  have HG : Hid (G = w.heap.size) := hG
  rw [← hG]
  obtain ⟨C, hC⟩ : ∃ C, C = cm f n g m := ⟨_, rfl⟩
  have HC : Hid (cmF f g m (n - 0) 0 = C) := hC.symm
  rw [← hC]
  clear ha hb hG hC
  go_enter Tryd.func25, Tryd.ntmps25
  go_wp2
  go_loopw [13] (fun t w' => ∃ i : Nat, t = .int .i64 (i : Int) ∧ i ≤ n ∧ (i = 0 ∨ i ≤ m) ∧ Hid (cmF f g m (n - i) i = C) ∧ Hid (Below G w w')) (fun t _ => n - (RowKit.intOf t).toNat)
  case atStart => exact ⟨0, rfl, by omega, .inl rfl, HC, Below.refl _ _⟩
  case round =>
    obtain ⟨i, rfl, hi, him0, HI, HW⟩ := hrel
    by_cases hlt : i < n
    · have hii : (i : Int) < n := by omega
      have hb1 : 0 ≤ (i : Int) ∧ (i : Int) < (n : Int) := by omega
      obtain ⟨g1, p1, rfl, _, x0, x1⟩ := HA.out.at i hlt
      have hb' : Below w.heap.size w wr := HG.out ▸ HW.out
      have e0 := bcell2 hb' x0
      have e1 := bcell2 hb' x1
      by_cases hmm : i < m
      · have him : ¬ (m : Int) ≤ i := by omega
        have hb2 : 0 ≤ (i : Int) ∧ (i : Int) < (m : Int) := by omega
        obtain ⟨g2, p2, rfl, hg2, y0, y1⟩ := HB.out.at i hmm
        obtain ⟨x, hx⟩ : ∃ x, f i = x := ⟨_, rfl⟩
        obtain ⟨y, hy⟩ : ∃ y, g i = y := ⟨_, rfl⟩
        have ba : Below wr.heap.size wr (wr.alloc (lbX x)) := (Below.refl _ _).alloc (Nat.le_refl _) _
        have d0 := bcell2 ba (bcell2 hb' y0)
        have d1 := bcell2 ba (bcell2 hb' y1)
        rw [hx] at e0 e1
        rw [hy] at d0 d1
        have k := compareLabels_any x y ((wr.alloc (lbX x)).alloc (lbX y))
        have HO : Hid (o2 (f i) (g i) = o2 x y) := by unfold Hid; rw [hx, hy]
        have HBB : Hid (∀ w2, Below ((wr.alloc (lbX x)).alloc (lbX y)).heap.size ((wr.alloc (lbX x)).alloc (lbX y)) w2 → Below G w w2) := fun w2 b2 => by
          have b3 : Below wr.heap.size wr ((wr.alloc (lbX x)).alloc (lbX y)) := ba.alloc (by simp) _
          have b4 : Below wr.heap.size wr w2 := b3.trans (b2.mono b3.size)
          have hs := hb'.size
          rw [HG.out]
          exact hb'.trans (b4.mono hs)
        clear hx hy x0 x1 y0 y1 hb' ba
        obtain ⟨s1, s2⟩ := x
        obtain ⟨t1, t2⟩ := y
        dsimp only at e0 e1 d0 d1
        by_cases hz : o2 (s1, s2) (t1, t2) = 0
        · rw [hz] at k
          have HC2 : Hid (cmF f g m (n - (i + 1)) (i + 1) = C) := by
            unfold Hid
            rw [← cmF_eq hlt hmm (HO.out.trans hz)]
            exact HI.out
          clear hz HO
          go_wp2_with fail
          go_fit k
          rintro e w2 ⟨rfl, b2⟩
          have HN : Hid (Below G w w2) := HBB.out w2 b2
          clear k b2 HBB
          go_wp2
          exact ⟨⟨i + 1, by go_num, by omega, .inr (by omega), HC2, HN⟩, by simp [RowKit.intOf]; omega⟩
        · have HC2 : Hid (C = o2 (s1, s2) (t1, t2)) := by
            unfold Hid
            rw [← HO.out, ← HI.out]
            exact cmF_ne hlt hmm (fun h => hz (HO.out ▸ h))
          generalize o2 (s1, s2) (t1, t2) = Z at *
          have hz1 : (Z != 0) = true := by simpa using hz
          clear HO
          go_wp2_with fail
          go_fit k
          rintro e w2 ⟨rfl, b2⟩
          have HN : Hid (Below G w w2) := HBB.out w2 b2
          clear k b2 HBB
          go_wp2
          go_ret
          exact ⟨by rw [HC2.out]; rfl, HN.out⟩
      · have him : (m : Int) ≤ i := by omega
        have HE : Hid (C = 1) := by unfold Hid; rw [← HI.out]; exact cmF_out hlt hmm
        obtain ⟨⟨s1, s2⟩, hx⟩ : ∃ x, f i = x := ⟨_, rfl⟩
        rw [hx] at e0 e1
        dsimp only at e0 e1
        have HN : Hid (Below G w (wr.alloc (lbX (s1, s2)))) := by
          have hs := hb'.size
          unfold Hid
          rw [HG.out]
          exact hb'.trans (((Below.refl _ wr).alloc (Nat.le_refl _) _).mono hs)
        clear hx x0 x1 hb'
        go_wp2
        go_ret
        exact ⟨by rw [HE.out]; rfl, HN.out⟩
    · have hii : ¬ (i : Int) < n := by omega
      obtain rfl : i = n := by omega
      have HE : Hid (C = if i < m then -1 else 0) := by unfold Hid; rw [← HI.out]; exact cmF_end rfl
      by_cases hmm : i < m
      · have h2 : (i : Int) < (m : Int) := by omega
        rw [if_pos hmm] at HE
        go_wp2
        go_ret
        exact ⟨by rw [HE.out]; rfl, HW.out⟩
      · have h2 : ¬ (i : Int) < (m : Int) := by omega
        rw [if_neg hmm] at HE
        go_wp2
        go_ret
        exact ⟨by rw [HE.out]; rfl, HW.out⟩
theorem compareList_any (a b : Option Addr) (n m c d : Nat) (f g : Nat → Lb) (w : World) (ha : Lm w a f n) (hb : Lm w b g m) (hn : n ≤ 1152921504606846976) (hm : m ≤ 1152921504606846976) :
    Calls Tryd.prog 8 #[.slice a n c, .slice b m d] w fun e w' => e = .returned (.int .i64 (cm f n g m)) ∧ Below w.heap.size w w' := by
  have k := compareFunc_any a b n m c d f g w ha hb hn hm
  generalize cm f n g m = C at *
  clear ha hb
  go_enter Tryd.func8, Tryd.ntmps8
  go_wp2_with fail
  go_fit k
  rintro e w2 ⟨rfl, b2⟩
  have H2 : Hid _ := b2
  clear k b2
  go_wp2
  go_ret
  exact ⟨rfl, H2.out⟩
end Go.Proofs.YtjmninjaoemhjaaDoor
