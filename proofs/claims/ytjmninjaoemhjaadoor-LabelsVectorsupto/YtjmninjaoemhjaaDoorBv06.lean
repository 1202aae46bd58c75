/- A bundle of texts. -/
import Derived.Test.YtjmninjaoemhjaaDoorBv05
import Derived.Shelf.SlLaysF0
import Derived.Shelf.SlGeneric
import Derived.Test.YtjmninjaoemhjaaDoorProg
/- Labels: lists against lists. -/
namespace Go.Proofs.YtjmninjaoemhjaaDoor
open Go.RowKit

set_option maxHeartbeats 2000000 in
theorem compareFunc_any (a b : Option Addr) (n m c d : Nat) (f g : Nat → Lb) (w : World) (ha : Lm w a f n) (hb : Lm w b g m) (hn : n ≤ 1152921504606846976) (_hm : m ≤ 1152921504606846976) :
    Calls Tryd.prog 25 #[.slice a n c, .slice b m d, .func (.func 26) #[] #[]] w fun e w' => e = .returned (.int .i64 (cm f n g m)) ∧ Below w.heap.size w w' := by
  have HA : Hid (Lm w a f n) := ha
  have HB : Hid (Lm w b g m) := hb
  obtain ⟨G, hG⟩ : ∃ G, G = w.heap.size := ⟨_, rfl⟩
  have HG : Hid (G = w.heap.size) := hG
  rw [← hG]
  obtain ⟨C, hC⟩ : ∃ C, C = cm f n g m := ⟨_, rfl⟩
  have HC : Hid (cmF f g m (n - 0) 0 = C) := hC.symm
  rw [← hC]
  clear ha hb hG hC
  go_enter Tryd.func25, Tryd.ntmps25
  go_wp2
  go_loopw [13] (fun t w' => ∃ i : Nat, t = .int .i64 (i : Int) ∧ i ≤ n ∧ (i = 0 ∨ i ≤ m) ∧ Hid (cmF f g m (n - i) i = C) ∧ Hid (Below G w w')) (fun t _ => n - (RowKit.intOf t).toNat)
  case atStart => exact ⟨0, rfl, by omega, .inl rfl, HC, Below.refl _ _⟩
  case round =>
    obtain ⟨i, rfl, hi, him0, HI, HW⟩ := hrel
    by_cases hlt : i < n
    · have hii : (i : Int) < n := by omega
      have hb1 : 0 ≤ (i : Int) ∧ (i : Int) < (n : Int) := by omega
      obtain ⟨g1, p1, rfl, _, x0, x1⟩ := HA.out.at i hlt
      have hb' : Below w.heap.size w wr := HG.out ▸ HW.out
      have e0 := bcell2 hb' x0
      have e1 := bcell2 hb' x1
      by_cases hmm : i < m
      · have him : ¬ (m : Int) ≤ i := by omega
        have hb2 : 0 ≤ (i : Int) ∧ (i : Int) < (m : Int) := by omega
        obtain ⟨g2, p2, rfl, hg2, y0, y1⟩ := HB.out.at i hmm
        obtain ⟨x, hx⟩ : ∃ x, f i = x := ⟨_, rfl⟩
        obtain ⟨y, hy⟩ : ∃ y, g i = y := ⟨_, rfl⟩
        have ba : Below wr.heap.size wr (wr.alloc (lbX x)) := (Below.refl _ _).alloc (Nat.le_refl _) _
        have d0 := bcell2 ba (bcell2 hb' y0)
        have d1 := bcell2 ba (bcell2 hb' y1)
        rw [hx] at e0 e1
        rw [hy] at d0 d1
        have k := compareLabels_any x y ((wr.alloc (lbX x)).alloc (lbX y))
        have HO : Hid (o2 (f i) (g i) = o2 x y) := by unfold Hid; rw [hx, hy]
        have HBB : Hid (∀ w2, Below ((wr.alloc (lbX x)).alloc (lbX y)).heap.size ((wr.alloc (lbX x)).alloc (lbX y)) w2 → Below G w w2) := fun w2 b2 => by
          have b3 : Below wr.heap.size wr ((wr.alloc (lbX x)).alloc (lbX y)) := ba.alloc (by simp) _
          have b4 : Below wr.heap.size wr w2 := b3.trans (b2.mono b3.size)
          have hs := hb'.size
          rw [HG.out]
          exact hb'.trans (b4.mono hs)
        clear hx hy x0 x1 y0 y1 hb' ba
        obtain ⟨s1, s2⟩ := x
        obtain ⟨t1, t2⟩ := y
        dsimp only at e0 e1 d0 d1
        by_cases hz : o2 (s1, s2) (t1, t2) = 0
        · rw [hz] at k
          have HC2 : Hid (cmF f g m (n - (i + 1)) (i + 1) = C) := by
            unfold Hid
            rw [← cmF_eq hlt hmm (HO.out.trans hz)]
            exact HI.out
          clear hz HO
          go_wp2_with fail
          go_fit k
          rintro e w2 ⟨rfl, b2⟩
          have HN : Hid (Below G w w2) := HBB.out w2 b2
          clear k b2 HBB
          go_wp2
          exact ⟨⟨i + 1, by go_num, by omega, .inr (by omega), HC2, HN⟩, by simp [RowKit.intOf]; omega⟩
        · have HC2 : Hid (C = o2 (s1, s2) (t1, t2)) := by
            unfold Hid
            rw [← HO.out, ← HI.out]
            exact cmF_ne hlt hmm (fun h => hz (HO.out ▸ h))
          generalize o2 (s1, s2) (t1, t2) = Z at *
          have hz1 : (Z != 0) = true := by simpa using hz
          clear HO
          go_wp2_with fail
          go_fit k
          rintro e w2 ⟨rfl, b2⟩
          have HN : Hid (Below G w w2) := HBB.out w2 b2
          clear k b2 HBB
          go_wp2
          go_ret
          exact ⟨by rw [HC2.out]; rfl, HN.out⟩
      · have him : (m : Int) ≤ i := by omega
        have HE : Hid (C = 1) := by unfold Hid; rw [← HI.out]; exact cmF_out hlt hmm
        obtain ⟨⟨s1, s2⟩, hx⟩ : ∃ x, f i = x := ⟨_, rfl⟩
        rw [hx] at e0 e1
        dsimp only at e0 e1
        have HN : Hid (Below G w (wr.alloc (lbX (s1, s2)))) := by
          have hs := hb'.size
          unfold Hid
          rw [HG.out]
          exact hb'.trans (((Below.refl _ wr).alloc (Nat.le_refl _) _).mono hs)
        clear hx x0 x1 hb'
        go_wp2
        go_ret
        exact ⟨by rw [HE.out]; rfl, HN.out⟩
    · have hii : ¬ (i : Int) < n := by omega
      obtain rfl : i = n := by omega
      have HE : Hid (C = if i < m then -1 else 0) := by unfold Hid; rw [← HI.out]; exact cmF_end rfl
      by_cases hmm : i < m
      · have h2 : (i : Int) < (m : Int) := by omega
        rw [if_pos hmm] at HE
        go_wp2
        go_ret
        exact ⟨by rw [HE.out]; rfl, HW.out⟩
      · have h2 : ¬ (i : Int) < (m : Int) := by omega
        rw [if_neg hmm] at HE
        go_wp2
        go_ret
        exact ⟨by rw [HE.out]; rfl, HW.out⟩
theorem compareList_any (a b : Option Addr) (n m c d : Nat) (f g : Nat → Lb) (w : World) (ha : Lm w a f n) (hb : Lm w b g m) (hn : n ≤ 1152921504606846976) (hm : m ≤ 1152921504606846976) :
    Calls Tryd.prog 8 #[.slice a n c, .slice b m d] w fun e w' => e = .returned (.int .i64 (cm f n g m)) ∧ Below w.heap.size w w' := by
  have k := compareFunc_any a b n m c d f g w ha hb hn hm
  generalize cm f n g m = C at *
  clear ha hb
  go_enter Tryd.func8, Tryd.ntmps8
  go_wp2_with fail
  go_fit k
  rintro e w2 ⟨rfl, b2⟩
  have H2 : Hid _ := b2
  clear k b2
  go_wp2
  go_ret
  exact ⟨rfl, H2.out⟩
end Go.Proofs.YtjmninjaoemhjaaDoor
/- Labels: one list against another, as a sort wants it. -/
namespace Go.Proofs.YtjmninjaoemhjaaDoor
open Go.RowKit Go.Lib Go.Shelf Go.Sort

/-- New blocks and draws, and nothing else. -/
def Gr (w w' : World) : Prop := ∃ q os', w' = grow (w.drewN q) os'
theorem Gr.refl (w : World) : Gr w w := ⟨0, #[], (grow_empty _).symm⟩
theorem Gr.alloc {w w' : World} (h : Gr w w') (o : Obj) : Gr w (w'.alloc o) := by
  obtain ⟨q, os, rfl⟩ := h
  exact ⟨q, _, by rw [alloc_eq_grow, grow_grow]⟩
theorem Gr.drew {w w' : World} (h : Gr w w') : Gr w w'.drew := by
  obtain ⟨q, os, rfl⟩ := h
  exact ⟨q + 1, os, rfl⟩
theorem Gr.drewN {w w' : World} (h : Gr w w') (k : Nat) : Gr w (w'.drewN k) := by
  obtain ⟨q, os, rfl⟩ := h
  refine ⟨q + k, os, ?_⟩
  show World.drewN (grow (w.drewN q) os) k = grow (w.drewN (q + k)) os
  have e : w.drewN (q + k) = (w.drewN q).drewN k := by simp [World.drewN, Nat.add_assoc]
  rw [e]
  rfl
theorem Gr.trans {w w' w2 : World} (h : Gr w w') (k : Gr w' w2) : Gr w w2 := by
  obtain ⟨q, os, rfl⟩ := k
  obtain ⟨q2, os2, h2⟩ := h.drewN q
  exact ⟨q2, _, by rw [h2, grow_grow]⟩
theorem Gr.below {w w' : World} (h : Gr w w') : Below w.heap.size w w' := by
  obtain ⟨q, os, rfl⟩ := h
  exact ⟨rfl, rfl, rfl, by simp, fun k hk => heap_grow_old _ _ (by simpa using hk)⟩

set_option maxHeartbeats 4000000 in
theorem compareLabels_gr (x y : Lb) (w : World) : Calls Tryd.prog 26 #[lbV x, lbV y] w fun e w' => e = .returned (.int .i64 (o2 x y)) ∧ Gr w w' := by
  obtain ⟨x1, x2⟩ := x
  obtain ⟨y1, y2⟩ := y
  have K1 : Hid (∀ W, Calls Tryd.prog 52 #[.string x1, .string y1] W fun e w' => e = .returned (.int .i64 (od x1 y1)) ∧ w' = W) := fun W => compare_any x1 y1 W
  have K2 : Hid (∀ W, Calls Tryd.prog 52 #[.string x2, .string y2] W fun e w' => e = .returned (.int .i64 (od x2 y2)) ∧ w' = W) := fun W => compare_any x2 y2 W
  show Calls Tryd.prog 26 _ _ fun e w' => e = .returned (.int .i64 (if od x1 y1 = 0 then od x2 y2 else od x1 y1)) ∧ _
  generalize od x1 y1 = C at *
  generalize od x2 y2 = D at *
  obtain ⟨E, hE⟩ : ∃ E, E = if C = 0 then D else C := ⟨_, rfl⟩
  rw [← hE]
  have K3 : Hid (∀ (W : World) (g : Nat), g = W.heap.size → Calls Tryd.prog 51 #[.slice (some ⟨g, 0, none⟩) 2 2] (W.alloc (.cells #[.int .i64 C, .int .i64 D] 3)).drew fun e w' => e = .returned (.int .i64 E) ∧ w' = (W.alloc (.cells #[.int .i64 C, .int .i64 D] 3)).drew) := fun W g hg => by
    subst hg
    have e : ((W.alloc (.cells #[.int .i64 C, .int .i64 D] 3)).drew).heap[W.heap.size]? = some (.cells #[.int .i64 C, .int .i64 D] 3) := heap_alloc_new W _
    rw [hE]
    exact or_two _ C D _ (by unfold World.cell?; rw [e]; rfl) (by unfold World.cell?; rw [e]; rfl)
  have HB : Hid (Gr w ((w.alloc (lbX (x1, x2))).alloc (lbX (y1, y2)))) := ((Gr.refl w).alloc _).alloc _
  have h1 : (w.alloc (lbX (x1, x2))).heap[w.heap.size]? = some (lbX (x1, x2)) := heap_alloc_new w _
  have h2 : ((w.alloc (lbX (x1, x2))).alloc (lbX (y1, y2))).heap[w.heap.size + 1]? = some (lbX (y1, y2)) := by have := heap_alloc_new (w.alloc (lbX (x1, x2))) (lbX (y1, y2)); simpa using this
  have b1 : Below (w.alloc (lbX (x1, x2))).heap.size (w.alloc (lbX (x1, x2))) ((w.alloc (lbX (x1, x2))).alloc (lbX (y1, y2))) := (Below.refl _ _).alloc (Nat.le_refl _) _
  have c0 : ((w.alloc (lbX (x1, x2))).alloc (lbX (y1, y2))).cell? ⟨w.heap.size, 0, none⟩ = some (.string x1) := bcell2 b1 (by unfold World.cell?; rw [h1]; rfl)
  have c1 : ((w.alloc (lbX (x1, x2))).alloc (lbX (y1, y2))).cell? ⟨w.heap.size, 1, none⟩ = some (.string x2) := bcell2 b1 (by unfold World.cell?; rw [h1]; rfl)
  have d0 : ((w.alloc (lbX (x1, x2))).alloc (lbX (y1, y2))).cell? ⟨w.heap.size + 1, 0, none⟩ = some (.string y1) := by unfold World.cell?; rw [h2]; rfl
  have d1 : ((w.alloc (lbX (x1, x2))).alloc (lbX (y1, y2))).cell? ⟨w.heap.size + 1, 1, none⟩ = some (.string y2) := by unfold World.cell?; rw [h2]; rfl
  have hsz : ((w.alloc (lbX (x1, x2))).alloc (lbX (y1, y2))).heap.size = w.heap.size + 2 := by simp
  clear hE h1 h2 b1
  go_enter Tryd.func26, Tryd.ntmps26
  go_wp2_with fail
  generalize hWW : (w.alloc (lbX (x1, x2))).alloc (lbX (y1, y2)) = W at *
  have bb : Below W.heap.size W (W.alloc (.cells #[.int .i64 C, .int .i64 D] 3)).drew := ((Below.refl _ W).alloc (Nat.le_refl _) _).drew
  have HF : Hid (Gr w (W.alloc (.cells #[.int .i64 C, .int .i64 D] 3)).drew) := (HB.out.alloc _).drew
  have HS : Hid ((W.alloc (.cells #[.int .i64 C, .int .i64 D] 3)).drew.cell? ⟨w.heap.size, 0, none⟩ = some (.string x1) ∧ (W.alloc (.cells #[.int .i64 C, .int .i64 D] 3)).drew.cell? ⟨w.heap.size, 1, none⟩ = some (.string x2) ∧ (W.alloc (.cells #[.int .i64 C, .int .i64 D] 3)).drew.cell? ⟨w.heap.size + 1, 0, none⟩ = some (.string y1) ∧ (W.alloc (.cells #[.int .i64 C, .int .i64 D] 3)).drew.cell? ⟨w.heap.size + 1, 1, none⟩ = some (.string y2)) := ⟨bcell2 bb c0, bcell2 bb c1, bcell2 bb d0, bcell2 bb d1⟩
  have k3 := K3.out W W.heap.size rfl
  clear bb HB hWW hsz K3
  go_region_held3 (fun w' => w'.cell? ⟨w.heap.size, 0, none⟩ = some (.string x1) ∧ w'.cell? ⟨w.heap.size, 1, none⟩ = some (.string x2) ∧ w'.cell? ⟨w.heap.size + 1, 0, none⟩ = some (.string y1) ∧ w'.cell? ⟨w.heap.size + 1, 1, none⟩ = some (.string y2)) (first | exact ⟨c0, c1, d0, d1⟩ | exact HS.out) (first | (go_at_call 52; go_fit (K1.out _); rintro e w1 ⟨rfl, rfl⟩) | (go_at_call 52; go_fit (K2.out _); rintro e w1 ⟨rfl, rfl⟩) | (go_at_call 51; go_fit k3; rintro e w1 ⟨rfl, rfl⟩))
  go_wp2
  go_ret
  exact ⟨rfl, HF.out⟩
set_option maxHeartbeats 2000000 in
theorem compareFunc_gr (a b : Option Addr) (n m c d : Nat) (f g : Nat → Lb) (w : World) (ha : Lm w a f n) (hb : Lm w b g m) (hn : n ≤ 1152921504606846976) (_hm : m ≤ 1152921504606846976) :
    Calls Tryd.prog 25 #[.slice a n c, .slice b m d, .func (.func 26) #[] #[]] w fun e w' => e = .returned (.int .i64 (cm f n g m)) ∧ Gr w w' := by
  have HA : Hid (Lm w a f n) := ha
  have HB : Hid (Lm w b g m) := hb
  obtain ⟨C, hC⟩ : ∃ C, C = cm f n g m := ⟨_, rfl⟩
  have HC : Hid (cmF f g m (n - 0) 0 = C) := hC.symm
  rw [← hC]
  clear ha hb hC
  go_enter Tryd.func25, Tryd.ntmps25
  go_wp2
  go_loopw [13] (fun t w' => ∃ i : Nat, t = .int .i64 (i : Int) ∧ i ≤ n ∧ (i = 0 ∨ i ≤ m) ∧ Hid (cmF f g m (n - i) i = C) ∧ Hid (Gr w w')) (fun t _ => n - (RowKit.intOf t).toNat)
  case atStart => exact ⟨0, rfl, by omega, .inl rfl, HC, Gr.refl _⟩
  case round =>
    obtain ⟨i, rfl, hi, him0, HI, HW⟩ := hrel
    by_cases hlt : i < n
    · have hii : (i : Int) < n := by omega
      have hb1 : 0 ≤ (i : Int) ∧ (i : Int) < (n : Int) := by omega
      obtain ⟨g1, p1, rfl, _, x0, x1⟩ := HA.out.at i hlt
      have hb' : Below w.heap.size w wr := HW.out.below
      have e0 := bcell2 hb' x0
      have e1 := bcell2 hb' x1
      by_cases hmm : i < m
      · have him : ¬ (m : Int) ≤ i := by omega
        have hb2 : 0 ≤ (i : Int) ∧ (i : Int) < (m : Int) := by omega
        obtain ⟨g2, p2, rfl, hg2, y0, y1⟩ := HB.out.at i hmm
        obtain ⟨x, hx⟩ : ∃ x, f i = x := ⟨_, rfl⟩
        obtain ⟨y, hy⟩ : ∃ y, g i = y := ⟨_, rfl⟩
        have ba : Below wr.heap.size wr (wr.alloc (lbX x)) := (Below.refl _ _).alloc (Nat.le_refl _) _
        have d0 := bcell2 ba (bcell2 hb' y0)
        have d1 := bcell2 ba (bcell2 hb' y1)
        rw [hx] at e0 e1
        rw [hy] at d0 d1
        have k := compareLabels_gr x y ((wr.alloc (lbX x)).alloc (lbX y))
        have HO : Hid (o2 (f i) (g i) = o2 x y) := by unfold Hid; rw [hx, hy]
        have HBB : Hid (∀ w2, Gr ((wr.alloc (lbX x)).alloc (lbX y)) w2 → Gr w w2) := (show ∀ w2, _ → _ from fun w2 b2 => ((HW.out.alloc _).alloc _).trans b2)
        clear hx hy x0 x1 y0 y1 hb' ba
        obtain ⟨s1, s2⟩ := x
        obtain ⟨t1, t2⟩ := y
        dsimp only at e0 e1 d0 d1
        by_cases hz : o2 (s1, s2) (t1, t2) = 0
        · rw [hz] at k
          have HC2 : Hid (cmF f g m (n - (i + 1)) (i + 1) = C) := by
            unfold Hid
            rw [← cmF_eq hlt hmm (HO.out.trans hz)]
            exact HI.out
          clear hz HO
          go_wp2_with fail
          go_fit k
          rintro e w2 ⟨rfl, b2⟩
          have HN : Hid (Gr w w2) := HBB.out w2 b2
          clear k b2 HBB
          go_wp2
          exact ⟨⟨i + 1, by go_num, by omega, .inr (by omega), HC2, HN⟩, by simp [RowKit.intOf]; omega⟩
        · have HC2 : Hid (C = o2 (s1, s2) (t1, t2)) := by
            unfold Hid
            rw [← HO.out, ← HI.out]
            exact cmF_ne hlt hmm (fun h => hz (HO.out ▸ h))
          generalize o2 (s1, s2) (t1, t2) = Z at *
          have hz1 : (Z != 0) = true := by simpa using hz
          clear HO
          go_wp2_with fail
          go_fit k
          rintro e w2 ⟨rfl, b2⟩
          have HN : Hid (Gr w w2) := HBB.out w2 b2
          clear k b2 HBB
          go_wp2
          go_ret
          exact ⟨by rw [HC2.out]; rfl, HN.out⟩
      · have him : (m : Int) ≤ i := by omega
        have HE : Hid (C = 1) := by unfold Hid; rw [← HI.out]; exact cmF_out hlt hmm
        obtain ⟨⟨s1, s2⟩, hx⟩ : ∃ x, f i = x := ⟨_, rfl⟩
        rw [hx] at e0 e1
        dsimp only at e0 e1
        have HN : Hid (Gr w (wr.alloc (lbX (s1, s2)))) := HW.out.alloc _
        clear hx x0 x1 hb'
        go_wp2
        go_ret
        exact ⟨by rw [HE.out]; rfl, HN.out⟩
    · have hii : ¬ (i : Int) < n := by omega
      obtain rfl : i = n := by omega
      have HE : Hid (C = if i < m then -1 else 0) := by unfold Hid; rw [← HI.out]; exact cmF_end rfl
      by_cases hmm : i < m
      · have h2 : (i : Int) < (m : Int) := by omega
        rw [if_pos hmm] at HE
        go_wp2
        go_ret
        exact ⟨by rw [HE.out]; rfl, HW.out⟩
      · have h2 : ¬ (i : Int) < (m : Int) := by omega
        rw [if_neg hmm] at HE
        go_wp2
        go_ret
        exact ⟨by rw [HE.out]; rfl, HW.out⟩
theorem compareList_gr (a b : Option Addr) (n m c d : Nat) (f g : Nat → Lb) (w : World) (ha : Lm w a f n) (hb : Lm w b g m) (hn : n ≤ 1152921504606846976) (hm : m ≤ 1152921504606846976) :
    Calls Tryd.prog 8 #[.slice a n c, .slice b m d] w fun e w' => e = .returned (.int .i64 (cm f n g m)) ∧ Gr w w' := by
  have k := compareFunc_gr a b n m c d f g w ha hb hn hm
  generalize cm f n g m = C at *
  clear ha hb
  go_enter Tryd.func8, Tryd.ntmps8
  go_wp2_with fail
  go_fit k
  rintro e w2 ⟨rfl, b2⟩
  have H2 : Hid _ := b2
  clear k b2
  go_wp2
  go_ret
  exact ⟨rfl, H2.out⟩
end Go.Proofs.YtjmninjaoemhjaaDoor
/- The shelf's slices.SortFunc at the elements, in plain words. -/
namespace Go.Proofs
open Go.Shelf
def Tryd.sortEl_ren : Go.Shelf.Ren := ⟨fun | 6 => 41 | 15 => 57 | 14 => 66 | 28 => 82 | 29 => 83 | 20 => 90 | 21 => 91 | 22 => 92 | 23 => 93 | 24 => 94 | 25 => 95 | 26 => 96 | 27 => 97 | 46 => 111 | 47 => 103 | 48 => 104 | 49 => 112 | 50 => 113 | 57 => 125 | n => n, fun | 22 => 40 | 24 => 45 | 25 => 75 | 3 => 3 | 39 => 85 | 0 => 0 | 53 => 107 | 55 => 109 | 4 => 4 | 46 => 101 | 45 => 100 | 50 => 91 | 5 => 5 | 9 => 9 | 66 => 121 | 70 => 125 | 76 => 133 | 77 => 134 | n => n, fun | n => n⟩
theorem Tryd.sortEl : Go.Proofs.SlLaysF0.n6 Tryd.prog Tryd.sortEl_ren := {
  mixed := by kernel_rfl
  f6 := ⟨Tryd.f41.name, by decide, Tryd.func41.trans (congrArg some (by kernel_rfl))⟩
  f14 := ⟨Tryd.f66.name, by decide, Tryd.func66.trans (congrArg some (by kernel_rfl))⟩
  f15 := Tryd.func57.trans (congrArg some (by kernel_rfl))
  f20 := ⟨Tryd.f90.name, by decide, Tryd.func90.trans (congrArg some (by kernel_rfl))⟩
  f21 := ⟨Tryd.f91.name, by decide, Tryd.func91.trans (congrArg some (by kernel_rfl))⟩
  f22 := ⟨Tryd.f92.name, by decide, Tryd.func92.trans (congrArg some (by kernel_rfl))⟩
  f23 := ⟨Tryd.f93.name, by decide, Tryd.func93.trans (congrArg some (by kernel_rfl))⟩
  f24 := ⟨Tryd.f94.name, by decide, Tryd.func94.trans (congrArg some (by kernel_rfl))⟩
  f25 := ⟨Tryd.f95.name, by decide, Tryd.func95.trans (congrArg some (by kernel_rfl))⟩
  f26 := ⟨Tryd.f96.name, by decide, Tryd.func96.trans (congrArg some (by kernel_rfl))⟩
  f27 := ⟨Tryd.f97.name, by decide, Tryd.func97.trans (congrArg some (by kernel_rfl))⟩
  f28 := Tryd.func82.trans (congrArg some (by kernel_rfl))
  f29 := Tryd.func83.trans (congrArg some (by kernel_rfl))
  f46 := ⟨Tryd.f111.name, by decide, Tryd.func111.trans (congrArg some (by kernel_rfl))⟩
  f47 := Tryd.func103.trans (congrArg some (by kernel_rfl))
  f48 := Tryd.func104.trans (congrArg some (by kernel_rfl))
  f49 := ⟨Tryd.f112.name, by decide, Tryd.func112.trans (congrArg some (by kernel_rfl))⟩
  f50 := ⟨Tryd.f113.name, by decide, Tryd.func113.trans (congrArg some (by kernel_rfl))⟩
  f57 := ⟨Tryd.f125.name, by decide, Tryd.func125.trans (congrArg some (by kernel_rfl))⟩
  t0 := Tryd.underlying0
  a0 := Tryd.isAgg0
  z0 := Tryd.sizeOf0
  v0 := Tryd.zeroValue0
  t3 := Tryd.underlying3
  a3 := Tryd.isAgg3
  z3 := Tryd.sizeOf3
  v3 := Tryd.zeroValue3
  t4 := Tryd.underlying4
  a4 := Tryd.isAgg4
  z4 := Tryd.sizeOf4
  v4 := Tryd.zeroValue4
  t5 := Tryd.underlying5
  a5 := Tryd.isAgg5
  z5 := Tryd.sizeOf5
  v5 := Tryd.zeroValue5
  t9 := Tryd.underlying9
  a9 := Tryd.isAgg9
  z9 := Tryd.sizeOf9
  v9 := Tryd.zeroValue9
  t22 := Tryd.underlying40
  a22 := Tryd.isAgg40
  z22 := Tryd.sizeOf40
  v22 := Tryd.zeroValue40
  t25 := Tryd.underlying75
  a25 := Tryd.isAgg75
  z25 := Tryd.sizeOf75
  v25 := Tryd.zeroValue75
  t39 := Tryd.underlying85
  a39 := Tryd.isAgg85
  z39 := Tryd.sizeOf85
  v39 := Tryd.zeroValue85
  t45 := Tryd.underlying100
  a45 := Tryd.isAgg100
  z45 := Tryd.sizeOf100
  v45 := Tryd.zeroValue100
  t46 := Tryd.underlying101
  a46 := Tryd.isAgg101
  z46 := Tryd.sizeOf101
  v46 := Tryd.zeroValue101
  t50 := Tryd.underlying91
  a50 := Tryd.isAgg91
  z50 := Tryd.sizeOf91
  v50 := Tryd.zeroValue91
  t53 := Tryd.underlying107
  a53 := Tryd.isAgg107
  z53 := Tryd.sizeOf107
  v53 := Tryd.zeroValue107
  t55 := Tryd.underlying109
  a55 := Tryd.isAgg109
  z55 := Tryd.sizeOf109
  v55 := Tryd.zeroValue109
  t66 := Tryd.underlying121
  a66 := Tryd.isAgg121
  z66 := Tryd.sizeOf121
  v66 := Tryd.zeroValue121
  t70 := Tryd.underlying125
  a70 := Tryd.isAgg125
  z70 := Tryd.sizeOf125
  v70 := Tryd.zeroValue125
  t76 := Tryd.underlying133
  a76 := Tryd.isAgg133
  z76 := Tryd.sizeOf133
  v76 := Tryd.zeroValue133
  t77 := Tryd.underlying134
  a77 := Tryd.isAgg134
  z77 := Tryd.sizeOf134
  v77 := Tryd.zeroValue134 }
end Go.Proofs
