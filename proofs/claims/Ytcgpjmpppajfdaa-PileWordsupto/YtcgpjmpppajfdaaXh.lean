
/- firstOnes. -/
import Derived.Test.YtcgpjmpppajfdaaXm
import Derived.Test.YtcgpjmpppajfdaaXf
import Derived.Test.YtcgpjmpppajfdaaXg
import Derived.Deep.DeepFit
namespace Go.Proofs.Ytcgpjmpppajfdaa.Ws.Rv
open Go.RowKit

set_option maxHeartbeats 4000000 in
set_option maxRecDepth 100000 in
theorem first_any (A : Wk → Wk → Bool) (lw : Value) (f0 : Nat → Wk) (dx k n : Nat) (a : Option Addr) (c : Nat) (xs : Nat → ByteArray) (w : World) (hA : Go.Proofs.Ytcgpjmpppajfdaa.Ws.AhC lw A) (hd : w.cell? ⟨dx, 0, none⟩ = some lw) (hf : Iml w a xs n) (hk : 0 < k) (hkn : k ≤ n) (hl : n * 24 ≤ 140737488355328) :
    Calls Try.prog 47 #[.slice a n c, .int .i64 (k : Int), Go.Proofs.Ytcgpjmpppajfdaa.Ws.av dx] w fun r w' => ∃ g cc, r = .returned (.pointer (some ⟨w.heap.size + 1, 0, none⟩)) ∧ Hp w' (w.heap.size + 1) w.heap.size (dx, lw) (.slice (some ⟨g, 0, none⟩) k cc) k (gF A f0 xs k n) ∧ w.heap.size ≤ g ∧ Below w.heap.size w w' := by
  obtain ⟨G, hG⟩ : ∃ G, G = w.heap.size := ⟨_, rfl⟩
  have HG : Hid (G = w.heap.size) := hG
  have HF : Hid (Iml w a xs n) := hf
  have HA : Hid (Go.Proofs.Ytcgpjmpppajfdaa.Ws.AhC lw A) := hA
  have HL : Hid (n * 24 ≤ 140737488355328) := hl
  have hnb : n ≤ 1152921504606846976 := by omega
  obtain ⟨W0, hW0⟩ : ∃ W0, W0 = (w.alloc (.cells #[Go.Proofs.Ytcgpjmpppajfdaa.Ws.av dx] 89)).alloc (.cells #[av w.heap.size, .slice none 0 0] 123) := ⟨_, rfl⟩
  have b0 : Below w.heap.size w W0 := by rw [hW0]; exact ((Below.refl _ w).alloc (Nat.le_refl _) _).alloc (by simp) _
  have hdl : dx < w.heap.size := World.block_lt_of_cell? w _ hd
  have e0 : W0.heap[w.heap.size]? = some (.cells #[Go.Proofs.Ytcgpjmpppajfdaa.Ws.av dx] 89) := by rw [hW0]; exact (Below.heap_alloc _ _ _ (by simp)).trans (heap_alloc_new w _)
  have e1 : W0.heap[w.heap.size + 1]? = some (.cells #[av w.heap.size, .slice none 0 0] 123) := by
    rw [hW0]
    have := heap_alloc_new (w.alloc (.cells #[Go.Proofs.Ytcgpjmpppajfdaa.Ws.av dx] 89)) (.cells #[av w.heap.size, .slice none 0 0] 123)
    rw [World.size_alloc] at this
    exact this
  have HP0 : Hid (Hp W0 (w.heap.size + 1) w.heap.size (dx, lw) (.slice none 0 0) (mn 0 k) (gF A f0 xs k 0)) := by
    have em : mn 0 k = 0 := if_pos hk
    rw [em]
    refine ⟨?_, ?_, ?_, ⟨?_, ?_⟩, World.ownsRow_nil _ _ _ _, (fun e => by cases e), ⟨(fun e => by cases e), (fun e => by cases e)⟩, ⟨by omega, ?_⟩⟩
    · unfold World.cell?; rw [e1]; rfl
    · unfold World.cell?; rw [e1]; rfl
    · unfold World.frozen?; rw [e1]; rfl
    · unfold World.cell?; rw [e0]; rfl
    · exact (b0.cell (p := ⟨dx, 0, none⟩) hdl).trans hd
    · show w.heap.size + 1 ≠ dx
      omega
  have HB0 : Hid (Below w.heap.size w W0) := b0
  have HW0 : Hid (W0 = (w.alloc (.cells #[Go.Proofs.Ytcgpjmpppajfdaa.Ws.av dx] 89)).alloc (.cells #[av w.heap.size, .slice none 0 0] 123)) := hW0
  have HDL : Hid (dx < G) := by rw [hG]; exact hdl
  rw [← hG] at HP0 HB0 ⊢
  clear hf hA hl hd b0 e0 e1 hW0 hdl hG
  show Calls Try.prog 47 #[.slice a n c, .int .i64 (k : Int), .func (.func 71) #[] #[.pointer (some ⟨dx, 0, none⟩)]] w _
  go_enter Try.func47, Try.ntmps47
  go_wp2
  rw [← HW0.out, ← HG.out]
  go_loopw [16, 8] (fun ivv _ w' => ∃ (i : Nat) (v : Value), ivv = .int .i64 (i : Int) ∧ i ≤ n ∧ Hid (Hp w' (G + 1) G (dx, lw) v (mn i k) (gF A f0 xs k i)) ∧ Hid (∀ g, v.ownBlock = some g → G ≤ g) ∧ Hid (Below G w w')) (fun ivv _ _ => n - (RowKit.intOf ivv).toNat)
  case atStart => exact ⟨0, _, rfl, by omega, HP0, (fun g e => by cases e), HB0⟩
  case round =>
    obtain ⟨i, v, rfl, hi, hp, hv, hb⟩ := hrel
    have hGw : G ≤ wr.heap.size := by rw [HG.out]; exact (HG.out ▸ hb.out).size
    by_cases hlt : i < n
    · have hii : (i : Int) < n := by omega
      have HI : Hid (i + 1 ≤ n) := hlt
      rcases id HF.out with h0 | ⟨g, o, rfl, hg, hat⟩
      · omega
      rw [← HG.out] at hg
      have q1 := (hb.out.cell (p := ⟨g, o + i, none⟩) hg).trans (hat i hlt)
      obtain ⟨xv, hx⟩ : ∃ x, xs i = x := ⟨_, rfl⟩
      rw [hx] at q1
      obtain ⟨W2, hW2⟩ : ∃ W2, W2 = wr.alloc (.cells #[.string xv, .int .i64 (i : Int)] 92) := ⟨_, rfl⟩
      have b2 : Below wr.heap.size wr W2 := by rw [hW2]; exact (Below.refl _ wr).alloc (Nat.le_refl _) _
      have e2 : W2.heap[wr.heap.size]? = some (.cells #[.string xv, .int .i64 (i : Int)] 92) := by
        rw [hW2]
        exact heap_alloc_new wr _
      have hp2 := hp.out.below b2
      have HB2 : Hid (Below G w W2) := hb.out.trans (b2.mono hGw)
      have HW2 : Hid (W2 = wr.alloc (.cells #[.string xv, .int .i64 (i : Int)] 92)) := hW2
      have HX : Hid (xs i = xv) := hx
      have x0 : W2.cell? ⟨wr.heap.size, 0, none⟩ = some (.string xv) := by unfold World.cell?; rw [e2]; rfl
      have x1 : W2.cell? ⟨wr.heap.size, 1, none⟩ = some (.int .i64 (i : Int)) := by unfold World.cell?; rw [e2]; rfl
      have hs2 : wr.heap.size < W2.heap.size := World.block_lt_of_cell? W2 _ x0
      by_cases hik : i < k
      · have hiki : (i : Int) < k := by omega
        have em : mn i k = i := if_pos hik
        have em2 : mn (i + 1) k = i + 1 := by unfold mn; split <;> omega
        rw [em] at hp2
        have hgf : gF A f0 xs k (i + 1) = riseF (fun x y => A y x) (up (gF A f0 xs k i) i (xv, (i : Int))) i := by rw [gF, if_pos hik, hx]
        have kP := push_any (fun x y => A y x) (G + 1) G i (dx, lw) v _ (xv, (i : Int)) _ (turned HA.out dx) hp2 (by have := HL.out; omega)
        rw [← hgf] at kP
        have HE2 : Hid (mn (i + 1) k = i + 1) := em2
        obtain ⟨FF, hFF⟩ : ∃ FF, FF = gF A f0 xs k (i + 1) := ⟨_, rfl⟩
        have HFF : Hid (FF = gF A f0 xs k (i + 1)) := hFF
        rw [← hFF] at kP
        clear hat hx hW2 b2 e2 hp hp2 hb hik em em2 hgf x0 x1 hs2 hFF
        rw [HW2.out] at kP
        go_wp2_with fail
        go_fit kP
        rintro r w3 ⟨rfl, g3, c3, p3, k3, hg3, _⟩
        have P3 : Hid _ := p3
        have K3 : Hid _ := k3
        have G3 : Hid _ := hg3
        clear p3 k3 hg3 kP
        go_wp2
        have BL : Below G w w3 := HB2.out.trans (by
          rw [HW2.out]
          exact K3.out.below (by simp; omega) (fun j hj e => by
            rcases e with e | e
            · omega
            · have := hv.out j e
              omega))
        refine ⟨⟨i + 1, _, by go_num, HI.out, by rw [HE2.out, ← HFF.out]; exact P3, fun j e => ?_, BL⟩, by simp [RowKit.intOf]; omega⟩
        have e' : g3 = j := Option.some.inj e
        rcases G3.out with h | h
        · exact e' ▸ hv.out g3 h
        · simp at h; omega
      · have hiki : ¬ (i : Int) < k := by omega
        have em : mn i k = k := if_neg hik
        have em2 : mn (i + 1) k = k := if_neg (by omega)
        obtain ⟨p, hpk⟩ : ∃ p, k = p + 1 := ⟨k - 1, by omega⟩
        rw [em.trans hpk] at hp2
        obtain ⟨g4, c4, ev⟩ : ∃ g c, v = .slice (some ⟨g, 0, none⟩) (p + 1) c := by
          rcases hp2.row.2 with ⟨_, e⟩ | ⟨g, c, _, e, _⟩
          · omega
          · exact ⟨g, c, e⟩
        rw [ev] at hp2
        have HV : Hid (G ≤ g4) := hv.out g4 (by rw [ev]; rfl)
        have r4 : Rr W2 g4 c4 (p + 1) (gF A f0 xs k i) := hp2.row
        have y0 := r4.c0 0 (by omega)
        have y1 := r4.c1 0 (by omega)
        simp only [Nat.zero_mul, Nat.zero_add] at y0 y1
        have cl := hp2.ls
        have cb := hp2.bxc.1
        have cd := hp2.bxc.2
        have hY : gF A f0 xs k (i + 1) = if A (xv, (i : Int)) (gF A f0 xs k i 0) = true then sinkF (fun x y => A y x) k (up (gF A f0 xs k i) 0 (xv, (i : Int))) 0 else gF A f0 xs k i := by rw [gF, if_neg hik, hx]
        have HY : Hid _ := hY
        have HP2 : Hid (Hp W2 (G + 1) G (dx, lw) (.slice (some ⟨g4, 0, none⟩) (p + 1) c4) (p + 1) (gF A f0 xs k i)) := hp2
        have kO := fun W hW => HA.out W dx hW (xv, (i : Int)) (gF A f0 xs k i 0)
        have HE2 : Hid (mn (i + 1) k = p + 1) := em2.trans hpk
        have HPK : Hid (k = p + 1) := hpk
        obtain ⟨FF, hFF⟩ : ∃ FF, FF = gF A f0 xs k (i + 1) := ⟨_, rfl⟩
        have HFF : Hid (FF = gF A f0 xs k (i + 1)) := hFF
        rw [← hFF] at HY
        clear hFF hY
        generalize gF A f0 xs k i = f at *
        generalize hFb : A (xv, (i : Int)) (f 0) = F at *
        obtain ⟨⟨fv, fr⟩, hf0⟩ : ∃ x, f 0 = x := ⟨_, rfl⟩
        rw [hf0] at y0 y1 kO
        dsimp only at y0 y1 cb cd
        have e0 := fun d os => cell_regrown x0 d os
        have e1 := fun d os => cell_regrown x1 d os
        have g0 := fun d os => cell_regrown y0 d os
        have g1 := fun d os => cell_regrown y1 d os
        have el := fun d os => cell_regrown cl d os
        have eb := fun d os => cell_regrown cb d os
        have cO := fun d os => Calls.regrown_of (kO (Go.Sort.grow (redrawn W2 d) os) (cell_regrown cd d os))
        obtain ⟨Xb, hXb⟩ : ∃ Xb, Xb = wr.heap.size := ⟨_, rfl⟩
        have HXb : Hid (Xb = wr.heap.size) := hXb
        rw [← hXb] at x0 x1 e0 e1
        clear hat hx hW2 b2 e2 hp hp2 hb hik em em2 r4 hf0 hFb hpk hXb ev
        go_wp2_with fail
        rw [← HW2.out, ← HXb.out]
        refine wp_region_quiet_below (by kernel_rfl) (by kernel_rfl) ?_
        repeat (first | quiet_step (fail) | quiet_step (exact cO _ _))
        refine wpQuiet_nil ?_
        intro _ hw'
        obtain ⟨⟨dq, osq⟩, hw''⟩ := hw'
        subst hw''
        have hb3 := below_regrown W2 dq osq
        have O2 := HP2.out.below hb3
        have HB3 : Hid (Below G w (Go.Sort.grow (redrawn W2 dq) osq)) := HB2.out.trans (hb3.mono (by rw [HG.out]; exact (HG.out ▸ HB2.out).size))
        have D0 := e0 dq osq
        have D1 := e1 dq osq
        clear x0 x1 y0 y1 e0 e1 g0 g1 el eb cO kO cl cb cd HP2 hb3
        generalize Go.Sort.grow (redrawn W2 dq) osq = W3 at *
        cases F with
        | true =>
          have kR := replace_any (fun x y => A y x) (G + 1) G g4 c4 p (dx, lw) f (xv, (i : Int)) W3 (turned HA.out dx) O2 (by have := HPK.out; omega)
          have hyy : sinkF (fun x y => A y x) (p + 1) (up f 0 (xv, (i : Int))) 0 = FF := by rw [HY.out, if_pos rfl, HPK.out]
          have HYY : Hid _ := hyy
          clear hyy
          rw [HYY.out] at kR
          clear HY HYY O2
          go_wp2_with fail
          go_fit kR
          rintro r w4 ⟨rfl, o4, k4⟩
          have O4 : Hid _ := o4
          have K4 : Hid _ := k4
          clear o4 k4 kR
          go_wp2
          exact ⟨⟨i + 1, _, by go_num, HI.out, by rw [HE2.out, ← HFF.out]; exact O4, (fun j e => by cases e; exact HV.out), HB3.out.trans (K4.out.below (by rw [HG.out]; exact (HG.out ▸ HB3.out).size) (fun j hj (e : j = g4) => by have := HV.out; omega))⟩, by simp [RowKit.intOf]; omega⟩
        | false =>
          have hyy : f = FF := by rw [HY.out, if_neg (by simp)]
          have HYY : Hid _ := hyy
          clear hyy
          have O3 : Hid (Hp W3 (G + 1) G (dx, lw) (.slice (some ⟨g4, 0, none⟩) (p + 1) c4) (p + 1) FF) := by rw [← HYY.out]; exact O2
          clear HY HYY O2
          go_wp2
          exact ⟨⟨i + 1, _, by go_num, HI.out, by rw [HE2.out, ← HFF.out]; exact O3, (fun j e => by cases e; exact HV.out), HB3⟩, by simp [RowKit.intOf]; omega⟩
    · have hii : ¬ (i : Int) < n := by omega
      have hin : i = n := by omega
      subst hin
      have em : mn i k = k := if_neg (by omega)
      have hpp := hp.out
      rw [em] at hpp
      have HQ : Hid (∃ g cc, v = .slice (some ⟨g, 0, none⟩) k cc ∧ G ≤ g) := by
        rcases hpp.row.2 with ⟨_, e⟩ | ⟨g, c, _, e, _⟩
        · omega
        · exact ⟨g, c, e, hv.out g (by rw [e]; rfl)⟩
      have HPP : Hid _ := hpp
      clear hpp hp em
      go_wp2
      go_ret
      obtain ⟨g, cc, e, hg⟩ := HQ.out
      subst e
      first | exact ⟨rfl, ⟨g, ⟨cc, HPP.out⟩, hg⟩, hb.out⟩ | exact ⟨rfl, g, ⟨cc, HPP.out⟩, hg, hb.out⟩
end Go.Proofs.Ytcgpjmpppajfdaa.Ws.Rv
