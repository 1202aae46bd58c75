/- RxprogSounds: both sides' Sound. -/
import Derived.Test.YtnpgkiidpeaapaaDoorSf
namespace Go.Proofs.YtnpgkiidpeaapaaDoor
open Go.RowKit

theorem rsound_any (op out alt arg : Int) (a : Option Addr) (n c : Nat) (f : Nat → Rg) (m g : Int) (w : World) (hR : Rml w a f n) (hn : n ≤ 1152921504606846976) (hg0 : 0 ≤ g) (hg1 : g ≤ 100) :
    Calls Tryd.prog 21 #[inV op out alt arg a n c, .int .i64 m, .int .i64 g] w fun r w' => r = .returned (.bool (sdB op out alt arg n f m g)) ∧ Below w.heap.size w w' := by
  by_cases h1 : op = 1
  · exact rsound_a op out alt arg a n c f m g w h1 hn hg0 hg1
  by_cases h11 : op = 11
  · exact rsound_b op out alt arg a n c f m g w h11 hn hg0 hg1
  by_cases h3 : op = 3
  · exact rsound_c op out alt arg a n c f m g w h3 hn hg0 hg1
  by_cases h4 : op = 4
  · exact rsound_d op out alt arg a n c f m g w h4 hn hg0 hg1
  by_cases h9 : op = 9
  · exact rsound_e op out alt arg a n c f m g w h9 hn hg0 hg1
  by_cases h2 : op = 2
  · subst h2
    exact rsound_f out alt arg a n c f m g w hR hn
  · exact rsound_g op out alt arg a n c f m g w ⟨h1, h2, h3, h4, h9, h11⟩ hn hg0 hg1

abbrev prV (ia : Option Addr) (n ic : Nat) (st gr : Int) (na : Option Addr) (nn nc : Nat) : Value := .agg #[.slice ia n ic, .int .i64 st, .int .i64 gr, .slice na nn nc]
abbrev prX (ia : Option Addr) (n ic : Nat) (st gr : Int) (na : Option Addr) (nn nc : Nat) : Obj := .cells #[.slice ia n ic, .int .i64 st, .int .i64 gr, .slice na nn nc] 29
theorem prX_cells {w W : World} (ia : Option Addr) (n ic : Nat) (st gr : Int) (na : Option Addr) (nn nc : Nat) (h : Below (w.alloc (prX ia n ic st gr na nn nc)).heap.size (w.alloc (prX ia n ic st gr na nn nc)) W) :
    W.cell? ⟨w.heap.size, 0, none⟩ = some (.slice ia n ic) ∧ W.cell? ⟨w.heap.size, 1, none⟩ = some (.int .i64 st) ∧ W.cell? ⟨w.heap.size, 2, none⟩ = some (.int .i64 gr) ∧ W.cell? ⟨w.heap.size, 3, none⟩ = some (.slice na nn nc) := by
  have e : (w.alloc (prX ia n ic st gr na nn nc)).heap[w.heap.size]? = some (prX ia n ic st gr na nn nc) := heap_alloc_new w _
  refine ⟨bcell2 h ?_, bcell2 h ?_, bcell2 h ?_, bcell2 h ?_⟩
  all_goals
    unfold World.cell?
    rw [e]
    rfl

theorem SdB_iff (x : Nat → In) (n : Nat) (st gr : Int) (nn : Nat) : SdB x n st gr nn = true ↔ n ≤ 10000 ∧ plB st n = true ∧ gr ≤ 100 ∧ (nn : Int) = gr ∧ allB x n gr n = true := by
  unfold SdB
  simp only [Bool.and_eq_true, decide_eq_true_iff]
  constructor
  · rintro ⟨⟨⟨⟨a, b⟩, c⟩, d⟩, e⟩
    exact ⟨a, b, c, d, e⟩
  · rintro ⟨a, b, c, d, e⟩
    exact ⟨⟨⟨⟨a, b⟩, c⟩, d⟩, e⟩
theorem SdB_no {x : Nat → In} {n : Nat} {st gr : Int} {nn : Nat} (h : ¬ (n ≤ 10000 ∧ plB st n = true ∧ gr ≤ 100 ∧ (nn : Int) = gr)) : SdB x n st gr nn = false := by
  rw [Bool.eq_false_iff]
  intro e
  obtain ⟨a, b, c, d, _⟩ := (SdB_iff x n st gr nn).1 e
  exact h ⟨a, b, c, d⟩
theorem SdB_bad {x : Nat → In} {n : Nat} {st gr : Int} {nn : Nat} (h : allB x n gr n = false) : SdB x n st gr nn = false := by
  rw [Bool.eq_false_iff]
  intro e
  have := ((SdB_iff x n st gr nn).1 e).2.2.2.2
  rw [h] at this
  cases this

set_option maxHeartbeats 4000000 in
set_option maxRecDepth 100000 in
theorem sound_any (ia : Option Addr) (n ic : Nat) (st gr : Int) (na : Option Addr) (nn nc : Nat) (x : Nat → In) (w : World) (hI : Nml w ia x n) (hn : n ≤ 1152921504606846976) (hnn : nn ≤ 1152921504606846976) :
    Calls Tryd.prog 10 #[prV ia n ic st gr na nn nc] w fun r w' => r = .returned (.bool (SdB x n st gr nn)) ∧ Below w.heap.size w w' := by
  have HB : Hid (Below w.heap.size w (w.alloc (prX ia n ic st gr na nn nc))) := (Below.refl _ w).alloc (Nat.le_refl _) _
  have HI0 : Hid (Nml w ia x n) := hI
  clear hI
  by_cases k1 : 10000 < (n : Int)
  · have HX : Hid (SdB x n st gr nn = false) := SdB_no (by omega)
    go_enter Tryd.func10, Tryd.ntmps10
    go_wp2
    go_ret
    exact ⟨ret_bool (by rw [HX.out]), HB.out⟩
  have kP := isPlace_any st n
  cases hp : plB st n
  · have HX : Hid (SdB x n st gr nn = false) := SdB_no (by rw [hp]; simp)
    rw [hp] at kP
    go_enter Tryd.func10, Tryd.ntmps10
    go_wp2_with fail
    go_fit (kP _)
    rintro r w1 ⟨rfl, rfl⟩
    go_wp2
    go_ret
    exact ⟨ret_bool (by rw [HX.out]), HB.out⟩
  rw [hp] at kP
  by_cases k2 : 100 < gr
  · have HX : Hid (SdB x n st gr nn = false) := SdB_no (by omega)
    go_enter Tryd.func10, Tryd.ntmps10
    go_wp2_with fail
    go_fit (kP _)
    rintro r w1 ⟨rfl, rfl⟩
    go_wp2
    go_ret
    exact ⟨ret_bool (by rw [HX.out]), HB.out⟩
  by_cases k3 : (nn : Int) = gr
  rotate_left
  · have HX : Hid (SdB x n st gr nn = false) := SdB_no (fun h => k3 h.2.2.2)
    have b3 : ((nn : Int) != gr) = true := by simpa using k3
    clear k3
    go_enter Tryd.func10, Tryd.ntmps10
    go_wp2_with fail
    go_fit (kP _)
    rintro r w1 ⟨rfl, rfl⟩
    go_wp2
    go_ret
    exact ⟨ret_bool (by rw [HX.out]), HB.out⟩
  have b3 : ((nn : Int) != gr) = false := by simpa using k3
  have gg0 : 0 ≤ gr := by omega
  have gg1 : gr ≤ 100 := by omega
  have HT : Hid (allB x n gr n = true → SdB x n st gr nn = true) := fun h => (SdB_iff x n st gr nn).2 ⟨by omega, hp, gg1, k3, h⟩
  have HN : Hid (allB x n gr n = false → SdB x n st gr nn = false) := fun h => SdB_bad h
  obtain ⟨W, hW⟩ : ∃ W, W = w.alloc (prX ia n ic st gr na nn nc) := ⟨_, rfl⟩
  obtain ⟨c0, c1, c2, c3⟩ := prX_cells ia n ic st gr na nn nc (Below.refl _ (w.alloc (prX ia n ic st gr na nn nc)))
  rw [← hW] at c0 c1 c2 c3 HB
  have HI : Hid (Nml W ia x n) := HI0.out.below HB.out
  have HW : Hid (W = w.alloc (prX ia n ic st gr na nn nc)) := hW
  obtain ⟨G, hG⟩ : ∃ G, G = w.heap.size := ⟨_, rfl⟩
  have HG : Hid (G = w.heap.size) := hG
  rw [← hG] at c0 c1 c2 c3
  have C0 : Hid _ := c0
  have C2 : Hid _ := c2
  clear hW HI0 hG k3 hp
  go_enter Tryd.func10, Tryd.ntmps10
  go_wp2_with fail
  rw [← HW.out, ← HG.out]
  go_fit (kP _)
  rintro r w1 ⟨rfl, rfl⟩
  clear kP
  go_wp2
  go_loopw [32] (fun ivv w' => ∃ i : Nat, ivv = .int .i64 (i : Int) ∧ i ≤ n ∧ allB x n gr i = true ∧ Hid (Below w1.heap.size w1 w')) (fun ivv _ => n - (RowKit.intOf ivv).toNat)
  case atStart => exact ⟨0, rfl, by omega, rfl, Below.refl _ _⟩
  case round =>
    obtain ⟨i, rfl, hi, hal, hb⟩ := hrel
    have HAL : Hid (allB x n gr i = true) := hal
    clear hal c0 c1 c2 c3
    by_cases hlt : i < n
    · have hii : (i : Int) < n := by omega
      obtain ⟨g1, o1, rfl, hg1, x0, x1, x2, x3, x4, hr, hrn⟩ := HI.out.at i hlt
      have e0 := bcell2 hb.out x0
      have e1 := bcell2 hb.out x1
      have e2 := bcell2 hb.out x2
      have e3 := bcell2 hb.out x3
      have e4 := bcell2 hb.out x4
      have HBad : Hid (sdB (x i).op (x i).out (x i).alt (x i).arg (x i).rn (x i).rf n gr = false → SdB x n st gr nn = false) := fun h => HN.out (allB_bad hlt h)
      have HGo : Hid (sdB (x i).op (x i).out (x i).alt (x i).arg (x i).rn (x i).rf n gr = true → allB x n gr (i + 1) = true) := fun h => allB_succ HAL.out h
      have hr2 := hr.below hb.out
      obtain ⟨⟨op, out, alt, arg, ra, rn, rc, rf⟩, hx⟩ : ∃ y, x i = y := ⟨_, rfl⟩
      rw [hx] at e0 e1 e2 e3 e4 HBad HGo hr2 hrn
      dsimp only at e0 e1 e2 e3 e4 HBad HGo hr2 hrn
      obtain ⟨W6, hW6⟩ : ∃ W6, W6 = wr.alloc (inX op out alt arg ra rn rc) := ⟨_, rfl⟩
      have b6 : Below wr.heap.size wr W6 := by rw [hW6]; exact (Below.refl _ wr).alloc (Nat.le_refl _) _
      obtain ⟨y0, y1, y2, y3, y4⟩ := inX_cells op out alt arg ra rn rc (Below.refl _ (wr.alloc (inX op out alt arg ra rn rc)))
      rw [← hW6] at y0 y1 y2 y3 y4
      have d0 := bcell2 b6 (bcell2 hb.out C0.out)
      have d2 := bcell2 b6 (bcell2 hb.out C2.out)
      have b6' : Below wr.heap.size wr (wr.alloc (inX op out alt arg ra rn rc)) := (Below.refl _ wr).alloc (Nat.le_refl _) _
      have f0 := bcell2 b6' (bcell2 hb.out C0.out)
      have f2 := bcell2 b6' (bcell2 hb.out C2.out)
      have kS := isSound_any op out alt arg ra rn rc rf n gr W6 (hr2.below b6) (by omega) gg0 gg1
      have HB6 : Hid (∀ q, Below W6.heap.size W6 q → Below w1.heap.size w1 q) := fun q hq => (hb.out.trans (b6.mono hb.out.size)).trans (hq.mono (Nat.le_trans hb.out.size b6.size))
      have HF : Hid (∀ q, Below W6.heap.size W6 q → Below w.heap.size w q) := fun q hq => HB.out.trans ((HB6.out q hq).mono HB.out.size)
      have HW6 : Hid (W6 = wr.alloc (inX op out alt arg ra rn rc)) := hW6
      obtain ⟨Xb, hXb⟩ : ∃ Xb, Xb = wr.heap.size := ⟨_, rfl⟩
      have HXb : Hid (Xb = wr.heap.size) := hXb
      rw [← hXb] at y0 y1 y2 y3 y4
      have HLT : Hid (i < n) := hlt
      clear hx x0 x1 x2 x3 x4 hW6 b6 b6' hXb hb hr hr2 y0 y1 y2 y3 y4 d0 d2
      cases hs : sdB op out alt arg rn rf n gr
      · have HX : Hid _ := HBad.out hs
        rw [hs] at kS
        clear HBad HGo hs
        go_wp2_with fail
        rw [← HW6.out, ← HXb.out]
        go_fit kS
        rintro r w2 ⟨rfl, b2⟩
        have B2 : Hid _ := HF.out _ b2
        clear b2
        go_wp2
        go_ret
        exact ⟨ret_bool (by rw [HX.out]), B2.out⟩
      · have HX : Hid _ := HGo.out hs
        rw [hs] at kS
        clear HBad HGo hs
        go_wp2_with fail
        rw [← HW6.out, ← HXb.out]
        go_fit kS
        rintro r w2 ⟨rfl, b2⟩
        have B2 : Hid _ := HB6.out _ b2
        clear b2
        go_wp2
        exact ⟨⟨i + 1, by go_num, HLT.out, HX.out, B2.out⟩, by simp [RowKit.intOf]; omega⟩
    · have hii : ¬ (i : Int) < n := by omega
      obtain rfl : i = n := by omega
      have HX : Hid _ := HT.out HAL.out
      go_wp2
      go_ret
      exact ⟨ret_bool (by rw [HX.out]), HB.out.trans (hb.out.mono HB.out.size)⟩
end Go.Proofs.YtnpgkiidpeaapaaDoor
