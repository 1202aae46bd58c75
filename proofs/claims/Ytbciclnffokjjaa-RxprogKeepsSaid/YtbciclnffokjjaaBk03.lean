/- A bundle of texts. -/
import Derived.Test.YtbciclnffokjjaaBk02
/- RxprogSounds: the reference's sound at an instruction that takes a rune. -/
namespace Go.Proofs.Ytbciclnffokjjaa
open Go.RowKit

theorem below_drewN {B : Nat} {a w : World} (h : Below B a w) (k : Nat) : Below B a (w.drewN k) := ⟨h.os, h.tape, h.output, h.size, h.block⟩
set_option maxHeartbeats 4000000 in
set_option maxRecDepth 100000 in
theorem rsound_f (out alt arg : Int) (a : Option Addr) (n c : Nat) (f : Nat → Rg) (m g : Int) (w : World) (hR : Rml w a f n) (hn : n ≤ 1152921504606846976) :
    Calls Try.prog 24 #[inV 2 out alt arg a n c, .int .i64 m, .int .i64 g] w fun r w' => r = .returned (.bool (sdB 2 out alt arg n f m g)) ∧ Below w.heap.size w w' := by
  have HB : Hid (Below w.heap.size w (w.alloc (inX 2 out alt arg a n c))) := (Below.refl _ w).alloc (Nat.le_refl _) _
  have HR0 : Hid (Rml w a f n) := hR
  clear hR
  by_cases to0 : out < 0
  · have HX : Hid (sdB 2 out alt arg n f m g = false) := sdB_no (by omega)
    go_enter Try.func24, Try.ntmps24
    go_wp2
    go_ret
    exact ⟨ret_bool (by rw [HX.out]), HB.out⟩
  by_cases to1 : m ≤ out
  · have HX : Hid (sdB 2 out alt arg n f m g = false) := sdB_no (by omega)
    go_enter Try.func24, Try.ntmps24
    go_wp2
    go_ret
    exact ⟨ret_bool (by rw [HX.out]), HB.out⟩
  by_cases ta : alt = 0
  rotate_left
  · have HX : Hid (sdB 2 out alt arg n f m g = false) := sdB_no (by omega)
    have bta : (alt != 0) = true := by simp [ta]
    clear ta
    go_enter Try.func24, Try.ntmps24
    go_wp2
    go_ret
    exact ⟨ret_bool (by rw [HX.out]), HB.out⟩
  by_cases tg : arg = 0
  rotate_left
  · have HX : Hid (sdB 2 out alt arg n f m g = false) := sdB_no (by omega)
    have bta : (alt != 0) = false := by simp [ta]
    have btg : (arg != 0) = true := by simp [tg]
    clear ta tg
    go_enter Try.func24, Try.ntmps24
    go_wp2
    go_ret
    exact ⟨ret_bool (by rw [HX.out]), HB.out⟩
  by_cases tn : 0 < (n : Int)
  rotate_left
  · have HX : Hid (sdB 2 out alt arg n f m g = false) := sdB_no (by omega)
    have bta : (alt != 0) = false := by simp [ta]
    have btg : (arg != 0) = false := by simp [tg]
    have btn : (!decide (0 < n)) = true := by simp; omega
    clear ta tg tn
    go_enter Try.func24, Try.ntmps24
    go_wp2
    go_ret
    exact ⟨ret_bool (by rw [HX.out]), HB.out⟩
  have HT : Hid (rgB f n = true → sdB 2 out alt arg n f m g = true) := fun h => (sdB_iff 2 out alt arg n f m g).2 ⟨by omega, by omega, by omega, by omega, by omega, by omega, by omega, by omega, by omega, h⟩
  have HN : Hid (rgB f n = false → sdB 2 out alt arg n f m g = false) := fun h => sdB_rg h
  have bta : (alt != 0) = false := by simp [ta]
  have btg : (arg != 0) = false := by simp [tg]
  have btn : (!decide (0 < n)) = false := by simp; omega
  clear ta tg tn
  obtain ⟨W, hW⟩ : ∃ W, W = w.alloc (inX 2 out alt arg a n c) := ⟨_, rfl⟩
  obtain ⟨c0, c1, c2, c3, c4⟩ := inX_cells 2 out alt arg a n c (Below.refl _ (w.alloc (inX 2 out alt arg a n c)))
  rw [← hW] at c0 c1 c2 c3 c4 HB
  have HR : Hid (Rml W a f n) := HR0.out.below HB.out
  have HW : Hid (W = w.alloc (inX 2 out alt arg a n c)) := hW
  have C0 : Hid _ := c0
  have C4 : Hid _ := c4
  obtain ⟨G, hG⟩ : ∃ G, G = w.heap.size := ⟨_, rfl⟩
  have HG : Hid (G = w.heap.size) := hG
  clear hW HR0 c0 c1 c2 c3 c4 hG
  go_enter Try.func24, Try.ntmps24
  go_wp2_with fail
  rw [← HW.out, ← HG.out]
  rw [← HG.out] at C0 C4
  go_loopw [8] (fun ivv w' => ∃ i : Nat, ivv = .int .i64 (i : Int) ∧ i ≤ n ∧ rgB f i = true ∧ Hid (Below W.heap.size W w')) (fun ivv _ => n - (RowKit.intOf ivv).toNat)
  case atStart => exact ⟨0, rfl, by omega, rfl, Below.refl _ _⟩
  case round =>
    obtain ⟨i, rfl, hi, hrg, hb⟩ := hrel
    have HRG : Hid (rgB f i = true) := hrg
    have c0 := bcell2 hb.out C0.out
    have c4 := bcell2 hb.out C4.out
    clear hrg
    by_cases hlt : i < n
    · have hii : (i : Int) < n := by omega
      obtain ⟨g1, o1, rfl, hg1, x0, x1⟩ := HR.out.at i hlt
      have e0 := bcell2 hb.out x0
      have e1 := bcell2 hb.out x1
      have HOK : Hid (okB f i = true ↔ (0 ≤ (f i).1 ∧ (f i).1 ≤ (f i).2 ∧ (f i).2 ≤ 1114111 ∧ (0 < i → (f (i - 1)).2 < (f i).1))) := by unfold Hid okB; exact decide_eq_true_iff
      have HBad : Hid (okB f i = false → sdB 2 out alt arg n f m g = false) := fun h => HN.out (rgB_bad hlt h)
      have HGo : Hid (okB f i = true → rgB f (i + 1) = true) := fun h => rgB_succ HRG.out h
      have HP : Hid (∀ j, i = j + 1 → wr.cell? ⟨g1, o1 + j * 2 + 1, none⟩ = some (.int .i32 (f (i - 1)).2)) := fun j hj => by
        obtain ⟨g2, o2, e, _, _, y1⟩ := HR.out.at j (by omega)
        cases e
        rw [show i - 1 = j by omega]
        exact bcell2 hb.out y1
      obtain ⟨⟨lo, hi'⟩, hx⟩ : ∃ x, f i = x := ⟨_, rfl⟩
      rw [hx] at e0 e1 HOK
      dsimp only at e0 e1
      obtain ⟨W6, hW6⟩ : ∃ W6, W6 = wr.alloc (.cells #[.int .i32 lo, .int .i32 hi'] 50) := ⟨_, rfl⟩
      have b6 : Below wr.heap.size wr W6 := by rw [hW6]; exact (Below.refl _ wr).alloc (Nat.le_refl _) _
      have n6 : W6.heap[wr.heap.size]? = some (.cells #[.int .i32 lo, .int .i32 hi'] 50) := by rw [hW6]; exact heap_alloc_new wr _
      have y0 : W6.cell? ⟨wr.heap.size, 0, none⟩ = some (.int .i32 lo) := by unfold World.cell?; rw [n6]; rfl
      have y1 : W6.cell? ⟨wr.heap.size, 1, none⟩ = some (.int .i32 hi') := by unfold World.cell?; rw [n6]; rfl
      have d4 := bcell2 b6 c4
      have HP6 : Hid (∀ j, i = j + 1 → W6.cell? ⟨g1, o1 + j * 2 + 1, none⟩ = some (.int .i32 (f (i - 1)).2)) := fun j hj => bcell2 b6 (HP.out j hj)
      have HB6 : Hid (∀ q, Below W.heap.size W (W6.drewN q)) := fun q => below_drewN (hb.out.trans (b6.mono hb.out.size)) q
      have HW6 : Hid (W6 = wr.alloc (.cells #[.int .i32 lo, .int .i32 hi'] 50)) := hW6
      obtain ⟨Xb, hXb⟩ : ∃ Xb, Xb = wr.heap.size := ⟨_, rfl⟩
      have HXb : Hid (Xb = wr.heap.size) := hXb
      rw [← hXb] at y0 y1
      have HF : Hid (∀ q, Below w.heap.size w (W6.drewN q)) := fun q => HB.out.trans ((HB6.out q).mono HB.out.size)
      have HI : Hid (i < n) := hlt
      clear hx x0 x1 hW6 b6 n6 hXb HP hb
      generalize (f (i - 1)).2 = pv at *
      by_cases k1 : lo < 0
      · have HX : Hid _ := HBad.out (by cases h : okB f i with | false => rfl | true => have := HOK.out.1 h; dsimp only at this; omega)
        clear HOK HBad HGo HP6
        go_wp2_with fail
        rw [← HW6.out, ← HXb.out]
        go_big_quiet (fail)
        go_wp2
        go_ret
        exact ⟨ret_bool (by rw [HX.out]), HF.out _⟩
      have d1 : decide (lo < 0) = false := decide_eq_false k1
      by_cases k2 : hi' < lo
      · have d2 : decide (hi' < lo) = true := decide_eq_true k2
        have HX : Hid _ := HBad.out (by cases h : okB f i with | false => rfl | true => have := HOK.out.1 h; dsimp only at this; omega)
        clear HOK HBad HGo HP6
        go_wp2_with fail
        rw [← HW6.out, ← HXb.out]
        go_big_quiet (fail)
        go_wp2
        go_ret
        exact ⟨ret_bool (by rw [HX.out]), HF.out _⟩
      have d2 : decide (hi' < lo) = false := decide_eq_false k2
      by_cases k3 : 1114111 < hi'
      · have d3 : decide (1114111 < hi') = true := decide_eq_true k3
        have HX : Hid _ := HBad.out (by cases h : okB f i with | false => rfl | true => have := HOK.out.1 h; dsimp only at this; omega)
        clear HOK HBad HGo HP6
        go_wp2_with fail
        rw [← HW6.out, ← HXb.out]
        go_big_quiet (fail)
        go_wp2
        go_ret
        exact ⟨ret_bool (by rw [HX.out]), HF.out _⟩
      have d3 : decide (1114111 < hi') = false := decide_eq_false k3
      by_cases k4 : 0 < i
      · obtain ⟨j, rfl⟩ : ∃ j, i = j + 1 := ⟨i - 1, by omega⟩
        have p1 := HP6.out j rfl
        have d4 : decide (0 < ((j + 1 : Nat) : Int)) = true := decide_eq_true (by omega)
        have d5 : decide (0 < (j : Int) + 1) = true := decide_eq_true (by omega)
        by_cases k5 : lo ≤ pv
        · have d6 : decide (lo ≤ pv) = true := decide_eq_true k5
          have HX : Hid _ := HBad.out (by cases h : okB f (j + 1) with | false => rfl | true => have := HOK.out.1 h; dsimp only at this; omega)
          clear HOK HBad HGo HP6
          go_wp2_with fail
          rw [← HW6.out, ← HXb.out]
          go_big_quiet (fail)
          go_wp2
          go_ret
          exact ⟨ret_bool (by rw [HX.out]), HF.out _⟩
        · have d6 : decide (lo ≤ pv) = false := decide_eq_false k5
          have HX : Hid _ := HGo.out (HOK.out.2 (by dsimp only; omega))
          clear HOK HBad HGo HP6
          go_wp2_with fail
          rw [← HW6.out, ← HXb.out]
          go_big_quiet (fail)
          go_wp2
          exact ⟨⟨j + 2, by go_num, HI.out, HX.out, HB6.out _⟩, by simp [RowKit.intOf]; omega⟩
      · have d4 : decide (0 < i) = false := decide_eq_false k4
        have HX : Hid _ := HGo.out (HOK.out.2 (by dsimp only; omega))
        clear HOK HBad HGo HP6
        go_wp2_with fail
        rw [← HW6.out, ← HXb.out]
        go_big_quiet (fail)
        go_wp2
        exact ⟨⟨i + 1, by go_num, HI.out, HX.out, HB6.out _⟩, by simp [RowKit.intOf]; omega⟩
    · have hii : ¬ (i : Int) < n := by omega
      obtain rfl : i = n := by omega
      have HX : Hid _ := HT.out HRG.out
      go_wp2
      go_ret
      exact ⟨ret_bool (by rw [HX.out]), HB.out.trans (hb.out.mono HB.out.size)⟩
end Go.Proofs.Ytbciclnffokjjaa
/- RxprogSounds: both sides' Sound. -/
namespace Go.Proofs.Ytbciclnffokjjaa
open Go.RowKit

theorem rsound_any (op out alt arg : Int) (a : Option Addr) (n c : Nat) (f : Nat → Rg) (m g : Int) (w : World) (hR : Rml w a f n) (hn : n ≤ 1152921504606846976) (hg0 : 0 ≤ g) (hg1 : g ≤ 100) :
    Calls Try.prog 24 #[inV op out alt arg a n c, .int .i64 m, .int .i64 g] w fun r w' => r = .returned (.bool (sdB op out alt arg n f m g)) ∧ Below w.heap.size w w' := by
  by_cases h1 : op = 1
  · exact rsound_a op out alt arg a n c f m g w h1 hn hg0 hg1
  by_cases h11 : op = 11
  · exact rsound_b op out alt arg a n c f m g w h11 hn hg0 hg1
  by_cases h3 : op = 3
  · exact rsound_c op out alt arg a n c f m g w h3 hn hg0 hg1
  by_cases h4 : op = 4
  · exact rsound_d op out alt arg a n c f m g w h4 hn hg0 hg1
  by_cases h9 : op = 9
  · exact rsound_e op out alt arg a n c f m g w h9 hn hg0 hg1
  by_cases h2 : op = 2
  · subst h2
    exact rsound_f out alt arg a n c f m g w hR hn
  · exact rsound_g op out alt arg a n c f m g w ⟨h1, h2, h3, h4, h9, h11⟩ hn hg0 hg1

abbrev prV (ia : Option Addr) (n ic : Nat) (st gr : Int) (na : Option Addr) (nn nc : Nat) : Value := .agg #[.slice ia n ic, .int .i64 st, .int .i64 gr, .slice na nn nc]
abbrev prX (ia : Option Addr) (n ic : Nat) (st gr : Int) (na : Option Addr) (nn nc : Nat) : Obj := .cells #[.slice ia n ic, .int .i64 st, .int .i64 gr, .slice na nn nc] 25
theorem prX_cells {w W : World} (ia : Option Addr) (n ic : Nat) (st gr : Int) (na : Option Addr) (nn nc : Nat) (h : Below (w.alloc (prX ia n ic st gr na nn nc)).heap.size (w.alloc (prX ia n ic st gr na nn nc)) W) :
    W.cell? ⟨w.heap.size, 0, none⟩ = some (.slice ia n ic) ∧ W.cell? ⟨w.heap.size, 1, none⟩ = some (.int .i64 st) ∧ W.cell? ⟨w.heap.size, 2, none⟩ = some (.int .i64 gr) ∧ W.cell? ⟨w.heap.size, 3, none⟩ = some (.slice na nn nc) := by
  have e : (w.alloc (prX ia n ic st gr na nn nc)).heap[w.heap.size]? = some (prX ia n ic st gr na nn nc) := heap_alloc_new w _
  refine ⟨bcell2 h ?_, bcell2 h ?_, bcell2 h ?_, bcell2 h ?_⟩
  all_goals
    unfold World.cell?
    rw [e]
    rfl

theorem SdB_iff (x : Nat → In) (n : Nat) (st gr : Int) (nn : Nat) : SdB x n st gr nn = true ↔ n ≤ 10000 ∧ plB st n = true ∧ gr ≤ 100 ∧ (nn : Int) = gr ∧ allB x n gr n = true := by
  unfold SdB
  simp only [Bool.and_eq_true, decide_eq_true_iff]
  constructor
  · rintro ⟨⟨⟨⟨a, b⟩, c⟩, d⟩, e⟩
    exact ⟨a, b, c, d, e⟩
  · rintro ⟨a, b, c, d, e⟩
    exact ⟨⟨⟨⟨a, b⟩, c⟩, d⟩, e⟩
theorem SdB_no {x : Nat → In} {n : Nat} {st gr : Int} {nn : Nat} (h : ¬ (n ≤ 10000 ∧ plB st n = true ∧ gr ≤ 100 ∧ (nn : Int) = gr)) : SdB x n st gr nn = false := by
  rw [Bool.eq_false_iff]
  intro e
  obtain ⟨a, b, c, d, _⟩ := (SdB_iff x n st gr nn).1 e
  exact h ⟨a, b, c, d⟩
theorem SdB_bad {x : Nat → In} {n : Nat} {st gr : Int} {nn : Nat} (h : allB x n gr n = false) : SdB x n st gr nn = false := by
  rw [Bool.eq_false_iff]
  intro e
  have := ((SdB_iff x n st gr nn).1 e).2.2.2.2
  rw [h] at this
  cases this

set_option maxHeartbeats 4000000 in
set_option maxRecDepth 100000 in
theorem sound_any (ia : Option Addr) (n ic : Nat) (st gr : Int) (na : Option Addr) (nn nc : Nat) (x : Nat → In) (w : World) (hI : Nml w ia x n) (hn : n ≤ 1152921504606846976) (hnn : nn ≤ 1152921504606846976) :
    Calls Try.prog 7 #[prV ia n ic st gr na nn nc] w fun r w' => r = .returned (.bool (SdB x n st gr nn)) ∧ Below w.heap.size w w' := by
  have HB : Hid (Below w.heap.size w (w.alloc (prX ia n ic st gr na nn nc))) := (Below.refl _ w).alloc (Nat.le_refl _) _
  have HI0 : Hid (Nml w ia x n) := hI
  clear hI
  by_cases k1 : 10000 < (n : Int)
  · have HX : Hid (SdB x n st gr nn = false) := SdB_no (by omega)
    go_enter Try.func7, Try.ntmps7
    go_wp2
    go_ret
    exact ⟨ret_bool (by rw [HX.out]), HB.out⟩
  have kP := isPlace_any st n
  cases hp : plB st n
  · have HX : Hid (SdB x n st gr nn = false) := SdB_no (by rw [hp]; simp)
    rw [hp] at kP
    go_enter Try.func7, Try.ntmps7
    go_wp2_with fail
    go_fit (kP _)
    rintro r w1 ⟨rfl, rfl⟩
    go_wp2
    go_ret
    exact ⟨ret_bool (by rw [HX.out]), HB.out⟩
  rw [hp] at kP
  by_cases k2 : 100 < gr
  · have HX : Hid (SdB x n st gr nn = false) := SdB_no (by omega)
    go_enter Try.func7, Try.ntmps7
    go_wp2_with fail
    go_fit (kP _)
    rintro r w1 ⟨rfl, rfl⟩
    go_wp2
    go_ret
    exact ⟨ret_bool (by rw [HX.out]), HB.out⟩
  by_cases k3 : (nn : Int) = gr
  rotate_left
  · have HX : Hid (SdB x n st gr nn = false) := SdB_no (fun h => k3 h.2.2.2)
    have b3 : ((nn : Int) != gr) = true := by simpa using k3
    clear k3
    go_enter Try.func7, Try.ntmps7
    go_wp2_with fail
    go_fit (kP _)
    rintro r w1 ⟨rfl, rfl⟩
    go_wp2
    go_ret
    exact ⟨ret_bool (by rw [HX.out]), HB.out⟩
  have b3 : ((nn : Int) != gr) = false := by simpa using k3
  have gg0 : 0 ≤ gr := by omega
  have gg1 : gr ≤ 100 := by omega
  have HT : Hid (allB x n gr n = true → SdB x n st gr nn = true) := fun h => (SdB_iff x n st gr nn).2 ⟨by omega, hp, gg1, k3, h⟩
  have HN : Hid (allB x n gr n = false → SdB x n st gr nn = false) := fun h => SdB_bad h
  obtain ⟨W, hW⟩ : ∃ W, W = w.alloc (prX ia n ic st gr na nn nc) := ⟨_, rfl⟩
  obtain ⟨c0, c1, c2, c3⟩ := prX_cells ia n ic st gr na nn nc (Below.refl _ (w.alloc (prX ia n ic st gr na nn nc)))
  rw [← hW] at c0 c1 c2 c3 HB
  have HI : Hid (Nml W ia x n) := HI0.out.below HB.out
  have HW : Hid (W = w.alloc (prX ia n ic st gr na nn nc)) := hW
  obtain ⟨G, hG⟩ : ∃ G, G = w.heap.size := ⟨_, rfl⟩
  have HG : Hid (G = w.heap.size) := hG
  rw [← hG] at c0 c1 c2 c3
  have C0 : Hid _ := c0
  have C2 : Hid _ := c2
  clear hW HI0 hG k3 hp
  go_enter Try.func7, Try.ntmps7
  go_wp2_with fail
  rw [← HW.out, ← HG.out]
  go_fit (kP _)
  rintro r w1 ⟨rfl, rfl⟩
  clear kP
  go_wp2
  go_loopw [32] (fun ivv w' => ∃ i : Nat, ivv = .int .i64 (i : Int) ∧ i ≤ n ∧ allB x n gr i = true ∧ Hid (Below w1.heap.size w1 w')) (fun ivv _ => n - (RowKit.intOf ivv).toNat)
  case atStart => exact ⟨0, rfl, by omega, rfl, Below.refl _ _⟩
  case round =>
    obtain ⟨i, rfl, hi, hal, hb⟩ := hrel
    have HAL : Hid (allB x n gr i = true) := hal
    clear hal c0 c1 c2 c3
    by_cases hlt : i < n
    · have hii : (i : Int) < n := by omega
      obtain ⟨g1, o1, rfl, hg1, x0, x1, x2, x3, x4, hr, hrn⟩ := HI.out.at i hlt
      have e0 := bcell2 hb.out x0
      have e1 := bcell2 hb.out x1
      have e2 := bcell2 hb.out x2
      have e3 := bcell2 hb.out x3
      have e4 := bcell2 hb.out x4
      have HBad : Hid (sdB (x i).op (x i).out (x i).alt (x i).arg (x i).rn (x i).rf n gr = false → SdB x n st gr nn = false) := fun h => HN.out (allB_bad hlt h)
      have HGo : Hid (sdB (x i).op (x i).out (x i).alt (x i).arg (x i).rn (x i).rf n gr = true → allB x n gr (i + 1) = true) := fun h => allB_succ HAL.out h
      have hr2 := hr.below hb.out
      obtain ⟨⟨op, out, alt, arg, ra, rn, rc, rf⟩, hx⟩ : ∃ y, x i = y := ⟨_, rfl⟩
      rw [hx] at e0 e1 e2 e3 e4 HBad HGo hr2 hrn
      dsimp only at e0 e1 e2 e3 e4 HBad HGo hr2 hrn
      obtain ⟨W6, hW6⟩ : ∃ W6, W6 = wr.alloc (inX op out alt arg ra rn rc) := ⟨_, rfl⟩
      have b6 : Below wr.heap.size wr W6 := by rw [hW6]; exact (Below.refl _ wr).alloc (Nat.le_refl _) _
      obtain ⟨y0, y1, y2, y3, y4⟩ := inX_cells op out alt arg ra rn rc (Below.refl _ (wr.alloc (inX op out alt arg ra rn rc)))
      rw [← hW6] at y0 y1 y2 y3 y4
      have d0 := bcell2 b6 (bcell2 hb.out C0.out)
      have d2 := bcell2 b6 (bcell2 hb.out C2.out)
      have b6' : Below wr.heap.size wr (wr.alloc (inX op out alt arg ra rn rc)) := (Below.refl _ wr).alloc (Nat.le_refl _) _
      have f0 := bcell2 b6' (bcell2 hb.out C0.out)
      have f2 := bcell2 b6' (bcell2 hb.out C2.out)
      have kS := isSound_any op out alt arg ra rn rc rf n gr W6 (hr2.below b6) (by omega) gg0 gg1
      have HB6 : Hid (∀ q, Below W6.heap.size W6 q → Below w1.heap.size w1 q) := fun q hq => (hb.out.trans (b6.mono hb.out.size)).trans (hq.mono (Nat.le_trans hb.out.size b6.size))
      have HF : Hid (∀ q, Below W6.heap.size W6 q → Below w.heap.size w q) := fun q hq => HB.out.trans ((HB6.out q hq).mono HB.out.size)
      have HW6 : Hid (W6 = wr.alloc (inX op out alt arg ra rn rc)) := hW6
      obtain ⟨Xb, hXb⟩ : ∃ Xb, Xb = wr.heap.size := ⟨_, rfl⟩
      have HXb : Hid (Xb = wr.heap.size) := hXb
      rw [← hXb] at y0 y1 y2 y3 y4
      have HLT : Hid (i < n) := hlt
      clear hx x0 x1 x2 x3 x4 hW6 b6 b6' hXb hb hr hr2 y0 y1 y2 y3 y4 d0 d2
      cases hs : sdB op out alt arg rn rf n gr
      · have HX : Hid _ := HBad.out hs
        rw [hs] at kS
        clear HBad HGo hs
        go_wp2_with fail
        rw [← HW6.out, ← HXb.out]
        go_fit kS
        rintro r w2 ⟨rfl, b2⟩
        have B2 : Hid _ := HF.out _ b2
        clear b2
        go_wp2
        go_ret
        exact ⟨ret_bool (by rw [HX.out]), B2.out⟩
      · have HX : Hid _ := HGo.out hs
        rw [hs] at kS
        clear HBad HGo hs
        go_wp2_with fail
        rw [← HW6.out, ← HXb.out]
        go_fit kS
        rintro r w2 ⟨rfl, b2⟩
        have B2 : Hid _ := HB6.out _ b2
        clear b2
        go_wp2
        exact ⟨⟨i + 1, by go_num, HLT.out, HX.out, B2.out⟩, by simp [RowKit.intOf]; omega⟩
    · have hii : ¬ (i : Int) < n := by omega
      obtain rfl : i = n := by omega
      have HX : Hid _ := HT.out HAL.out
      go_wp2
      go_ret
      exact ⟨ret_bool (by rw [HX.out]), HB.out.trans (hb.out.mono HB.out.size)⟩
end Go.Proofs.Ytbciclnffokjjaa
