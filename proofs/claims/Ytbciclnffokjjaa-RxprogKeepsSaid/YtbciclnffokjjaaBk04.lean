/- A bundle of texts. -/
import Derived.Test.YtbciclnffokjjaaBk03
/- RxprogSounds: the reference's Sound. -/
namespace Go.Proofs.Ytbciclnffokjjaa
open Go.RowKit

set_option maxHeartbeats 4000000 in
set_option maxRecDepth 100000 in
theorem rSound_any (ia : Option Addr) (n ic : Nat) (st gr : Int) (na : Option Addr) (nn nc : Nat) (x : Nat → In) (w : World) (hI : Nml w ia x n) (hn : n ≤ 1152921504606846976) (hnn : nn ≤ 1152921504606846976) :
    Calls Try.prog 8 #[prV ia n ic st gr na nn nc] w fun r w' => r = .returned (.bool (SdB x n st gr nn)) ∧ Below w.heap.size w w' := by
  have HB : Hid (Below w.heap.size w (w.alloc (prX ia n ic st gr na nn nc))) := (Below.refl _ w).alloc (Nat.le_refl _) _
  have HI0 : Hid (Nml w ia x n) := hI
  have hpl : plB st n = true ↔ 0 ≤ st ∧ st < n := decide_eq_true_iff
  clear hI
  by_cases k1 : (n : Int) < 1
  · have HX : Hid (SdB x n st gr nn = false) := SdB_no (by rw [hpl]; omega)
    clear hpl
    go_enter Try.func8, Try.ntmps8
    go_wp2
    go_ret
    exact ⟨ret_bool (by rw [HX.out]), HB.out⟩
  by_cases k2 : 10000 < (n : Int)
  · have HX : Hid (SdB x n st gr nn = false) := SdB_no (by rw [hpl]; omega)
    clear hpl
    go_enter Try.func8, Try.ntmps8
    go_wp2
    go_ret
    exact ⟨ret_bool (by rw [HX.out]), HB.out⟩
  by_cases k3 : st < 0
  · have HX : Hid (SdB x n st gr nn = false) := SdB_no (by rw [hpl]; omega)
    clear hpl
    go_enter Try.func8, Try.ntmps8
    go_wp2
    go_ret
    exact ⟨ret_bool (by rw [HX.out]), HB.out⟩
  by_cases k4 : (n : Int) ≤ st
  · have HX : Hid (SdB x n st gr nn = false) := SdB_no (by rw [hpl]; omega)
    clear hpl
    go_enter Try.func8, Try.ntmps8
    go_wp2
    go_ret
    exact ⟨ret_bool (by rw [HX.out]), HB.out⟩
  by_cases k5 : gr < 0
  · have HX : Hid (SdB x n st gr nn = false) := SdB_no (by rw [hpl]; omega)
    clear hpl
    go_enter Try.func8, Try.ntmps8
    go_wp2
    go_ret
    exact ⟨ret_bool (by rw [HX.out]), HB.out⟩
  by_cases k6 : 100 < gr
  · have HX : Hid (SdB x n st gr nn = false) := SdB_no (by rw [hpl]; omega)
    clear hpl
    go_enter Try.func8, Try.ntmps8
    go_wp2
    go_ret
    exact ⟨ret_bool (by rw [HX.out]), HB.out⟩
  by_cases k7 : (nn : Int) = gr
  rotate_left
  · have HX : Hid (SdB x n st gr nn = false) := SdB_no (fun h => k7 h.2.2.2)
    have b7 : ((nn : Int) != gr) = true := by simpa using k7
    clear k7 hpl
    go_enter Try.func8, Try.ntmps8
    go_wp2
    go_ret
    exact ⟨ret_bool (by rw [HX.out]), HB.out⟩
  have b7 : ((nn : Int) != gr) = false := by simpa using k7
  have gg0 : 0 ≤ gr := by omega
  have gg1 : gr ≤ 100 := by omega
  have HT : Hid (allB x n gr n = true → SdB x n st gr nn = true) := fun h => (SdB_iff x n st gr nn).2 ⟨by omega, hpl.2 (by omega), gg1, k7, h⟩
  have HN : Hid (allB x n gr n = false → SdB x n st gr nn = false) := fun h => SdB_bad h
  obtain ⟨W, hW⟩ : ∃ W, W = w.alloc (prX ia n ic st gr na nn nc) := ⟨_, rfl⟩
  obtain ⟨c0, c1, c2, c3⟩ := prX_cells ia n ic st gr na nn nc (Below.refl _ (w.alloc (prX ia n ic st gr na nn nc)))
  rw [← hW] at c0 c1 c2 c3 HB
  have HI : Hid (Nml W ia x n) := HI0.out.below HB.out
  have HW : Hid (W = w.alloc (prX ia n ic st gr na nn nc)) := hW
  obtain ⟨G, hG⟩ : ∃ G, G = w.heap.size := ⟨_, rfl⟩
  have HG : Hid (G = w.heap.size) := hG
  rw [← hG] at c0 c1 c2 c3
  have C0 : Hid _ := c0
  have C2 : Hid _ := c2
  clear hW HI0 hG k7 hpl c0 c1 c2 c3
  go_enter Try.func8, Try.ntmps8
  go_wp2_with fail
  rw [← HW.out, ← HG.out]
  go_loopw [4] (fun ivv w' => ∃ i : Nat, ivv = .int .i64 (i : Int) ∧ i ≤ n ∧ allB x n gr i = true ∧ Hid (Below W.heap.size W w')) (fun ivv _ => n - (RowKit.intOf ivv).toNat)
  case atStart => exact ⟨0, rfl, by omega, rfl, Below.refl _ _⟩
  case round =>
    obtain ⟨i, rfl, hi, hal, hb⟩ := hrel
    have HAL : Hid (allB x n gr i = true) := hal
    clear hal
    by_cases hlt : i < n
    · have hii : (i : Int) < n := by omega
      obtain ⟨g1, o1, rfl, hg1, x0, x1, x2, x3, x4, hr, hrn⟩ := HI.out.at i hlt
      have e0 := bcell2 hb.out x0
      have e1 := bcell2 hb.out x1
      have e2 := bcell2 hb.out x2
      have e3 := bcell2 hb.out x3
      have e4 := bcell2 hb.out x4
      have HBad : Hid (sdB (x i).op (x i).out (x i).alt (x i).arg (x i).rn (x i).rf n gr = false → SdB x n st gr nn = false) := fun h => HN.out (allB_bad hlt h)
      have HGo : Hid (sdB (x i).op (x i).out (x i).alt (x i).arg (x i).rn (x i).rf n gr = true → allB x n gr (i + 1) = true) := fun h => allB_succ HAL.out h
      have hr2 := hr.below hb.out
      obtain ⟨⟨op, out, alt, arg, ra, rn, rc, rf⟩, hx⟩ : ∃ y, x i = y := ⟨_, rfl⟩
      rw [hx] at e0 e1 e2 e3 e4 HBad HGo hr2 hrn
      dsimp only at e0 e1 e2 e3 e4 HBad HGo hr2 hrn
      have d0 := bcell2 hb.out C0.out
      have d2 := bcell2 hb.out C2.out
      have kS := fun d os => Calls.regrown_of (rsound_any op out alt arg ra rn rc rf n gr (Go.Sort.grow (redrawn wr d) os) (hr2.below (below_regrown wr d os)) (by omega) gg0 gg1)
      have HB6 : Hid (∀ d os, Below W.heap.size W (Go.Sort.grow (redrawn wr d) os)) := fun d os => hb.out.trans ((below_regrown wr d os).mono hb.out.size)
      have HF : Hid (∀ d os, Below w.heap.size w (Go.Sort.grow (redrawn wr d) os)) := fun d os => HB.out.trans ((HB6.out d os).mono HB.out.size)
      have HLT : Hid (i < n) := hlt
      have r0 := fun d os => cell_regrown e0 d os
      have r1 := fun d os => cell_regrown e1 d os
      have r2 := fun d os => cell_regrown e2 d os
      have r3 := fun d os => cell_regrown e3 d os
      have r4 := fun d os => cell_regrown e4 d os
      have s0 := fun d os => cell_regrown d0 d os
      have s2 := fun d os => cell_regrown d2 d os
      clear hx x0 x1 x2 x3 x4 hb hr hr2
      cases hs : sdB op out alt arg rn rf n gr
      · have HX : Hid _ := HBad.out hs
        simp only [hs] at kS
        clear HBad HGo hs
        go_wp2_with fail
        refine wp_region_quiet_below (by kernel_rfl) (by kernel_rfl) ?_
        repeat (first | quiet_step (fail) | quiet_step (exact kS _ _))
        refine wpQuiet_nil ?_
        intro _ hw'
        obtain ⟨⟨dq, osq⟩, hw''⟩ := hw'
        subst hw''
        have B2 : Hid _ := HF.out dq osq
        clear e0 e1 e2 e3 e4 r0 r1 r2 r3 r4 s0 s2 d0 d2 kS HF HB6
        generalize Go.Sort.grow (redrawn wr dq) osq = W2 at *
        go_wp2
        go_ret
        exact ⟨ret_bool (by rw [HX.out]), B2.out⟩
      · have HX : Hid _ := HGo.out hs
        simp only [hs] at kS
        clear HBad HGo hs
        go_wp2_with fail
        refine wp_region_quiet_below (by kernel_rfl) (by kernel_rfl) ?_
        repeat (first | quiet_step (fail) | quiet_step (exact kS _ _))
        refine wpQuiet_nil ?_
        intro _ hw'
        obtain ⟨⟨dq, osq⟩, hw''⟩ := hw'
        subst hw''
        have B2 : Hid _ := HB6.out dq osq
        clear e0 e1 e2 e3 e4 r0 r1 r2 r3 r4 s0 s2 d0 d2 kS HF HB6
        generalize Go.Sort.grow (redrawn wr dq) osq = W2 at *
        go_wp2
        exact ⟨⟨i + 1, by go_num, HLT.out, HX.out, B2.out⟩, by simp [RowKit.intOf]; omega⟩
    · have hii : ¬ (i : Int) < n := by omega
      obtain rfl : i = n := by omega
      have HX : Hid _ := HT.out HAL.out
      go_wp2
      go_ret
      exact ⟨ret_bool (by rw [HX.out]), HB.out.trans (hb.out.mono HB.out.size)⟩
end Go.Proofs.Ytbciclnffokjjaa
/- RxprogSounds: same ranges, same texts. -/
namespace Go.Proofs.Ytbciclnffokjjaa
open Go.RowKit

theorem eqRg (a b c d : Int) (w : World) : (Op.equalIn 10000 50 (.agg #[.int .i32 a, .int .i32 b]) (.agg #[.int .i32 c, .int .i32 d])).run Try.prog w = .ok (a == c && b == d) w := by
  have u3 := Try.underlying21
  have a3 := Try.isAgg21
  have z3 := Try.sizeOf21
  have hS : Try.prog.underlying 50 = some (.struct (Try.prog.fieldsOf 50)) := by kernel_rfl
  rw [show (10000 : Nat) = 9999 + 1 from rfl, run_equalIn_agg w 9999 50 _ _ hS (by kernel_rfl)]
  simp only [Program.fieldsOf, Try.underlying50]
  go_simp
  by_cases h1 : a = c <;> by_cases h2 : b = d <;> simp [h1, h2]
theorem ne_rg (a b : Int) (w : World) : (binOp .neq 50 (.agg #[.int .i32 a, .int .i32 b]) (.agg #[.int .i32 a, .int .i32 b])).run Try.prog w = .ok (.bool false) w := by
  rw [run_neq_struct, eqRg]
  simp
set_option maxHeartbeats 2000000 in
set_option maxRecDepth 100000 in
theorem sameRanges_true (a b : Option Addr) (c d n : Nat) (xs : Nat → Rg) (w : World) (ha : Rml w a xs n) (hb : Rml w b xs n) (hn : n ≤ 1152921504606846976) :
    Calls Try.prog 20 #[.slice a n c, .slice b n d] w fun r w' => r = .returned (.bool true) ∧ Below w.heap.size w w' := by
  have hN := ne_rg
  have HA : Hid (Rml w a xs n) := ha
  have HB : Hid (Rml w b xs n) := hb
  obtain ⟨G, hG⟩ : ∃ G, G = w.heap.size := ⟨_, rfl⟩
  have HG : Hid (G = w.heap.size) := hG
  rw [← hG]
  clear ha hb hG
  go_enter Try.func20, Try.ntmps20
  go_wp2
  go_loopw [5] (fun ivv w' => ∃ i : Nat, ivv = .int .i64 (i : Int) ∧ i ≤ n ∧ Hid (Below G w w')) (fun ivv _ => n - (RowKit.intOf ivv).toNat)
  case atStart => exact ⟨0, rfl, by omega, Below.refl _ _⟩
  case round =>
    obtain ⟨i, rfl, hi, hb⟩ := hrel
    by_cases hlt : i < n
    · have hii : (i : Int) < n := by omega
      obtain ⟨g1, o1, rfl, _, x0, x1⟩ := HA.out.at i hlt
      obtain ⟨g2, o2, rfl, _, y0, y1⟩ := HB.out.at i hlt
      have hb' : Below w.heap.size w wr := HG.out ▸ hb.out
      have e0 := bcell2 hb' x0
      have e1 := bcell2 hb' x1
      have e2 := bcell2 hb' y0
      have e3 := bcell2 hb' y1
      obtain ⟨⟨xk, xi⟩, hx⟩ : ∃ x, xs i = x := ⟨_, rfl⟩
      rw [hx] at e0 e1 e2 e3
      dsimp only at e0 e1 e2 e3
      have HB2 : Hid (∀ m, Below G w (wr.drewN m)) := fun m => below_drewN hb.out m
      clear hx x0 x1 y0 y1 hb hb'
      go_wp2_with fail
      go_big_quiet (fail)
      have HB3 : Hid _ := HB2.out nq
      generalize wr.drewN nq = W6 at *
      go_wp2
      exact ⟨⟨i + 1, by go_num, by omega, HB3⟩, by simp [RowKit.intOf]; omega⟩
    · have hii : ¬ (i : Int) < n := by omega
      go_wp2
      go_ret
      exact ⟨rfl, hb.out⟩

/-- Texts that a slice shows. -/
def Sml (w : World) (a : Option Addr) (f : Nat → ByteArray) (n : Nat) : Prop := n = 0 ∨ ∃ g o, a = some ⟨g, o, none⟩ ∧ g < w.heap.size ∧ ∀ j, j < n → w.cell? ⟨g, o + j, none⟩ = some (.string (f j))
theorem Sml.below {w w' : World} {a : Option Addr} {f : Nat → ByteArray} {n : Nat} (h : Sml w a f n) (hb : Below w.heap.size w w') : Sml w' a f n := by
  rcases h with h | ⟨g, o, rfl, hg, hc⟩
  · exact .inl h
  · exact .inr ⟨g, o, rfl, Nat.lt_of_lt_of_le hg hb.size, fun j hj => (hb.cell (p := ⟨g, o + j, none⟩) hg).trans (hc j hj)⟩
theorem Sml.at {w : World} {a : Option Addr} {f : Nat → ByteArray} {n : Nat} (h : Sml w a f n) (j : Nat) (hj : j < n) : ∃ g o, a = some ⟨g, o, none⟩ ∧ g < w.heap.size ∧ w.cell? ⟨g, o + j, none⟩ = some (.string (f j)) := by
  rcases h with h | ⟨g, o, rfl, hg, hat⟩
  · omega
  · exact ⟨g, o, rfl, hg, hat j hj⟩
set_option maxHeartbeats 2000000 in
set_option maxRecDepth 100000 in
theorem sameTexts_true (a b : Option Addr) (c d n : Nat) (xs : Nat → ByteArray) (w : World) (ha : Sml w a xs n) (hb : Sml w b xs n) (hn : n ≤ 1152921504606846976) :
    Calls Try.prog 19 #[.slice a n c, .slice b n d] w fun r w' => r = .returned (.bool true) ∧ Below w.heap.size w w' := by
  have HA : Hid (Sml w a xs n) := ha
  have HB : Hid (Sml w b xs n) := hb
  obtain ⟨G, hG⟩ : ∃ G, G = w.heap.size := ⟨_, rfl⟩
  have HG : Hid (G = w.heap.size) := hG
  rw [← hG]
  clear ha hb hG
  go_enter Try.func19, Try.ntmps19
  go_wp2
  go_loopw [5] (fun ivv w' => ∃ i : Nat, ivv = .int .i64 (i : Int) ∧ i ≤ n ∧ Hid (Below G w w')) (fun ivv _ => n - (RowKit.intOf ivv).toNat)
  case atStart => exact ⟨0, rfl, by omega, Below.refl _ _⟩
  case round =>
    obtain ⟨i, rfl, hi, hb⟩ := hrel
    by_cases hlt : i < n
    · have hii : (i : Int) < n := by omega
      obtain ⟨g1, o1, rfl, _, x0⟩ := HA.out.at i hlt
      obtain ⟨g2, o2, rfl, _, y0⟩ := HB.out.at i hlt
      have hb' : Below w.heap.size w wr := HG.out ▸ hb.out
      have e0 := bcell2 hb' x0
      have e2 := bcell2 hb' y0
      generalize xs i = s at *
      have HB2 : Hid (∀ m, Below G w (wr.drewN m)) := fun m => below_drewN hb.out m
      clear x0 y0 hb hb'
      go_wp2_with fail
      go_big_quiet (fail)
      have HB3 : Hid _ := HB2.out nq
      generalize wr.drewN nq = W6 at *
      go_wp2
      exact ⟨⟨i + 1, by go_num, by omega, HB3⟩, by simp [RowKit.intOf]; omega⟩
    · have hii : ¬ (i : Int) < n := by omega
      go_wp2
      go_ret
      exact ⟨rfl, hb.out⟩
end Go.Proofs.Ytbciclnffokjjaa
/- RxprogSounds: same programs. -/
namespace Go.Proofs.Ytbciclnffokjjaa
open Go.RowKit

/-- Two instructions that are the same but for where their ranges lie. -/
def Alk (x y : In) : Prop := x.op = y.op ∧ x.out = y.out ∧ x.alt = y.alt ∧ x.arg = y.arg ∧ x.rn = y.rn ∧ x.rf = y.rf

set_option maxHeartbeats 4000000 in
set_option maxRecDepth 100000 in
theorem sameProg_true (ia ja : Option Addr) (n ic jc : Nat) (st gr : Int) (na ma : Option Addr) (nn nc mc : Nat) (x y : Nat → In) (s : Nat → ByteArray) (w : World) (hx : Nml w ia x n) (hy : Nml w ja y n) (hxy : ∀ j, j < n → Alk (x j) (y j)) (hs : Sml w na s nn) (ht : Sml w ma s nn) (hn : n ≤ 1152921504606846976) (hnn : nn ≤ 1152921504606846976) :
    Calls Try.prog 9 #[prV ia n ic st gr na nn nc, prV ja n jc st gr ma nn mc] w fun r w' => r = .returned (.bool true) ∧ Below w.heap.size w w' := by
  obtain ⟨G, hG⟩ : ∃ G, G = w.heap.size := ⟨_, rfl⟩
  obtain ⟨W, hW⟩ : ∃ W, W = (w.alloc (prX ia n ic st gr na nn nc)).alloc (prX ja n jc st gr ma nn mc) := ⟨_, rfl⟩
  have b1 : Below w.heap.size w (w.alloc (prX ia n ic st gr na nn nc)) := (Below.refl _ w).alloc (Nat.le_refl _) _
  have b2 : Below (w.alloc (prX ia n ic st gr na nn nc)).heap.size (w.alloc (prX ia n ic st gr na nn nc)) W := by rw [hW]; exact (Below.refl _ _).alloc (Nat.le_refl _) _
  have HB : Hid (Below w.heap.size w W) := b1.trans (b2.mono b1.size)
  obtain ⟨c0, c1, c2, c3⟩ := prX_cells ia n ic st gr na nn nc b2
  have hd : Below ((w.alloc (prX ia n ic st gr na nn nc)).alloc (prX ja n jc st gr ma nn mc)).heap.size ((w.alloc (prX ia n ic st gr na nn nc)).alloc (prX ja n jc st gr ma nn mc)) W := by rw [← hW]; exact Below.refl _ _
  obtain ⟨d0, d1, d2, d3⟩ := prX_cells ja n jc st gr ma nn mc hd
  rw [show (w.alloc (prX ia n ic st gr na nn nc)).heap.size = G + 1 by rw [hG]; simp] at d0 d1 d2 d3
  rw [← hG] at c0 c1 c2 c3
  have kT := sameTexts_true na ma nc mc nn s W (hs.below HB.out) (ht.below HB.out) hnn
  have HX : Hid (Nml W ia x n) := hx.below HB.out
  have HY : Hid (Nml W ja y n) := hy.below HB.out
  have HXY : Hid (∀ j, j < n → Alk (x j) (y j)) := hxy
  have HW : Hid (W = (w.alloc (prX ia n ic st gr na nn nc)).alloc (prX ja n jc st gr ma nn mc)) := hW
  have HG : Hid (G = w.heap.size) := hG
  have C0 : Hid _ := c0
  have D0 : Hid _ := d0
  clear hd b1 b2 hW hG hx hy hxy hs ht
  go_enter Try.func9, Try.ntmps9
  go_wp2_with fail
  rw [← HW.out, ← HG.out]
  go_fit kT
  rintro r w1 ⟨rfl, b1⟩
  have B1 : Hid (Below W.heap.size W w1) := b1
  have f0 := bcell2 b1 C0.out
  have g0 := bcell2 b1 D0.out
  clear b1 kT c0 c1 c2 c3 d0 d1 d2 d3
  go_wp2
  go_loopw [5] (fun ivv w' => ∃ i : Nat, ivv = .int .i64 (i : Int) ∧ i ≤ n ∧ Hid (Below W.heap.size W w')) (fun ivv _ => n - (RowKit.intOf ivv).toNat)
  case atStart => exact ⟨0, rfl, by omega, B1⟩
  case round =>
    obtain ⟨i, rfl, hi, hb⟩ := hrel
    clear f0 g0
    have f0 := bcell2 hb.out C0.out
    have g0 := bcell2 hb.out D0.out
    by_cases hlt : i < n
    · have hii : (i : Int) < n := by omega
      obtain ⟨g1, o1, rfl, _, x0, x1, x2, x3, x4, hr, hrn⟩ := HX.out.at i hlt
      obtain ⟨g2, o2, rfl, _, y0, y1, y2, y3, y4, hq, _⟩ := HY.out.at i hlt
      obtain ⟨l1, l2, l3, l4, l5, l6⟩ := HXY.out i hlt
      rw [← l1] at y0
      rw [← l2] at y1
      rw [← l3] at y2
      rw [← l4] at y3
      rw [← l5] at y4 hq
      rw [← l6] at hq
      have u0 := bcell2 hb.out x0
      have u1 := bcell2 hb.out x1
      have u2 := bcell2 hb.out x2
      have u3 := bcell2 hb.out x3
      have u4 := bcell2 hb.out x4
      have v0 := bcell2 hb.out y0
      have v1 := bcell2 hb.out y1
      have v2 := bcell2 hb.out y2
      have v3 := bcell2 hb.out y3
      have v4 := bcell2 hb.out y4
      have HR : Hid (∀ q, Below wr.heap.size wr q → Rml q (x i).ra (x i).rf (x i).rn ∧ Rml q (y i).ra (x i).rf (x i).rn) := fun q h => ⟨(hr.below hb.out).below h, (hq.below hb.out).below h⟩
      generalize (y i).ra = ya at *
      generalize (y i).rc = yc at *
      obtain ⟨⟨op, out, alt, arg, ra, rn, rc, rf⟩, hx⟩ : ∃ z, x i = z := ⟨_, rfl⟩
      rw [hx] at u0 u1 u2 u3 u4 v0 v1 v2 v3 v4 HR hrn
      dsimp only at u0 u1 u2 u3 u4 v0 v1 v2 v3 v4 HR hrn
      have HLT : Hid (i < n) := hlt
      have lG := World.block_lt_of_cell? wr _ g0
      have l1' := World.block_lt_of_cell? wr _ u0
      have l2' := World.block_lt_of_cell? wr _ v0
      dsimp only at lG l1' l2'
      have na1 : wr.heap.size ≠ G := by omega
      have na2 : wr.heap.size ≠ G + 1 := by omega
      have na3 : wr.heap.size ≠ g1 := by omega
      have na4 : wr.heap.size ≠ g2 := by omega
      have nb1 : wr.heap.size + 1 ≠ G := by omega
      have nb2 : wr.heap.size + 1 ≠ G + 1 := by omega
      have nb3 : wr.heap.size + 1 ≠ g1 := by omega
      have nb4 : wr.heap.size + 1 ≠ g2 := by omega
      clear lG l1' l2'
      clear hx x0 x1 x2 x3 x4 y0 y1 y2 y3 y4 l1 l2 l3 l4 l5 l6 hr hq
      have Af0 := fun o => bcell2 ((Below.refl _ wr).alloc (Nat.le_refl _) o) f0
      have Bf0 := fun o o' => bcell2 (((Below.refl wr.heap.size wr).alloc (Nat.le_refl _) o).alloc (alloc_lt wr o) o') f0
      have Ag0 := fun o => bcell2 ((Below.refl _ wr).alloc (Nat.le_refl _) o) g0
      have Bg0 := fun o o' => bcell2 (((Below.refl wr.heap.size wr).alloc (Nat.le_refl _) o).alloc (alloc_lt wr o) o') g0
      have Au0 := fun o => bcell2 ((Below.refl _ wr).alloc (Nat.le_refl _) o) u0
      have Bu0 := fun o o' => bcell2 (((Below.refl wr.heap.size wr).alloc (Nat.le_refl _) o).alloc (alloc_lt wr o) o') u0
      have Au1 := fun o => bcell2 ((Below.refl _ wr).alloc (Nat.le_refl _) o) u1
      have Bu1 := fun o o' => bcell2 (((Below.refl wr.heap.size wr).alloc (Nat.le_refl _) o).alloc (alloc_lt wr o) o') u1
      have Au2 := fun o => bcell2 ((Below.refl _ wr).alloc (Nat.le_refl _) o) u2
      have Bu2 := fun o o' => bcell2 (((Below.refl wr.heap.size wr).alloc (Nat.le_refl _) o).alloc (alloc_lt wr o) o') u2
      have Au3 := fun o => bcell2 ((Below.refl _ wr).alloc (Nat.le_refl _) o) u3
      have Bu3 := fun o o' => bcell2 (((Below.refl wr.heap.size wr).alloc (Nat.le_refl _) o).alloc (alloc_lt wr o) o') u3
      have Au4 := fun o => bcell2 ((Below.refl _ wr).alloc (Nat.le_refl _) o) u4
      have Bu4 := fun o o' => bcell2 (((Below.refl wr.heap.size wr).alloc (Nat.le_refl _) o).alloc (alloc_lt wr o) o') u4
      have Av0 := fun o => bcell2 ((Below.refl _ wr).alloc (Nat.le_refl _) o) v0
      have Bv0 := fun o o' => bcell2 (((Below.refl wr.heap.size wr).alloc (Nat.le_refl _) o).alloc (alloc_lt wr o) o') v0
      have Av1 := fun o => bcell2 ((Below.refl _ wr).alloc (Nat.le_refl _) o) v1
      have Bv1 := fun o o' => bcell2 (((Below.refl wr.heap.size wr).alloc (Nat.le_refl _) o).alloc (alloc_lt wr o) o') v1
      have Av2 := fun o => bcell2 ((Below.refl _ wr).alloc (Nat.le_refl _) o) v2
      have Bv2 := fun o o' => bcell2 (((Below.refl wr.heap.size wr).alloc (Nat.le_refl _) o).alloc (alloc_lt wr o) o') v2
      have Av3 := fun o => bcell2 ((Below.refl _ wr).alloc (Nat.le_refl _) o) v3
      have Bv3 := fun o o' => bcell2 (((Below.refl wr.heap.size wr).alloc (Nat.le_refl _) o).alloc (alloc_lt wr o) o') v3
      have Av4 := fun o => bcell2 ((Below.refl _ wr).alloc (Nat.le_refl _) o) v4
      have Bv4 := fun o o' => bcell2 (((Below.refl wr.heap.size wr).alloc (Nat.le_refl _) o).alloc (alloc_lt wr o) o') v4
      go_wp2_with fail
      go_region
      all_goals clear Af0 Bf0 Ag0 Bg0 Au0 Bu0 Au1 Bu1 Au2 Bu2 Au3 Bu3 Au4 Bu4 Av0 Bv0 Av1 Bv1 Av2 Bv2 Av3 Bv3 Av4 Bv4 f0 g0 u0 u1 u2 u3 u4 v0 v1 v2 v3 v4 na1 na2 na3 na4 nb1 nb2 nb3 nb4
      · have b6 : Below wr.heap.size wr ((wr.alloc (inX op out alt arg ra rn rc)).alloc (inX op out alt arg ya rn yc)).drew := (((Below.refl _ wr).alloc (Nat.le_refl _) _).alloc (alloc_lt _ _) _).drew
        obtain ⟨p0, p1, p2, p3, p4⟩ := inX_cells op out alt arg ra rn rc (W := ((wr.alloc (inX op out alt arg ra rn rc)).alloc (inX op out alt arg ya rn yc)).drew) ((Below.refl _ (wr.alloc (inX op out alt arg ra rn rc))).alloc (Nat.le_refl _) _).drew
        obtain ⟨q0, q1, q2, q3, q4⟩ := inX_cells (w := wr.alloc (inX op out alt arg ra rn rc)) op out alt arg ya rn yc (W := ((wr.alloc (inX op out alt arg ra rn rc)).alloc (inX op out alt arg ya rn yc)).drew) (Below.refl _ _).drew
        rw [show (wr.alloc (inX op out alt arg ra rn rc)).heap.size = wr.heap.size + 1 by simp] at q0 q1 q2 q3 q4
        have kR := sameRanges_true ra ya rc yc rn rf ((wr.alloc (inX op out alt arg ra rn rc)).alloc (inX op out alt arg ya rn yc)).drew (HR.out _ b6).1 (HR.out _ b6).2 (by omega)
        have B6 : Hid (Below W.heap.size W ((wr.alloc (inX op out alt arg ra rn rc)).alloc (inX op out alt arg ya rn yc)).drew) := hb.out.trans (b6.mono hb.out.size)
        clear hb b6 HR
        generalize ((wr.alloc (inX op out alt arg ra rn rc)).alloc (inX op out alt arg ya rn yc)).drew = W6 at *
        go_wp2_with fail
        go_fit kR
        rintro r w7 ⟨rfl, b7⟩
        have B7 : Hid (Below W.heap.size W w7) := B6.out.trans (b7.mono B6.out.size)
        clear b7 p0 p1 p2 p3 p4 q0 q1 q2 q3 q4
        go_wp2
        exact ⟨⟨i + 1, by go_num, HLT.out, B7⟩, by simp [RowKit.intOf]; omega⟩
      · have b6 : Below wr.heap.size wr ((wr.alloc (inX op out alt arg ya rn yc)).alloc (inX op out alt arg ra rn rc)).drew := (((Below.refl _ wr).alloc (Nat.le_refl _) _).alloc (alloc_lt _ _) _).drew
        obtain ⟨p0, p1, p2, p3, p4⟩ := inX_cells op out alt arg ya rn yc (W := ((wr.alloc (inX op out alt arg ya rn yc)).alloc (inX op out alt arg ra rn rc)).drew) ((Below.refl _ (wr.alloc (inX op out alt arg ya rn yc))).alloc (Nat.le_refl _) _).drew
        obtain ⟨q0, q1, q2, q3, q4⟩ := inX_cells (w := wr.alloc (inX op out alt arg ya rn yc)) op out alt arg ra rn rc (W := ((wr.alloc (inX op out alt arg ya rn yc)).alloc (inX op out alt arg ra rn rc)).drew) (Below.refl _ _).drew
        rw [show (wr.alloc (inX op out alt arg ya rn yc)).heap.size = wr.heap.size + 1 by simp] at q0 q1 q2 q3 q4
        have kR := sameRanges_true ra ya rc yc rn rf ((wr.alloc (inX op out alt arg ya rn yc)).alloc (inX op out alt arg ra rn rc)).drew (HR.out _ b6).1 (HR.out _ b6).2 (by omega)
        have B6 : Hid (Below W.heap.size W ((wr.alloc (inX op out alt arg ya rn yc)).alloc (inX op out alt arg ra rn rc)).drew) := hb.out.trans (b6.mono hb.out.size)
        clear hb b6 HR
        generalize ((wr.alloc (inX op out alt arg ya rn yc)).alloc (inX op out alt arg ra rn rc)).drew = W6 at *
        go_wp2_with fail
        go_fit kR
        rintro r w7 ⟨rfl, b7⟩
        have B7 : Hid (Below W.heap.size W w7) := B6.out.trans (b7.mono B6.out.size)
        clear b7 p0 p1 p2 p3 p4 q0 q1 q2 q3 q4
        go_wp2
        exact ⟨⟨i + 1, by go_num, HLT.out, B7⟩, by simp [RowKit.intOf]; omega⟩
    · have hii : ¬ (i : Int) < n := by omega
      go_wp2
      go_ret
      exact ⟨rfl, HB.out.trans (hb.out.mono HB.out.size)⟩
end Go.Proofs.Ytbciclnffokjjaa
