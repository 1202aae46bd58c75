/- PileScripts: the walk. -/
import Derived.Test.YtcgpjmpppajfdaaPf
import Derived.Deep.DeepFit
namespace Go.Proofs.Ytcgpjmpppajfdaa
open Go.RowKit

section
variable {q G Pb Bb : Nat} {w W W' : World} {col : Nat → Nat} {bb xx : Nat → Nat} {v vb : Nat → Value} {n m : Nat → Nat} {f : Nat → Nat → Rk} {B : Nat → List Rk} {C : Nat → List It}
theorem PS.recol (h : PS q G Pb Bb w col W bb xx v vb n m f B C) (z : Nat) (h0 : 0 < q) : PS q G Pb Bb w (fun j => if j < W.heap.size then col j else z) W bb xx v vb n m f B C := by
  have lt1 : ∀ j, j < q → bb j < W.heap.size := fun j hj => World.block_lt_of_cell? W _ (h.pl j hj).cm
  have lt2 : ∀ j, j < q → xx j < W.heap.size := fun j hj => World.block_lt_of_cell? W _ (h.pl j hj).hp.bxc
  have lt3 : ∀ j, j < q → ∀ g, (v j).ownBlock = some g → g < W.heap.size := fun j hj g e => (World.ownsRow.lt (h.pl j hj).hp.row g e).2
  have lt4 : ∀ j, j < q → ∀ g, (vb j).ownBlock = some g → g < W.heap.size := fun j hj g e => (World.ownsRow.lt (h.row j hj) g e).2
  have ltP : Pb < W.heap.size := World.block_lt_of_cell? W _ (h.pc 0 h0)
  have ltB : Bb < W.heap.size := World.block_lt_of_cell? W _ (h.bc 0 h0).1
  exact ⟨h.pl, h.bk, h.row, fun j hj => ⟨by rw [if_pos (lt1 j hj)]; exact (h.c1 j hj).1, by rw [if_pos (lt2 j hj)]; exact (h.c1 j hj).2.1, fun g e => by rw [if_pos (lt3 j hj g e)]; exact (h.c1 j hj).2.2 g e⟩, fun j hj g e => by rw [if_pos (lt4 j hj g e)]; exact h.c2 j hj g e, h.pc, h.bc, by rw [if_pos ltP]; exact h.cP, by rw [if_pos ltB]; exact h.cB, fun j hj => by have := h.gw; rw [if_pos (by omega)]; exact h.old j hj, h.below, h.gw, h.hq⟩
theorem PS.other (h : PS q G Pb Bb w col W bb xx v vb n m f B C) {M : Nat → Prop} (k : Kp M W W') (hM : ∀ j, M j → col j = 77) : PS q G Pb Bb w col W' bb xx v vb n m f B C := by
  have hq := h.hq
  have hP := h.cP
  have hB := h.cB
  have nB : ¬ M Bb := fun e => by have := hM _ e; omega
  have nP : ¬ M Pb := fun e => by have := hM _ e; omega
  refine ⟨fun j hj => ?_, h.bk, fun j hj => ?_, h.c1, h.c2, fun j hj => k.cell (h.pc j hj) nP, fun j hj => ⟨k.cell (h.bc j hj).1 nB, k.frozen (h.bc j hj).1 (h.bc j hj).2 nB⟩, hP, hB, h.old, h.below.trans (k.below h.gw (fun j hj e => by have := hM _ e; have := h.old j hj; omega)), Nat.le_trans h.gw k.size, hq⟩
  · obtain ⟨q1, q2, q3⟩ := h.c1 j hj
    exact (h.pl j hj).kp k (fun e => by have := hM _ e; omega) (fun e => by have := hM _ e; omega) (fun g e x => by have := hM _ x; have := q3 g e; omega)
  · exact k.row (h.row j hj) (fun g e x => by have := hM _ x; have := h.c2 j hj g e; omega)
end
/-- The piles from the k-th on, when the others are emptied. -/
structure ES (k G Bb : Nat) (w : World) (col : Nat → Nat) (W : World) (bb xx : Nat → Nat) (v vb : Nat → Value) (n m : Nat → Nat) (f : Nat → Nat → Rk) (B : Nat → List Rk) (C : Nat → List It) : Prop where
  pl : ∀ j, k ≤ j → j < 4 → Pl W (bb j) (xx j) (lvF (fl j)) (v j) (n j) (f j) (m j)
  bk : ∀ j, k ≤ j → j < 4 → Bk (Kf (fl j)) (B j) (n j) (f j) (m j)
  row : ∀ j, k ≤ j → j < 4 → Ir W 0 (vb j) (C j).length (lk (C j))
  c1 : ∀ j, j < 4 → col (bb j) = j ∧ col (xx j) = j ∧ ∀ g, (v j).ownBlock = some g → col g = j
  c2 : ∀ j, j < 4 → ∀ g, (vb j).ownBlock = some g → col g = 10 + j
  pc : ∀ j, j < 4 → W.cell? ⟨G, j, none⟩ = some (.pointer (some ⟨bb j, 0, none⟩))
  bc : ∀ j, j < 4 → W.cell? ⟨Bb, j, none⟩ = some (vb j)
  cP : col G = 8
  cB : col Bb = 9
  old : ∀ j, j < G → col j = 99
  below : Below G w W
  gw : G ≤ W.heap.size
def EI (G Bb : Nat) (w : World) (i k : Nat) (W : World) : Prop := ∃ col bb xx v vb n m f B C, ES k G Bb w col W bb xx v vb n m f B C ∧ ∀ j, k ≤ j → j < 4 → C j = (B j).map (·.1) ∧ n j ≤ i ∧ m j ≤ i
theorem EI.start {G Bb i : Nat} {w W : World} (h : LI 4 G G Bb w i W) : EI G Bb w i 0 W := by
  obtain ⟨col, bb, xx, v, vb, nn, mm, f, B, C, ps, hC⟩ := h
  exact ⟨col, bb, xx, v, vb, nn, mm, f, B, C, ⟨fun j _ hj => ps.pl j hj, fun j _ hj => ps.bk j hj, fun j _ hj => ps.row j hj, ps.c1, ps.c2, ps.pc, fun j hj => (ps.bc j hj).1, ps.cP, ps.cB, ps.old, ps.below, ps.gw⟩, fun j _ hj => hC j hj⟩
theorem EI.next {k G Bb i : Nat} {w W W' : World} {col : Nat → Nat} {bb xx : Nat → Nat} {v vb : Nat → Value} {n m : Nat → Nat} {f : Nat → Nat → Rk} {B : Nat → List Rk} {C : Nat → List It} (h : ES k G Bb w col W bb xx v vb n m f B C) (hC : ∀ j, k ≤ j → j < 4 → C j = (B j).map (·.1) ∧ n j ≤ i ∧ m j ≤ i) (hk : k < 4) (kp : Kp (fun j => j = bb k ∨ (v k).ownBlock = some j) W W') : EI G Bb w i (k + 1) W' := by
  have hM : ∀ j, (j = bb k ∨ (v k).ownBlock = some j) → col j = k := fun j e => by
    rcases e with e | e
    · rw [e]; exact (h.c1 k hk).1
    · exact (h.c1 k hk).2.2 j e
  have hP := h.cP
  have hB := h.cB
  refine ⟨col, bb, xx, v, vb, n, m, f, B, C, ⟨fun j hj hj4 => ?_, fun j hj hj4 => h.bk j (by omega) hj4, fun j hj hj4 => ?_, h.c1, h.c2, fun j hj => kp.cell (h.pc j hj) (fun (e : G = bb k ∨ (v k).ownBlock = some G) => by have := hM _ e; omega), fun j hj => kp.cell (h.bc j hj) (fun (e : Bb = bb k ∨ (v k).ownBlock = some Bb) => by have := hM _ e; omega), hP, hB, h.old, h.below.trans (kp.below h.gw (fun j hj e => by have := hM _ e; have := h.old j hj; omega)), Nat.le_trans h.gw kp.size⟩, fun j hj hj4 => hC j (by omega) hj4⟩
  · obtain ⟨q1, q2, q3⟩ := h.c1 j hj4
    exact (h.pl j (by omega) hj4).kp kp (fun e => by have := hM _ e; omega) (fun e => by have := hM _ e; omega) (fun g e x => by have := hM _ x; have := q3 g e; omega)
  · exact kp.row (h.row j (by omega) hj4) (fun g e x => by have := hM _ x; have := h.c2 j hj4 g e; omega)
theorem bcell2 {W W' : World} {p : Addr} {v : Value} (b : Below W.heap.size W W') (h : W.cell? p = some v) : W'.cell? p = some v := (Kp.of (M := fun _ => False) b).cell h id
set_option maxHeartbeats 4000000 in
set_option maxRecDepth 100000 in
theorem scripts_walk (a : Option Addr) (c n : Nat) (s : Nat → Stp) (w : World) (hf : Tml w a s n) (hw : TW s n) (hl : n * 24 ≤ 140737488351232) :
    Calls Try.prog 6 #[.slice a n c] w fun r w' => r = .returned (.bool true) ∧ Below w.heap.size w w' := by
  have hN := ne_it
  have HF : Hid (Tml w a s n) := hf
  have HTW : Hid (TW s n) := hw
  obtain ⟨G0, hG0⟩ : ∃ G0, G0 = w.heap.size := ⟨_, rfl⟩
  have HG0 : Hid (G0 = w.heap.size) := hG0
  have HL : Hid (n * 24 ≤ 140737488351232) := hl
  have hnb : n ≤ 1152921504606846976 := by omega
  rw [← hG0]
  clear hf hw hG0 hl
  go_enter Try.func6, Try.ntmps6
  go_wp2_with fail
  refine (awake_any w).mono ?_
  rintro r w0 ⟨rfl, b0⟩
  have B0 : Hid (Below w.heap.size w w0) := b0
  clear b0
  have kP := piles_any 4 (by omega) w0
  obtain ⟨G, hG⟩ : ∃ G, G = w0.heap.size := ⟨_, rfl⟩
  have HG : Hid (G = w0.heap.size) := hG
  rw [← hG] at kP
  clear hG
  go_wp2_with fail
  go_fit kP
  rintro r w1 ⟨rfl, col, bb, xx, cs, pi⟩
  obtain ⟨w2, rm, li⟩ := LI.start pi (by omega) (by omega)
  obtain ⟨Bb, hBb⟩ : ∃ Bb, Bb = w1.heap.size := ⟨_, rfl⟩
  rw [← hBb] at rm li
  have rm : (Instr.makeSlice 53 (.int .i64 4) (.int .i64 4)).run Try.prog w1 = .ok (.slice (some ⟨Bb, 0, none⟩) 4 4) w2 := rm
  have LI0 : Hid (LI 4 G G Bb w0 0 w2) := li
  clear pi li hBb kP col bb xx cs
  go_wp2
  go_loopw [20, 5] (fun ivv _ w' => ∃ (i : Nat), ivv = .int .i64 (i : Int) ∧ i ≤ n ∧ Hid (LI 4 G G Bb w0 i w')) (fun ivv _ _ => n - (RowKit.intOf ivv).toNat)
  case atStart => exact ⟨0, rfl, by omega, LI0⟩
  case round =>
    obtain ⟨i, rfl, hi, li⟩ := hrel
    obtain ⟨col, bb, xx, v, vb, nn, mm, f, B, C, ps, hC⟩ := li.out
    clear li LI0
    by_cases hlt : i < n
    · have hii : (i : Int) < n := by omega
      have HI : Hid (i + 1 ≤ n) := hlt
      rcases id HF.out with h0 | ⟨g, o, rfl, hg, hat⟩
      · omega
      have hbw : Below w.heap.size w wr := B0.out.trans (ps.below.mono (by rw [HG.out]; exact B0.out.size))
      have q1 := (hbw.cell (p := ⟨g, o + i * 3, none⟩) hg).trans (hat i hlt).1
      have q2 := (hbw.cell (p := ⟨g, o + i * 3 + 1, none⟩) hg).trans (hat i hlt).2.1
      have q3 := (hbw.cell (p := ⟨g, o + i * 3 + 2, none⟩) hg).trans (hat i hlt).2.2
      obtain ⟨t1, t2⟩ := HTW.out i hlt
      obtain ⟨⟨kd, pi, nu⟩, hs⟩ : ∃ x, s i = x := ⟨_, rfl⟩
      rw [hs] at q1 q2 q3 t1 t2
      dsimp only at q1 q2 q3 t1 t2
      obtain ⟨k, hk⟩ : ∃ k, k = plc pi 4 := ⟨_, rfl⟩
      have hk4 : k < 4 := by rw [hk]; exact plc_lt pi 4 (by omega)
      have kPl := fun W => place_any pi 4 W t1 t2 (by omega) (by omega)
      rw [← hk] at kPl
      obtain ⟨W1, hW1⟩ : ∃ W1, W1 = wr.alloc (.cells #[.int .i64 kd, .int .i64 pi, .int .i64 nu] 55) := ⟨_, rfl⟩
      have b1 : Below wr.heap.size wr W1 := by rw [hW1]; exact (Below.refl _ wr).alloc (Nat.le_refl _) _
      have e1 : W1.heap[wr.heap.size]? = some (.cells #[.int .i64 kd, .int .i64 pi, .int .i64 nu] 55) := by rw [hW1]; exact heap_alloc_new wr _
      have s0 : W1.cell? ⟨wr.heap.size, 0, none⟩ = some (.int .i64 kd) := by unfold World.cell?; rw [e1]; rfl
      have s1 : W1.cell? ⟨wr.heap.size, 1, none⟩ = some (.int .i64 pi) := by unfold World.cell?; rw [e1]; rfl
      have s2 : W1.cell? ⟨wr.heap.size, 2, none⟩ = some (.int .i64 nu) := by unfold World.cell?; rw [e1]; rfl
      have ps1 := ps.below' b1
      obtain ⟨ak, ck, ev, imk, hck⟩ := (ps1.row k hk4).iml
      have pc := ps1.pc k hk4
      have bc := (ps1.bc k hk4).1
      rw [ev] at bc
      have hnk : (C k).length = nn k := by rw [(hC k hk4).1, List.length_map]; exact (ps1.bk k hk4).len
      have hni := (hC k hk4).2
      have kF := rfirst_any ak ck (C k).length (lk (C k)) (fl k) W1 imk (by have := HL.out; omega)
      have hfl : ((k : Int) % 3 == 2) = fl k := by
        unfold fl
        by_cases hx : k % 3 = 2
        · rw [decide_eq_true hx, beq_iff_eq]; omega
        · rw [decide_eq_false hx, beq_eq_false_iff_ne]; omega
      have PS1 : Hid (PS 4 G G Bb w0 col W1 bb xx v vb nn mm f B C) := ps1
      have HW1 : Hid (W1 = wr.alloc (.cells #[.int .i64 kd, .int .i64 pi, .int .i64 nu] 55)) := hW1
      have EV : Hid (vb k = .slice ak (C k).length ck) := ev
      have HC : Hid (∀ k, k < 4 → C k = (B k).map (·.1) ∧ nn k ≤ i ∧ mm k ≤ i) := hC
      have HNK : Hid ((C k).length = nn k) := hnk
      obtain ⟨L, hL⟩ : ∃ L, L = (C k).length := ⟨_, rfl⟩
      have HLe : Hid (L = (C k).length) := hL
      rw [← hL] at bc kF hck
      obtain ⟨Sb, hSb⟩ : ∃ Sb, Sb = wr.heap.size := ⟨_, rfl⟩
      have HSb : Hid (Sb = wr.heap.size) := hSb
      rw [← hSb] at s0 s1 s2
      have hki : (k : Int) < 4 := by omega
      have S0 : Hid _ := s0
      have S2 : Hid _ := s2
      have LB : Hid (bb k < wr.heap.size ∧ ∀ g, (v k).ownBlock = some g → g < wr.heap.size) := ⟨World.block_lt_of_cell? wr _ (ps.pl k hk4).cm, fun g e => (World.ownsRow.lt (ps.pl k hk4).hp.row g e).2⟩
      clear hat hs hbw e1 b1 ps ps1 hC hnk hL hk ev imk hW1 hSb t1 t2
      go_wp2_with fail
      rw [← HW1.out, ← HSb.out]
      go_fit (kPl _)
      rintro r W2 ⟨rfl, rfl⟩
      go_wp2_with fail
      go_fit kF
      rintro r w3 ⟨rfl, b3⟩
      have ps3 := PS1.out.below' b3
      obtain ⟨at_, hat_⟩ : ∃ at_, at_ = frs (Kf (fl k)) (lk (C k)) L := ⟨_, rfl⟩
      rw [← hat_]
      have HAT : Hid (at_ = frs (Kf (fl k)) (lk (C k)) L) := hat_
      clear hat_
      have z0 := bcell2 b3 S0.out
      have z2 := bcell2 b3 S2.out
      have hSb3 : Sb < w3.heap.size := World.block_lt_of_cell? w3 _ z0
      have lb : bb k < Sb := by rw [HSb.out]; exact LB.out.1
      have lv_ : ∀ g, (v k).ownBlock = some g → g < Sb := by rw [HSb.out]; exact LB.out.2
      have bc3 := bcell2 b3 bc
      have PS3 : Hid (PS 4 G G Bb w0 col w3 bb xx v vb nn mm f B C) := ps3
      have Z0 : Hid _ := z0
      have Z2 : Hid _ := z2
      have LB3 : Hid (bb k < Sb ∧ ∀ g, (v k).ownBlock = some g → g < Sb) := ⟨lb, lv_⟩
      clear ps3 PS1 S0 S2 b3 kPl kF s0 s1 s2 q1 q2 q3 bc pc lb lv_ HW1
      by_cases k0 : kd = 0
      · subst k0
        have hnn := (HC.out k hk4).2
        have ps4 := PS3.out.below' ((Below.refl _ w3).alloc (Nat.le_refl _) (.cells #[.int .i64 nu, .int .i64 (i : Int)] 24))
        have kPu := ppush_any (aF (fl k)) (bb k) (xx k) (nn k) (mm k) _ (v k) (f k) (nu, (i : Int)) _ (ahF (fl k)) (ps4.pl k hk4) (by have := HL.out; omega) (by have := HL.out; omega)
        have z4 := cell_al (.cells #[.int .i64 nu, .int .i64 (i : Int)] 24) Z2.out
        have PS4 : Hid (PS 4 G G Bb w0 col (w3.alloc (.cells #[.int .i64 nu, .int .i64 (i : Int)] 24)) bb xx v vb nn mm f B C) := ps4
        have Z4 : Hid _ := z4
        have pc4 := PS3.out.pc k hk4
        clear ps4 z4
        go_wp2_with fail
        go_fit (it_exact nu (i : Int) w3)
        rintro r w4 ⟨rfl, rfl⟩
        go_wp2_with fail
        go_fit kPu
        rintro r w5 ⟨rfl, g5, c5, p5, k5, hg5⟩
        have ps5 := PS4.out.pile k hk4 k5 (fun j e => e) p5 ((PS4.out.bk k hk4).push (isF (fl k)) (nu, (i : Int))) (fun g e => by
          have e' : g5 = g := Option.some.inj e
          rw [← e']
          exact hg5)
        have hnM : ¬ (Sb = bb k ∨ (v k).ownBlock = some Sb) := by
          rintro (e | e)
          · have := LB3.out.1; omega
          · have := LB3.out.2 Sb e; omega
        have z5 := k5.cell Z4.out hnM
        have bc5 := (ps5.bc k hk4).1
        have row5 := ps5.row k hk4
        have b6 : Below w5.heap.size w5 (w5.alloc (iX (nu, (i : Int)))).drew := ((Below.refl _ w5).alloc (Nat.le_refl _) _).drew
        have ps6 := ps5.below' b6
        obtain ⟨g6, c6, w6, r6, o6, k6, hg6⟩ := append_i (w5.alloc (iX (nu, (i : Int)))).drew 0 (vb k) (C k).length (lk (C k)) (nu, (i : Int)) (Nat.zero_le _) (by have := HL.out; have := HNK.out; omega) (row5.below b6)
        have hl6 : (C k ++ [(nu, (i : Int))]).length = (C k).length + 1 := by simp
        obtain ⟨d1, d2, ps7⟩ := ps6.book k hk4 k6 (fun j e => e) (l' := C k ++ [(nu, (i : Int))]) (by rw [hl6]; exact Ir.congr o6 (lk_push (C k) (nu, (i : Int)))) (fun g e => by
          have e' : g6 = g := Option.some.inj e
          rw [← e']
          exact hg6)
        have LN : Hid (LI 4 G G Bb w0 (i + 1) (w6.setCell ⟨Bb, k, none⟩ (.slice (some ⟨g6, 0, none⟩) (L + 1) c6))) := by
          rw [HLe.out]
          refine ⟨_, bb, xx, _, _, _, _, _, _, _, ps7, fun j hj => ?_⟩
          obtain ⟨h1, h2, h3⟩ := HC.out j hj
          by_cases hjk : j = k
          · subst hjk
            rw [up_same, up_same, up_same, up_same, h1, List.map_append]
            exact ⟨rfl, by omega, by omega⟩
          · rw [up_other _ _ _ _ hjk, up_other _ _ _ _ hjk, up_other _ _ _ _ hjk, up_other _ _ _ _ hjk]
            exact ⟨h1, by omega, by omega⟩
        have r' : (Builtin.append_ #[22, 22] 22 #[.slice ak L ck, .slice (some ⟨w5.heap.size + 1, 0, none⟩) 1 1]).run Try.prog ((w5.alloc (.cells #[.int .i64 nu, .int .i64 (i : Int)] 24)).alloc (.cells #[.int .i64 nu, .int .i64 (i : Int)] 24)).drew = .ok (.slice (some ⟨g6, 0, none⟩) (L + 1) c6) w6 := by
          have := r6
          rw [EV.out, ← HLe.out, show (w5.alloc (iX (nu, (i : Int)))).drew.heap.size = w5.heap.size + 1 by simp] at this
          exact this
        rw [EV.out, ← HLe.out] at bc5 d1
        have bc6 := cell_al (.cells #[.int .i64 nu, .int .i64 (i : Int)] 24) bc5
        have bc8 := cell_al (.cells #[.int .i64 nu, .int .i64 (i : Int)] 24) bc6
        have z6 := cell_al (.cells #[.int .i64 nu, .int .i64 (i : Int)] 24) z5
        have z7 := cell_al (.cells #[.int .i64 nu, .int .i64 (i : Int)] 24) z6
        clear p5 k5 hg5 ps5 row5 b6 ps6 r6 o6 k6 hg6 ps7 kPu PS4 Z4 hl6 hnn hnM
        go_wp2_with fail
        go_region_law (first | (refine step_append_run rfl (.tmp 55) (.tmp 60) 22 22 rfl _ _ rfl rfl r' ?_) | (refine step_it rfl 57 58 #[3, 3] rfl nu (i : Int) rfl rfl ?_))
        all_goals go_wp2
        all_goals exact ⟨⟨i + 1, by go_num, HI.out, LN⟩, by simp [RowKit.intOf]; omega⟩
      · by_cases k12 : kd = 1 ∨ kd = 2
        · have e0 : (kd == 0) = false := by simpa using k0
          rcases frs_spec (Kf (fl k)) (lk (C k)) L with ⟨h0, e⟩ | ⟨b, hb, e, h1, h2⟩
          · have eat : at_ = -1 := HAT.out.trans e
            subst eat
            have hn0 : nn k = 0 := by rw [← HNK.out, ← HLe.out]; exact h0
            have p3 := PS3.out.pl k hk4
            rw [hn0] at p3
            have kE := peek_none (bb k) (xx k) (mm k) _ (v k) (f k) w3 p3
            have pc3 := PS3.out.pc k hk4
            have LN0 : Hid (∀ W, Below w3.heap.size w3 W → LI 4 G G Bb w0 (i + 1) W) := fun W hW => ⟨col, bb, xx, v, vb, nn, mm, f, B, C, PS3.out.below' hW, fun j hj => by obtain ⟨h1, h2, h3⟩ := HC.out j hj; exact ⟨h1, by omega, by omega⟩⟩
            have KQ : Hid (∀ W, Below w3.heap.size w3 W → Calls Try.prog 14 #[.pointer (some ⟨bb k, 0, none⟩)] W fun r w' => r = .returned (.tuple #[iv (0, 0), .bool false]) ∧ Below W.heap.size W w') := fun W hW => ppop_none (bb k) (xx k) (mm k) _ (v k) (f k) W (p3.below hW)
            have heq : eqB (0, 0) (0, 0) = true := rfl
            clear h0 e hn0 p3 k0
            rcases k12 with k12 | k12
            · subst k12
              go_wp2_with fail
              go_fit kE
              rintro r w4 ⟨er, b4⟩
              have er : r = .returned (.tuple #[.agg #[.int .i64 0, .int .i64 0], .bool false]) := er
              subst er
              have b5 : Below w3.heap.size w3 (w4.alloc (.cells #[.int .i64 0, .int .i64 0] 24)) := b4.alloc b4.size _
              have y0 := bcell2 b5 Z0.out
              have e5 : (w4.alloc (.cells #[.int .i64 0, .int .i64 0] 24)).heap[w4.heap.size]? = some (.cells #[.int .i64 0, .int .i64 0] 24) := heap_alloc_new w4 _
              have kQ := KQ.out _ b5
              have E5 : Hid _ := e5
              have B5 : Hid (Below w3.heap.size w3 (w4.alloc (.cells #[.int .i64 0, .int .i64 0] 24))) := b5
              have B4 : Hid (w3.heap.size ≤ w4.heap.size) := b4.size
              clear b4 b5 kE z0 z2 e5 KQ
              go_wp2_with fail
              go_fit kQ
              rintro r w6 ⟨er, b6⟩
              have er : r = .returned (.tuple #[.agg #[.int .i64 0, .int .i64 0], .bool false]) := er
              subst er
              have e6 : w6.heap[w4.heap.size]? = some (.cells #[.int .i64 0, .int .i64 0] 24) := (b6.block _ (Array.getElem?_eq_some_iff.1 E5.out).1).trans E5.out
              have c0 : w6.cell? ⟨w4.heap.size, 0, none⟩ = some (.int .i64 0) := by unfold World.cell?; rw [e6]; rfl
              have c1 : w6.cell? ⟨w4.heap.size, 1, none⟩ = some (.int .i64 0) := by unfold World.cell?; rw [e6]; rfl
              have f0_ : w6.frozen? ⟨w4.heap.size, 0, none⟩ = false := by unfold World.frozen?; rw [e6]; rfl
              have f1_ : w6.frozen? ⟨w4.heap.size, 1, none⟩ = false := by unfold World.frozen?; rw [e6]; rfl
              obtain ⟨W7, h7⟩ : ∃ W7, W7 = (w6.setCell ⟨w4.heap.size, 0, none⟩ (.int .i64 0)).setCell ⟨w4.heap.size, 1, none⟩ (.int .i64 0) := ⟨_, rfl⟩
              have b7 : Below w3.heap.size w3 W7 := by rw [h7]; exact ((B5.out.trans (b6.mono B5.out.size)).setCell (p := ⟨w4.heap.size, 0, none⟩) B4.out _).setCell (p := ⟨w4.heap.size, 1, none⟩) B4.out _
              have e7 : W7.heap[w4.heap.size]? = some (.cells #[.int .i64 0, .int .i64 0] 24) := by rw [h7]; exact heap_setCell_same _ _ 1 _ 24 _ (heap_setCell_same _ _ 0 _ 24 _ e6)
              have y7 := bcell2 b7 Z0.out
              have x0 : W7.cell? ⟨w4.heap.size, 0, none⟩ = some (.int .i64 0) := by unfold World.cell?; rw [e7]; rfl
              have x1 : W7.cell? ⟨w4.heap.size, 1, none⟩ = some (.int .i64 0) := by unfold World.cell?; rw [e7]; rfl
              have H7 : Hid (W7 = (w6.setCell ⟨w4.heap.size, 0, none⟩ (.int .i64 0)).setCell ⟨w4.heap.size, 1, none⟩ (.int .i64 0)) := h7
              have B7 : Hid (Below w3.heap.size w3 W7) := b7
              clear b6 b7 h7 e6 e7 kQ E5
              go_wp2_with fail
              rw [← H7.out]
              go_big_quiet (fail)
              have LN : Hid _ := LN0.out _ (below_drewN B7.out nq)
              have y3 : (W7.drewN nq).cell? ⟨Sb, 0, none⟩ = some (.int .i64 1) := y7
              clear y7 x0 x1 B7 H7 c0 c1 f0_ f1_ y0
              generalize W7.drewN nq = W8 at *
              go_wp2
              exact ⟨⟨i + 1, by go_num, HI.out, LN⟩, by simp [RowKit.intOf]; omega⟩
            · subst k12
              go_wp2_with fail
              go_fit kE
              rintro r w4 ⟨er, b4⟩
              have er : r = .returned (.tuple #[.agg #[.int .i64 0, .int .i64 0], .bool false]) := er
              subst er
              have b5 : Below w3.heap.size w3 (w4.alloc (.cells #[.int .i64 0, .int .i64 0] 24)) := b4.alloc b4.size _
              have y0 := bcell2 b5 Z0.out
              have x0 : (w4.alloc (.cells #[.int .i64 0, .int .i64 0] 24)).cell? ⟨w4.heap.size, 0, none⟩ = some (.int .i64 0) := iX_cell w4 (0, 0) 0 _ rfl
              have x1 : (w4.alloc (.cells #[.int .i64 0, .int .i64 0] 24)).cell? ⟨w4.heap.size, 1, none⟩ = some (.int .i64 0) := iX_cell w4 (0, 0) 1 _ rfl
              have B5 : Hid (Below w3.heap.size w3 (w4.alloc (.cells #[.int .i64 0, .int .i64 0] 24))) := b5
              clear b4 b5 kE z0 z2
              go_wp2_with fail
              generalize w4.alloc (.cells #[.int .i64 0, .int .i64 0] 24) = W5 at *
              go_big_quiet (fail)
              have LN : Hid _ := LN0.out _ (below_drewN B5.out nq)
              have y3 : (W5.drewN nq).cell? ⟨Sb, 0, none⟩ = some (.int .i64 2) := y0
              clear y0 x0 x1 B5
              generalize W5.drewN nq = W6 at *
              go_wp2
              exact ⟨⟨i + 1, by go_num, HI.out, LN⟩, by simp [RowKit.intOf]; omega⟩
          · have eat : at_ = (b : Int) := HAT.out.trans e
            subst eat
            have hbC : b < (C k).length := by rw [← HLe.out]; exact hb
            have hF : Fst (Kf (fl k)) (C k) b := fst_of (fl k) (C k) b hbC (fun j hj => h1 j (by rw [HLe.out]; exact hj)) h2
            obtain ⟨p, hp⟩ : ∃ p, nn k = p + 1 := ⟨nn k - 1, by have := HNK.out; omega⟩
            have p3 := PS3.out.pl k hk4
            have bk3 := PS3.out.bk k hk4
            rw [hp] at p3 bk3
            obtain ⟨g5, c5, ev5⟩ : ∃ g c, v k = .slice (some ⟨g, 0, none⟩) (p + 1) c := by
              rcases p3.hp.row.2 with ⟨_, e⟩ | ⟨g, c, _, e, _⟩
              · omega
              · exact ⟨g, c, e⟩
            have hCk := (HC.out k hk4).1
            obtain ⟨hx0, bk4⟩ := bk3.pop (isF (fl k)) (hCk ▸ hF)
            rw [← hCk] at hx0
            have hpb : p + 1 ≤ 1152921504606846976 := by have := (HC.out k hk4).2; omega
            rw [ev5] at p3
            have kE := peek_some (bb k) (xx k) g5 c5 p (mm k) _ (f k) w3 p3 hpb
            have pc3 := PS3.out.pc k hk4
            obtain ⟨⟨xk, xi⟩, hx⟩ : ∃ x, lk (C k) b = x := ⟨_, rfl⟩
            rw [hx] at hx0
            rw [hx0] at kE
            have heq : eqB (xk, xi) (xk, xi) = true := (eqB_iff _ _).2 rfl
            have HX : Hid (lk (C k) b = (xk, xi)) := hx
            have HX0 : Hid ((f k 0).1 = (xk, xi)) := hx0
            have HP3 : Hid (Pl w3 (bb k) (xx k) (lvF (fl k)) (.slice (some ⟨g5, 0, none⟩) (p + 1) c5) (p + 1) (f k) (mm k)) := p3
            have HBK : Hid _ := bk4
            have HEV : Hid (v k = .slice (some ⟨g5, 0, none⟩) (p + 1) c5) := ev5
            have hbL : b < L := hb
            have hbi : (b : Int) < L := by omega
            have HROW : Hid (∀ W, Ir W 0 (vb k) (C k).length (lk (C k)) → ∃ gk ok, ak = some ⟨gk, ok, none⟩ ∧ W.cell? ⟨gk, ok + b * 2, none⟩ = some (.int .i64 xk) ∧ W.cell? ⟨gk, ok + b * 2 + 1, none⟩ = some (.int .i64 xi)) := fun W hr => by
              rw [EV.out] at hr
              obtain ⟨_, _, e, im, _⟩ := hr.iml
              cases e
              rcases im with h | ⟨gk, ok, e, _, hat⟩
              · omega
              · have := hat b hbC
                rw [HX.out] at this
                exact ⟨gk, ok, e, this.1, this.2⟩
            clear h1 h2 e hp p3 bk3 bk4 ev5 hCk hx hx0 hF hbC k0
            rcases k12 with k12 | k12
            · subst k12
              go_wp2_with fail
              go_fit kE
              rintro r w4 ⟨er, b4⟩
              have er : r = .returned (.tuple #[.agg #[.int .i64 xk, .int .i64 xi], .bool true]) := er
              subst er
              have ps4 := (PS3.out.below' b4).recol 77 (by omega)
              have b5 : Below w4.heap.size w4 (w4.alloc (.cells #[.int .i64 xk, .int .i64 xi] 24)) := (Below.refl _ w4).alloc (Nat.le_refl _) _
              have ps5 := ps4.below' b5
              have y0 := bcell2 b5 (bcell2 b4 Z0.out)
              have e5 : (w4.alloc (.cells #[.int .i64 xk, .int .i64 xi] 24)).heap[w4.heap.size]? = some (.cells #[.int .i64 xk, .int .i64 xi] 24) := heap_alloc_new w4 _
              have p5 := (HP3.out.below b4).below b5
              have kQ := ppop_some (aF (fl k)) (bb k) (xx k) g5 c5 p (mm k) _ (f k) _ (ahF (fl k)) p5 hpb
              rw [HX0.out] at kQ
              have LBs : bb k < w4.heap.size ∧ g5 < w4.heap.size := by
                have h1 := LB3.out.1
                have h2 := LB3.out.2 g5 (by rw [HEV.out]; rfl)
                have h3 := b4.size
                omega
              have hSb4 : Sb < w4.heap.size := Nat.lt_of_lt_of_le hSb3 b4.size
              have HLB : Hid (bb k < w4.heap.size ∧ g5 < w4.heap.size) := LBs
              have PS5 : Hid (PS 4 G G Bb w0 (fun j => if j < w4.heap.size then col j else 77) (w4.alloc (.cells #[.int .i64 xk, .int .i64 xi] 24)) bb xx v vb nn mm f B C) := ps5
              have E5 : Hid _ := e5
              have Y0 : Hid _ := y0
              clear b4 b5 ps4 ps5 kE z0 z2 e5 p5 LBs
              go_wp2_with fail
              go_fit kQ
              rintro r w6 ⟨er, p6, k6⟩
              have er : r = .returned (.tuple #[.agg #[.int .i64 xk, .int .i64 xi], .bool true]) := er
              subst er
              have ps6 := PS5.out.pile k hk4 k6 (fun j e => e.imp id (fun e => by rw [HEV.out, e]; rfl)) p6 HBK.out (fun g e => .inl (by rw [HEV.out]; exact e))
              have nX : ¬ (w4.heap.size = bb k ∨ w4.heap.size = g5) := by have := HLB.out; omega
              have hX5 : w4.heap.size < (w4.alloc (.cells #[.int .i64 xk, .int .i64 xi] 24)).heap.size := by simp
              have e6 : w6.heap[w4.heap.size]? = some (.cells #[.int .i64 xk, .int .i64 xi] 24) := (k6.block _ hX5 nX).trans E5.out
              have c0 : w6.cell? ⟨w4.heap.size, 0, none⟩ = some (.int .i64 xk) := by unfold World.cell?; rw [e6]; rfl
              have c1 : w6.cell? ⟨w4.heap.size, 1, none⟩ = some (.int .i64 xi) := by unfold World.cell?; rw [e6]; rfl
              have f0_ : w6.frozen? ⟨w4.heap.size, 0, none⟩ = false := by unfold World.frozen?; rw [e6]; rfl
              have f1_ : w6.frozen? ⟨w4.heap.size, 1, none⟩ = false := by unfold World.frozen?; rw [e6]; rfl
              obtain ⟨W7, h7⟩ : ∃ W7, W7 = (w6.setCell ⟨w4.heap.size, 0, none⟩ (.int .i64 xk)).setCell ⟨w4.heap.size, 1, none⟩ (.int .i64 xi) := ⟨_, rfl⟩
              have k7 : Kp (· = w4.heap.size) w6 W7 := by rw [h7]; exact ((Kp.refl (· = w4.heap.size) w6).setCell (p := ⟨w4.heap.size, 0, none⟩) rfl _).setCell (p := ⟨w4.heap.size, 1, none⟩) rfl _
              have ps7 := ps6.other k7 (fun j (e : j = w4.heap.size) => by rw [e, if_pos hX5, if_neg (by omega)])
              have y6 := k6.cell Y0.out (fun (e : Sb = bb k ∨ Sb = g5) => by
                have h1 := LB3.out.1
                have h2 := LB3.out.2 g5 (by rw [HEV.out]; rfl)
                omega)
              have y7 := k7.cell y6 (fun (e : Sb = w4.heap.size) => by omega)
              have e7 : W7.heap[w4.heap.size]? = some (.cells #[.int .i64 xk, .int .i64 xi] 24) := by rw [h7]; exact heap_setCell_same _ _ 1 _ 24 _ (heap_setCell_same _ _ 0 _ 24 _ e6)
              have x0 : W7.cell? ⟨w4.heap.size, 0, none⟩ = some (.int .i64 xk) := by unfold World.cell?; rw [e7]; rfl
              have x1 : W7.cell? ⟨w4.heap.size, 1, none⟩ = some (.int .i64 xi) := by unfold World.cell?; rw [e7]; rfl
              have bc7 := (ps7.bc k hk4).1
              rw [EV.out, ← HLe.out] at bc7
              obtain ⟨gk, ok, eak, r0, r1⟩ := HROW.out _ (ps7.row k hk4)
              subst eak
              have H7 : Hid (W7 = (w6.setCell ⟨w4.heap.size, 0, none⟩ (.int .i64 xk)).setCell ⟨w4.heap.size, 1, none⟩ (.int .i64 xi)) := h7
              have HLN : Hid (∀ W8, Below W7.heap.size W7 W8 → Iml W8 (some ⟨gk, ok, none⟩) (lk (C k)) L ∧ ∀ v9 w9, Ir w9 W8.heap.size v9 (L - 1) (wo (lk (C k)) b) → Below W8.heap.size W8 w9 → w9.cell? ⟨Bb, k, none⟩ = some (.slice (some ⟨gk, ok, none⟩) L ck) ∧ w9.frozen? ⟨Bb, k, none⟩ = false ∧ LI 4 G G Bb w0 (i + 1) (w9.setCell ⟨Bb, k, none⟩ v9)) := fun W8 b8 => by
                have ps8 := ps7.below' b8
                refine ⟨?_, fun v9 w9 o9 b9 => ?_⟩
                · have hr := ps8.row k hk4
                  rw [EV.out, ← HLe.out] at hr
                  obtain ⟨_, _, e, im, _⟩ := hr.iml
                  cases e
                  exact im
                · have hle : ((C k).eraseIdx b).length = L - 1 := by rw [List.length_eraseIdx, if_pos (by rw [← HLe.out]; exact hbL), HLe.out]
                  obtain ⟨d1, d2, ps9⟩ := ps8.book k hk4 (Kp.of (M := fun _ => False) b9) (fun j e => e.elim) (l' := (C k).eraseIdx b) (by rw [hle]; exact row_base (Ir.congr o9 (fun j _ => wo_erase (C k) b j)) (Nat.zero_le _)) (fun g e => .inr (World.ownsRow.lt o9 g e).1)
                  rw [EV.out, ← HLe.out] at d1
                  refine ⟨d1, d2, _, bb, xx, _, _, _, _, _, _, _, ps9, fun j hj => ?_⟩
                  obtain ⟨h1, h2, h3⟩ := HC.out j hj
                  by_cases hjk : j = k
                  · subst hjk
                    rw [up_same, up_same, up_same, up_same, map_erase, ← h1]
                    have hn := HNK.out
                    have hl := HLe.out
                    have hnp : nn j = p + 1 := by
                      have h5 := (PS5.out.pl j hk4).hp.row
                      rw [HEV.out] at h5
                      rcases h5.2 with ⟨e, _⟩ | ⟨_, _, _, e, _⟩
                      · cases e
                      · injection e with _ e _
                        exact e.symm
                    exact ⟨rfl, by omega, by omega⟩
                  · rw [up_other _ _ _ _ hjk, up_other _ _ _ _ hjk, up_other _ _ _ _ hjk, up_other _ _ _ _ hjk]
                    exact ⟨h1, by omega, by omega⟩
              clear p6 k6 ps6 ps7 k7 e6 e7 kQ E5 h7 PS5 y6 HROW HBK HP3
              go_wp2_with fail
              rw [← H7.out]
              go_big_quiet (fail)
              obtain ⟨im8, HL8⟩ := HLN.out _ (below_drewN (Below.refl _ W7) nq)
              have y3 : (W7.drewN nq).cell? ⟨Sb, 0, none⟩ = some (.int .i64 1) := y7
              have bc8 : (W7.drewN nq).cell? ⟨Bb, k, none⟩ = some (.slice (some ⟨gk, ok, none⟩) L ck) := bc7
              clear y7 x0 x1 bc7 r0 r1 HLN H7 c0 c1 f0_ f1_ y0
              generalize W7.drewN nq = W8 at *
              have kW := rwithout_any (some ⟨gk, ok, none⟩) ck L b (lk (C k)) W8 im8 (by have := HL.out; have := (HC.out k hk4).2; have := HNK.out; have := HLe.out; omega) hbL
              have HL8' : Hid _ := HL8
              clear im8 HL8
              go_wp2_with fail
              go_fit kW
              rintro r w9 ⟨v9, rfl, o9, b9⟩
              obtain ⟨d1, d2, LN⟩ := HL8'.out v9 w9 o9 b9
              obtain ⟨a9, c9, rfl, _, _⟩ := o9.iml
              have LN : Hid _ := LN
              clear o9 b9 kW HL8'
              go_wp2
              exact ⟨⟨i + 1, by go_num, HI.out, LN⟩, by simp [RowKit.intOf]; omega⟩
            · subst k12
              go_wp2_with fail
              go_fit kE
              rintro r w4 ⟨er, b4⟩
              have er : r = .returned (.tuple #[.agg #[.int .i64 xk, .int .i64 xi], .bool true]) := er
              subst er
              have b5 : Below w3.heap.size w3 (w4.alloc (.cells #[.int .i64 xk, .int .i64 xi] 24)) := b4.alloc b4.size _
              have y0 := bcell2 b5 Z0.out
              have x0 : (w4.alloc (.cells #[.int .i64 xk, .int .i64 xi] 24)).cell? ⟨w4.heap.size, 0, none⟩ = some (.int .i64 xk) := iX_cell w4 (xk, xi) 0 _ rfl
              have x1 : (w4.alloc (.cells #[.int .i64 xk, .int .i64 xi] 24)).cell? ⟨w4.heap.size, 1, none⟩ = some (.int .i64 xi) := iX_cell w4 (xk, xi) 1 _ rfl
              have ps5 := PS3.out.below' b5
              have bc5 := (ps5.bc k hk4).1
              rw [EV.out, ← HLe.out] at bc5
              obtain ⟨gk, ok, eak, r0, r1⟩ := HROW.out _ (ps5.row k hk4)
              subst eak
              have LB5 : Hid (∀ q, LI 4 G G Bb w0 (i + 1) ((w4.alloc (.cells #[.int .i64 xk, .int .i64 xi] 24)).drewN q)) := fun q => ⟨col, bb, xx, v, vb, nn, mm, f, B, C, ps5.below' (below_drewN (Below.refl _ _) q), fun j hj => by obtain ⟨h1, h2, h3⟩ := HC.out j hj; exact ⟨h1, by omega, by omega⟩⟩
              clear b4 b5 kE z0 z2 ps5 HROW EV
              go_wp2_with fail
              generalize w4.alloc (.cells #[.int .i64 xk, .int .i64 xi] 24) = W5 at *
              go_big_quiet (fail)
              have LN : Hid _ := LB5.out nq
              have y3 : (W5.drewN nq).cell? ⟨Sb, 0, none⟩ = some (.int .i64 2) := y0
              clear y0 x0 x1 LB5 bc5 r0 r1
              generalize W5.drewN nq = W6 at *
              go_wp2
              exact ⟨⟨i + 1, by go_num, HI.out, LN⟩, by simp [RowKit.intOf]; omega⟩
        · have e0 : (kd == 0) = false := by simpa using k0
          have e1 : (kd == 1) = false := by simp; omega
          have e2 : (kd == 2) = false := by simp; omega
          by_cases k3 : kd = 3
          · subst k3
            have LN : Hid (∀ W, Below w3.heap.size w3 W → LI 4 G G Bb w0 (i + 1) W) := fun W hW => ⟨col, bb, xx, v, vb, nn, mm, f, B, C, PS3.out.below' hW, fun k hk => by obtain ⟨h1, h2, h3⟩ := HC.out k hk; exact ⟨h1, by omega, by omega⟩⟩
            have hLn : L = nn k := by rw [HLe.out]; exact HNK.out
            have cL := fun d os => Calls.regrown_of ((len_any (bb k) (xx k) (nn k) (mm k) _ _ _ (Go.Sort.grow (redrawn w3 d) os) ((PS3.out.pl k hk4).below (below_regrown w3 d os))).mono fun _ _ ⟨he, hw⟩ => ⟨he, hw ▸ Below.refl _ _⟩)
            rw [← hLn] at cL
            have eb := fun d os => cell_regrown bc3 d os
            clear hLn k0 k12 z2
            go_wp2_with fail
            refine wp_region_quiet_below (by kernel_rfl) (by kernel_rfl) ?_
            repeat (first | quiet_step (fail) | quiet_step (exact cL _ _))
            refine wpQuiet_nil ?_
            intro _ hw'
            obtain ⟨⟨dq, osq⟩, hw''⟩ := hw'
            subst hw''
            have LN2 : Hid _ := LN.out _ (below_regrown w3 dq osq)
            clear eb cL bc3 LN z0 Z0 Z2 PS3
            generalize Go.Sort.grow (redrawn w3 dq) osq = W4 at *
            go_wp2
            exact ⟨⟨i + 1, by go_num, HI.out, LN2⟩, by simp [RowKit.intOf]; omega⟩
          · have e3 : (kd == 3) = false := by simpa using k3
            have LN : Hid (LI 4 G G Bb w0 (i + 1) w3) := ⟨col, bb, xx, v, vb, nn, mm, f, B, C, PS3.out, fun k hk => by obtain ⟨h1, h2, h3⟩ := HC.out k hk; exact ⟨h1, by omega, by omega⟩⟩
            clear k0 k12 k3 z2
            go_wp2
            exact ⟨⟨i + 1, by go_num, HI.out, LN⟩, by simp [RowKit.intOf]; omega⟩
    · have hii : ¬ (i : Int) < n := by omega
      have HBF : Hid (∀ W, LI 4 G G Bb w0 i W → Below G0 w W) := fun W h => by
        obtain ⟨col, bb, xx, v, vb, nn, mm, f, B, C, ps, _⟩ := h
        rw [HG0.out]
        exact B0.out.trans (ps.below.mono (by rw [HG.out]; exact B0.out.size))
      have LIr : Hid (LI 4 G G Bb w0 i wr) := ⟨col, bb, xx, v, vb, nn, mm, f, B, C, ps, hC⟩
      clear ps hC col bb xx v vb nn mm f B C
      go_wp2
      go_loopw [135, 12, 13] (fun ivv _ _ w' => ∃ (k : Nat), ivv = .int .i64 (k : Int) ∧ k ≤ 4 ∧ Hid (EI G Bb w0 i k w')) (fun ivv _ _ _ => 4 - (RowKit.intOf ivv).toNat)
      case atStart => exact ⟨0, rfl, by omega, EI.start LIr.out⟩
      case round =>
        obtain ⟨k, rfl, hk, ei⟩ := hrel
        obtain ⟨col, bb, xx, v, vb, nn, mm, f, B, C, es, hC⟩ := ei.out
        by_cases hk4 : k < 4
        · have hki : (k : Int) < 4 := by omega
          have pc := es.pc k hk4
          have bc := es.bc k hk4
          obtain ⟨h1, h2, h3⟩ := hC k (Nat.le_refl _) hk4
          have hrow := es.row k (Nat.le_refl _) hk4
          obtain ⟨ak, ck, ev, imk, hck⟩ := hrow.iml
          rw [ev] at bc
          have bk := es.bk k (Nat.le_refl _) hk4
          have hnk : (C k).length = nn k := by rw [h1, List.length_map]; exact bk.len
          have hfl : ((k : Int) % 3 == 2) = fl k := by
            unfold fl
            by_cases hx : k % 3 = 2
            · rw [decide_eq_true hx, beq_iff_eq]; omega
            · rw [decide_eq_false hx, beq_eq_false_iff_ne]; omega
          rw [hnk] at bc imk hck
          have kE := emptied_any (aF (fl k)) (fl k) (bb k) (xx k) (nn k) (mm k) _ (v k) (f k) (B k) ak ck (lk (C k)) wr (ahF (fl k)) (isF (fl k)) (es.pl k (Nat.le_refl _) hk4) bk (by rw [← hnk, il_lk, h1]) imk hck (by have := HL.out; omega)
          have HE : Hid (∀ w', Kp (fun j => j = bb k ∨ (v k).ownBlock = some j) wr w' → EI G Bb w0 i (k + 1) w') := fun w' k' => EI.next es hC hk4 k'
          generalize nn k = N at *
          clear es hC ei hrow bk ev imk h1 h2 h3 hnk LIr
          go_wp2_with fail
          go_fit kE
          rintro r w5 ⟨rfl, k5⟩
          have HN : Hid _ := HE.out w5 k5
          clear k5 kE HE
          go_wp2
          exact ⟨⟨k + 1, by go_num, by omega, HN⟩, by simp [RowKit.intOf]; omega⟩
        · have hki : ¬ (k : Int) < 4 := by omega
          go_wp2
          go_ret
          refine ⟨rfl, ?_⟩
          obtain ⟨col, bb, xx, v, vb, nn, mm, f, B, C, es, hC⟩ := ei.out
          rw [HG0.out]
          exact B0.out.trans (es.below.mono (by rw [HG.out]; exact B0.out.size))
end Go.Proofs.Ytcgpjmpppajfdaa
