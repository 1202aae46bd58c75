
/- PileDrains: the walk. -/
import Derived.Test.YtcgpjmpppajfdaaPn
namespace Go.Proofs.Ytcgpjmpppajfdaa
open Go.RowKit

set_option maxHeartbeats 0 in
set_option maxRecDepth 100000 in
def drainsX : { P : Prop × Prop × Prop × Prop × Prop × Prop × Prop // Hid P.1 → Hid P.2.1 → Hid P.2.2.1 → Hid P.2.2.2.1 → Hid P.2.2.2.2.1 → Hid P.2.2.2.2.2.1 → Hid P.2.2.2.2.2.2 → ∀ (a : Option Addr) (c n : Nat) (s : Nat → Stp) (w : World), Tml w a s n → TW s n → n * 24 ≤ 140737488351232 →
    Calls Try.prog 8 #[.slice a n c] w fun r w' => r = .returned (.bool true) ∧ Below w.heap.size w w' } := by
  refine' ⟨(_, _, _, _, _, _, _), fun Q0 Q2 Q1 Q3 Q4 Q5 QE => _⟩
  rotate_left 7
  · intro a c n s w hf hw hl
    have hN := ne_it
    have HF : Hid (Tml w a s n) := hf
    have HTW : Hid (TW s n) := hw
    obtain ⟨G0, hG0⟩ : ∃ G0, G0 = w.heap.size := ⟨_, rfl⟩
    have HG0 : Hid (G0 = w.heap.size) := hG0
    have HL : Hid (n * 24 ≤ 140737488351232) := hl
    have hnb : n ≤ 1152921504606846976 := by omega
    rw [← hG0]
    clear hf hw hG0 hl
    go_enter Try.func8, Try.ntmps8
    go_wp2_with fail
    refine (awake_any w).mono ?_
    rintro r w0 ⟨rfl, b0⟩
    have B0 : Hid (Below w.heap.size w w0) := b0
    clear b0
    have kP := piles_any 3 (by omega) w0
    obtain ⟨G, hG⟩ : ∃ G, G = w0.heap.size := ⟨_, rfl⟩
    have HG : Hid (G = w0.heap.size) := hG
    rw [← hG] at kP
    clear hG
    go_wp2_with fail
    go_fit kP
    rintro r w1 ⟨rfl, col, bb, xx, cs, pi⟩
    obtain ⟨w2, rm, li⟩ := LI.start pi (by omega) (by omega)
    obtain ⟨Bb, hBb⟩ : ∃ Bb, Bb = w1.heap.size := ⟨_, rfl⟩
    rw [← hBb] at rm li
    have rm : (Instr.makeSlice 53 (.int .i64 3) (.int .i64 3)).run Try.prog w1 = .ok (.slice (some ⟨Bb, 0, none⟩) 3 3) w2 := rm
    obtain ⟨b0, b1, b2, p0, p1, p2, ld⟩ := LD.start li
    have LD0 : Hid _ := ld
    clear pi li hBb kP col bb xx cs ld
    have p0a := cell_al (.cells #[.pointer (some ⟨b0, 0, none⟩)] 28) p0
    have p0b := cell_al (.cells #[.pointer (some ⟨b1, 0, none⟩)] 28) p0a
    have p0c := cell_al (.cells #[.pointer (some ⟨b2, 0, none⟩)] 28) p0b
    have p0d := cell_al (.cells #[.func (.func 43) #[] #[.pointer (some ⟨w2.heap.size, 0, none⟩)], .func (.func 43) #[] #[.pointer (some ⟨w2.heap.size + 1, 0, none⟩)], .func (.func 43) #[] #[.pointer (some ⟨w2.heap.size + 2, 0, none⟩)]] 39) p0c
    have p1a := cell_al (.cells #[.pointer (some ⟨b0, 0, none⟩)] 28) p1
    have p1b := cell_al (.cells #[.pointer (some ⟨b1, 0, none⟩)] 28) p1a
    have p1c := cell_al (.cells #[.pointer (some ⟨b2, 0, none⟩)] 28) p1b
    have p1d := cell_al (.cells #[.func (.func 43) #[] #[.pointer (some ⟨w2.heap.size, 0, none⟩)], .func (.func 43) #[] #[.pointer (some ⟨w2.heap.size + 1, 0, none⟩)], .func (.func 43) #[] #[.pointer (some ⟨w2.heap.size + 2, 0, none⟩)]] 39) p1c
    have p2a := cell_al (.cells #[.pointer (some ⟨b0, 0, none⟩)] 28) p2
    have p2b := cell_al (.cells #[.pointer (some ⟨b1, 0, none⟩)] 28) p2a
    have p2c := cell_al (.cells #[.pointer (some ⟨b2, 0, none⟩)] 28) p2b
    have p2d := cell_al (.cells #[.func (.func 43) #[] #[.pointer (some ⟨w2.heap.size, 0, none⟩)], .func (.func 43) #[] #[.pointer (some ⟨w2.heap.size + 1, 0, none⟩)], .func (.func 43) #[] #[.pointer (some ⟨w2.heap.size + 2, 0, none⟩)]] 39) p2c
    go_wp2_with fail
    go_region_held3 (fun w' => w'.cell? ⟨G, 0, none⟩ = some (.pointer (some ⟨b0, 0, none⟩)) ∧ w'.cell? ⟨G, 1, none⟩ = some (.pointer (some ⟨b1, 0, none⟩)) ∧ w'.cell? ⟨G, 2, none⟩ = some (.pointer (some ⟨b2, 0, none⟩))) (first | exact ⟨p0, p1, p2⟩ | exact ⟨p0a, p1a, p2a⟩ | exact ⟨p0b, p1b, p2b⟩ | exact ⟨p0c, p1c, p2c⟩ | exact ⟨p0d, p1d, p2d⟩) (first | (go_at_call 20; go_fit (drain_any _ _); rintro e w3 ⟨rfl, rfl⟩))
    obtain ⟨W4, hW4⟩ : ∃ W4, W4 = ((((w2.alloc (.cells #[.pointer (some ⟨b0, 0, none⟩)] 28)).alloc (.cells #[.pointer (some ⟨b1, 0, none⟩)] 28)).alloc (.cells #[.pointer (some ⟨b2, 0, none⟩)] 28)).alloc (.cells #[.func (.func 43) #[] #[.pointer (some ⟨w2.heap.size, 0, none⟩)], .func (.func 43) #[] #[.pointer (some ⟨w2.heap.size + 1, 0, none⟩)], .func (.func 43) #[] #[.pointer (some ⟨w2.heap.size + 2, 0, none⟩)]] 39)).drew := ⟨_, rfl⟩
    obtain ⟨Hb, hHb⟩ : ∃ Hb, Hb = w2.heap.size + 3 := ⟨_, rfl⟩
    have LD1 : Hid (LD G Bb Hb w0 0 W4) := by rw [hW4, hHb]; exact LD0
    have e4 : ((((w2.alloc (.cells #[.pointer (some ⟨b0, 0, none⟩)] 28)).alloc (.cells #[.pointer (some ⟨b1, 0, none⟩)] 28)).alloc (.cells #[.pointer (some ⟨b2, 0, none⟩)] 28)).alloc (.cells #[.func (.func 43) #[] #[.pointer (some ⟨w2.heap.size, 0, none⟩)], .func (.func 43) #[] #[.pointer (some ⟨w2.heap.size + 1, 0, none⟩)], .func (.func 43) #[] #[.pointer (some ⟨w2.heap.size + 2, 0, none⟩)]] 39)).drew = W4 := hW4.symm
    rw [show w2.heap.size + 1 + 1 + 1 = Hb from hHb.symm]
    rw [show w2.heap.size + 1 + 1 = w2.heap.size + 2 from rfl]
    rw [e4]
    clear LD0 hW4 hHb e4 p0 p1 p2 p0a p0b p0c p0d p1a p1b p1c p1d p2a p2b p2c p2d
    generalize w2.heap.size = H2 at *
    go_wp2
    go_loopw [35, 6] (fun ivv _ w' => ∃ (i : Nat), ivv = .int .i64 (i : Int) ∧ i ≤ n ∧ Hid (LD G Bb Hb w0 i w')) (fun ivv _ _ => n - (RowKit.intOf ivv).toNat)
    case atStart => exact ⟨0, rfl, by omega, LD1⟩
    case round =>
      obtain ⟨i, rfl, hi, li⟩ := hrel
      obtain ⟨col, bb, xx, v, vb, nn, mm, f, B, C, hp, ps, hd, hC⟩ := li.out
      clear li LD1
      by_cases hlt : i < n
      · have hii : (i : Int) < n := by omega
        have HI : Hid (i + 1 ≤ n) := hlt
        rcases id HF.out with h0 | ⟨g, o, rfl, hg, hat⟩
        · omega
        have hbw : Below w.heap.size w wr := B0.out.trans (ps.below.mono (by rw [HG.out]; exact B0.out.size))
        have q1 := (hbw.cell (p := ⟨g, o + i * 3, none⟩) hg).trans (hat i hlt).1
        have q2 := (hbw.cell (p := ⟨g, o + i * 3 + 1, none⟩) hg).trans (hat i hlt).2.1
        have q3 := (hbw.cell (p := ⟨g, o + i * 3 + 2, none⟩) hg).trans (hat i hlt).2.2
        obtain ⟨t1, t2⟩ := HTW.out i hlt
        obtain ⟨⟨kd, pi, nu⟩, hs⟩ : ∃ x, s i = x := ⟨_, rfl⟩
        rw [hs] at q1 q2 q3 t1 t2
        dsimp only at q1 q2 q3 t1 t2
        obtain ⟨k, hk⟩ : ∃ k, k = plc pi 3 := ⟨_, rfl⟩
        have hk3 : k < 3 := by rw [hk]; exact plc_lt pi 3 (by omega)
        have kPl := fun W => place_any pi 3 W t1 t2 (by omega) (by omega)
        rw [← hk] at kPl
        obtain ⟨W1, hW1⟩ : ∃ W1, W1 = wr.alloc (.cells #[.int .i64 kd, .int .i64 pi, .int .i64 nu] 55) := ⟨_, rfl⟩
        have b1 : Below wr.heap.size wr W1 := by rw [hW1]; exact (Below.refl _ wr).alloc (Nat.le_refl _) _
        have e1 : W1.heap[wr.heap.size]? = some (.cells #[.int .i64 kd, .int .i64 pi, .int .i64 nu] 55) := by rw [hW1]; exact heap_alloc_new wr _
        have s0 : W1.cell? ⟨wr.heap.size, 0, none⟩ = some (.int .i64 kd) := by unfold World.cell?; rw [e1]; rfl
        have s1 : W1.cell? ⟨wr.heap.size, 1, none⟩ = some (.int .i64 pi) := by unfold World.cell?; rw [e1]; rfl
        have s2 : W1.cell? ⟨wr.heap.size, 2, none⟩ = some (.int .i64 nu) := by unfold World.cell?; rw [e1]; rfl
        have ps1 := (ps.recol 6 (by omega)).below' b1
        have hd1 : HD 3 Hb (fun j => if j < wr.heap.size then col j else 6) W1 bb hp := hd.kp (Kp.of (M := fun _ => False) b1) (fun _ e => e.elim) (fun j hj => if_pos hj) (by omega)
        have LB : Hid (bb k < wr.heap.size ∧ ∀ g, (v k).ownBlock = some g → g < wr.heap.size) := ⟨World.block_lt_of_cell? wr _ (ps.pl k hk3).cm, fun g e => (World.ownsRow.lt (ps.pl k hk3).hp.row g e).2⟩
        have HSc : Hid ((fun j => if j < wr.heap.size then col j else 6) wr.heap.size = 6) := if_neg (by omega)
        generalize (fun j => if j < wr.heap.size then col j else 6) = col1 at *
        have PS1 : Hid (PS 3 G G Bb w0 col1 W1 bb xx v vb nn mm f B C) := ps1
        have HD1 : Hid (HD 3 Hb col1 W1 bb hp) := hd1
        have HW1 : Hid (W1 = wr.alloc (.cells #[.int .i64 kd, .int .i64 pi, .int .i64 nu] 55)) := hW1
        have HC : Hid (∀ k, k < 3 → C k = (B k).map (·.1) ∧ nn k ≤ i ∧ mm k ≤ i) := hC
        obtain ⟨Sb, hSb⟩ : ∃ Sb, Sb = wr.heap.size := ⟨_, rfl⟩
        have HSb : Hid (Sb = wr.heap.size) := hSb
        rw [← hSb] at s0 s1 s2 LB HSc
        have hki : (k : Int) < 3 := by omega
        have S0 : Hid _ := s0
        have S2 : Hid _ := s2
        have NX : Hid (LD G Bb Hb w0 (i + 1) W1) := ⟨col1, bb, xx, v, vb, nn, mm, f, B, C, hp, ps1, hd1, fun j hj => by obtain ⟨h1, h2, h3⟩ := hC j hj; exact ⟨h1, by omega, by omega⟩⟩
        have E1 : Hid (W1.heap[Sb]? = some (.cells #[.int .i64 kd, .int .i64 pi, .int .i64 nu] 55)) := by rw [hSb]; exact e1
        clear hat hs hbw e1 b1 ps ps1 hd hd1 hC hk hW1 hSb t1 t2
        go_wp2_with fail
        rw [← HW1.out, ← HSb.out]
        go_fit (kPl _)
        rintro r W2 ⟨rfl, rfl⟩
        clear kPl
        by_cases k02 : kd = 0 ∨ kd = 2
        · have hnn := (HC.out k hk3).2
          have E0 : Hid (((kd == 0) = true) ∨ ((kd == 0) = false ∧ (kd == 2) = true)) := by
            rcases k02 with h | h
            · exact .inl (by simp [h])
            · exact .inr (by simp [h])
          have bI : Below W2.heap.size W2 (W2.alloc (.cells #[.int .i64 nu, .int .i64 (i : Int)] 24)).drew := ((Below.refl _ W2).alloc (Nat.le_refl _) _).drew
          have ps4 := PS1.out.below' bI
          have hd4 := HD1.out.kp (Kp.of (M := fun _ => False) bI) (fun _ e => e.elim) (fun j _ => rfl) (by omega)
          have kPu := ppush_any (aF (fl k)) (bb k) (xx k) (nn k) (mm k) _ (v k) (f k) (nu, (i : Int)) _ (ahF (fl k)) (ps4.pl k hk3) (by have := HL.out; omega) (by have := HL.out; omega)
          have pk := PS1.out.pc k hk3
          have pka := cell_al (.cells #[.int .i64 nu, .int .i64 (i : Int)] 24) pk
          have za := cell_al (.cells #[.int .i64 nu, .int .i64 (i : Int)] 24) s2
          have PS4 : Hid (PS 3 G G Bb w0 col1 (W2.alloc (.cells #[.int .i64 nu, .int .i64 (i : Int)] 24)).drew bb xx v vb nn mm f B C) := ps4
          have HD4 : Hid (HD 3 Hb col1 (W2.alloc (.cells #[.int .i64 nu, .int .i64 (i : Int)] 24)).drew bb hp) := hd4
          have ZA : Hid ((W2.alloc (.cells #[.int .i64 nu, .int .i64 (i : Int)] 24)).drew.cell? ⟨Sb, 2, none⟩ = some (.int .i64 nu)) := za
          have HAft : Hid (∀ w5, (∃ g5 c5, Pl w5 (bb k) (xx k) (lvF (fl k)) (.slice (some ⟨g5, 0, none⟩) (nn k + 1) c5) (nn k + 1) (riseF (aF (fl k)) (up (f k) (nn k) ((nu, (i : Int)), ((mm k : Nat) : Int))) (nn k)) (mm k + 1) ∧ Kp (fun j => j = bb k ∨ (v k).ownBlock = some j) (W2.alloc (.cells #[.int .i64 nu, .int .i64 (i : Int)] 24)).drew w5 ∧ ((v k).ownBlock = some g5 ∨ (W2.alloc (.cells #[.int .i64 nu, .int .i64 (i : Int)] 24)).drew.heap.size ≤ g5)) →
              w5.cell? ⟨G, k, none⟩ = some (.pointer (some ⟨bb k, 0, none⟩)) ∧ w5.cell? ⟨Sb, 2, none⟩ = some (.int .i64 nu) ∧ ∃ ak ck L, w5.cell? ⟨Bb, k, none⟩ = some (.slice ak L ck) ∧ ∃ g6 c6 w6, (Builtin.append_ #[22, 22] 22 #[.slice ak L ck, .slice (some ⟨w5.heap.size + 1, 0, none⟩) 1 1]).run Try.prog ((w5.alloc (.cells #[.int .i64 nu, .int .i64 (i : Int)] 24)).alloc (.cells #[.int .i64 nu, .int .i64 (i : Int)] 24)).drew = .ok (.slice (some ⟨g6, 0, none⟩) (L + 1) c6) w6 ∧ w6.cell? ⟨Bb, k, none⟩ = some (.slice ak L ck) ∧ w6.frozen? ⟨Bb, k, none⟩ = false ∧ LD G Bb Hb w0 (i + 1) (w6.setCell ⟨Bb, k, none⟩ (.slice (some ⟨g6, 0, none⟩) (L + 1) c6))) := fun w5 ⟨g5, c5, p5, k5, hg5⟩ => by
            have ps5 := PS4.out.pile k hk3 k5 (fun j e => e) p5 ((PS4.out.bk k hk3).push (isF (fl k)) (nu, (i : Int))) (fun g e => by
              have e' : g5 = g := Option.some.inj e
              rw [← e']
              exact hg5)
            have hcM : ∀ j, (j = bb k ∨ (v k).ownBlock = some j) → col1 j ≠ 7 := fun j e => by
              have hc := PS4.out.c1 k hk3
              rcases e with e | e
              · rw [e, hc.1]; omega
              · rw [hc.2.2 j e]; omega
            have hd5 := HD4.out.kp (col' := fun j => if j < (W2.alloc (.cells #[.int .i64 nu, .int .i64 (i : Int)] 24)).drew.heap.size then col1 j else k) k5 hcM (fun j hj => if_pos hj) (by omega)
            have hnM : ¬ (Sb = bb k ∨ (v k).ownBlock = some Sb) := by
              rintro (e | e)
              · have := LB.out.1; omega
              · have := LB.out.2 Sb e; omega
            obtain ⟨ak, ck, ev, _, _⟩ := (ps5.row k hk3).iml
            have b6 : Below w5.heap.size w5 (w5.alloc (iX (nu, (i : Int)))).drew := ((Below.refl _ w5).alloc (Nat.le_refl _) _).drew
            have ps6 := ps5.below' b6
            have hd6 := hd5.kp (Kp.of (M := fun _ => False) b6) (fun _ e => e.elim) (fun j _ => rfl) (by omega)
            have hlk : (C k).length ≤ i := by rw [(HC.out k hk3).1, List.length_map, (PS4.out.bk k hk3).len]; exact (HC.out k hk3).2.1
            obtain ⟨g6, c6, w6, r6, o6, k6, hg6⟩ := append_i (w5.alloc (iX (nu, (i : Int)))).drew 0 (vb k) (C k).length (lk (C k)) (nu, (i : Int)) (Nat.zero_le _) (by have := HL.out; omega) ((ps5.row k hk3).below b6)
            have hl6 : (C k ++ [(nu, (i : Int))]).length = (C k).length + 1 := by simp
            obtain ⟨d1, d2, ps7⟩ := ps6.book k hk3 k6 (fun j e => e) (l' := C k ++ [(nu, (i : Int))]) (by rw [hl6]; exact Ir.congr o6 (lk_push (C k) (nu, (i : Int)))) (fun g e => by
              have e' : g6 = g := Option.some.inj e
              rw [← e']
              exact hg6)
            have hd7 := hd6.kp k6 (fun j e => by rw [ps6.c2 k hk3 j e]; omega) (col' := fun j => if j < (w5.alloc (iX (nu, (i : Int)))).drew.heap.size then (if j < (W2.alloc (.cells #[.int .i64 nu, .int .i64 (i : Int)] 24)).drew.heap.size then col1 j else k) else 10 + k) (fun j hj => if_pos hj) (by omega)
            have hltB : Bb < w6.heap.size := World.block_lt_of_cell? w6 _ d1
            have hd8 := hd7.kp (col' := fun j => if j < (w5.alloc (iX (nu, (i : Int)))).drew.heap.size then (if j < (W2.alloc (.cells #[.int .i64 nu, .int .i64 (i : Int)] 24)).drew.heap.size then col1 j else k) else 10 + k) ((Kp.refl (· = Bb) w6).setCell (p := ⟨Bb, k, none⟩) rfl (.slice (some ⟨g6, 0, none⟩) ((C k).length + 1) c6)) (fun j (e : j = Bb) h => by rw [e] at h; exact absurd (h.symm.trans ps7.cB) (by decide)) (fun j _ => rfl) (by omega)
            rw [ev] at d1
            refine ⟨ps5.pc k hk3, k5.cell ZA.out hnM, ak, ck, (C k).length, by rw [← ev]; exact (ps5.bc k hk3).1, g6, c6, w6, ?_, d1, d2, ?_⟩
            · have := r6
              rw [ev, show (w5.alloc (iX (nu, (i : Int)))).drew.heap.size = w5.heap.size + 1 by simp] at this
              exact this
            · refine ⟨_, bb, xx, _, _, _, _, _, _, _, hp, ps7, hd8, fun j hj => ?_⟩
              obtain ⟨h1, h2, h3⟩ := HC.out j hj
              by_cases hjk : j = k
              · subst hjk
                rw [up_same, up_same, up_same, up_same, h1, List.map_append]
                exact ⟨rfl, by omega, by omega⟩
              · rw [up_other _ _ _ _ hjk, up_other _ _ _ _ hjk, up_other _ _ _ _ hjk, up_other _ _ _ _ hjk]
                exact ⟨h1, by omega, by omega⟩
          clear ps4 hd4 bI hnn k02 PS4 HD4 ZA PS1 HD1 NX
          rcases E0.out with ek | ⟨ek, ek2⟩
          · rename_i z1Q0 z2Q0 z3Q0 z4Q0 z5Q0 z6Q0 z7Q0 z8Q0 z9Q0 z10Q0 z11Q0 z12Q0
            revert c n s w hN HTW G0 HG0 HL hnb z1Q0 w0 B0 G HG w1 w2 Bb z2Q0 rm b0 b1 b2 W4 Hb H2 z3Q0 z4Q0 z5Q0 wr u2 u6 u7 u8 u9 u10 u11 u12 u13 u36 u37 u38 u39 u40 u41 u42 u43 u44 u45 u46 u47 u48 u49 u50 u51 u52 u53 u54 u55 u56 u57 u58 u59 u60 u61 u62 u63 u64 u65 u66 u67 u68 u69 u70 u71 u72 u73 u74 u75 u76 u77 u78 u79 u80 u81 u82 u83 u84 u85 u86 u87 u88 u89 u90 u91 u92 u93 u94 u95 u96 u97 u98 u99 u100 u101 u102 u103 u104 u105 u106 u107 u108 u109 u110 u111 u112 u113 u114 u115 u116 u117 u118 u119 u120 u121 u122 u123 u124 u125 u126 u127 u128 u129 u130 u131 u132 u133 u134 u135 u136 u137 u138 u139 u140 u141 u142 u143 u144 u145 u146 u147 u148 u149 u150 u151 u152 u153 u154 u155 u156 u157 u158 u159 u160 u161 u162 u163 u164 u165 u166 u167 u168 u169 u170 u171 u172 u173 u174 u175 u176 u177 u178 u179 u180 u181 u182 u183 u184 u185 u186 u187 u188 u189 u190 u191 u192 u193 u194 u195 i hi col bb xx v vb nn mm f B C hp hlt hii HI g o HF hg kd pi nu q3 q2 q1 k hk3 col1 HC Sb HSc LB HSb hki z6Q0 z7Q0 z8Q0 z9Q0 z10Q0 z11Q0 z12Q0 W2 HW1 s2 s1 s0 S0 S2 E1 E0 kPu pk pka za HAft ek
            exact Q0.out
          · rename_i z1Q2 z2Q2 z3Q2 z4Q2 z5Q2 z6Q2 z7Q2 z8Q2 z9Q2 z10Q2 z11Q2 z12Q2
            revert c n s w hN HTW G0 HG0 HL hnb z1Q2 w0 B0 G HG w1 w2 Bb z2Q2 rm b0 b1 b2 W4 Hb H2 z3Q2 z4Q2 z5Q2 wr u2 u6 u7 u8 u9 u10 u11 u12 u13 u36 u37 u38 u39 u40 u41 u42 u43 u44 u45 u46 u47 u48 u49 u50 u51 u52 u53 u54 u55 u56 u57 u58 u59 u60 u61 u62 u63 u64 u65 u66 u67 u68 u69 u70 u71 u72 u73 u74 u75 u76 u77 u78 u79 u80 u81 u82 u83 u84 u85 u86 u87 u88 u89 u90 u91 u92 u93 u94 u95 u96 u97 u98 u99 u100 u101 u102 u103 u104 u105 u106 u107 u108 u109 u110 u111 u112 u113 u114 u115 u116 u117 u118 u119 u120 u121 u122 u123 u124 u125 u126 u127 u128 u129 u130 u131 u132 u133 u134 u135 u136 u137 u138 u139 u140 u141 u142 u143 u144 u145 u146 u147 u148 u149 u150 u151 u152 u153 u154 u155 u156 u157 u158 u159 u160 u161 u162 u163 u164 u165 u166 u167 u168 u169 u170 u171 u172 u173 u174 u175 u176 u177 u178 u179 u180 u181 u182 u183 u184 u185 u186 u187 u188 u189 u190 u191 u192 u193 u194 u195 i hi col bb xx v vb nn mm f B C hp hlt hii HI g o HF hg kd pi nu q3 q2 q1 k hk3 col1 HC Sb HSc LB HSb hki z6Q2 z7Q2 z8Q2 z9Q2 z10Q2 z11Q2 z12Q2 W2 HW1 s2 s1 s0 S0 S2 E1 E0 kPu pk pka za HAft ek ek2
            exact Q2.out
        · by_cases kdr : kd = 1 ∨ kd = 3 ∨ kd = 4 ∨ kd = 5
          · obtain ⟨ak, ck, ev, imk, hck⟩ := (PS1.out.row k hk3).iml
            have bcK := (PS1.out.bc k hk3).1
            have hcl := HD1.out.cell k hk3
            have pk := PS1.out.pc k hk3
            have hbx := (HD1.out.box k hk3).1
            rw [ev] at bcK
            have hnn := (HC.out k hk3).2
            have hLn : (C k).length = nn k := by rw [(HC.out k hk3).1, List.length_map]; exact (PS1.out.bk k hk3).len
            have hfl : ((k : Int) == 2) = fl k := by
              unfold fl
              by_cases hx : k % 3 = 2
              · rw [decide_eq_true hx, beq_iff_eq]; omega
              · rw [decide_eq_false hx, beq_eq_false_iff_ne]; omega
            rw [hLn] at bcK
            generalize hGN : nn k = L at *
            clear s1 imk NX ev hLn hck
            rcases kdr with rfl | rfl | rfl | rfl
            · rename_i z1Q1 z2Q1 z3Q1 z4Q1 z5Q1 z6Q1 z7Q1 z8Q1 z9Q1 z10Q1 z11Q1 z12Q1
              revert c n s w hN HTW G0 HG0 HL hnb z1Q1 w0 B0 G HG w1 w2 Bb z2Q1 rm b0 b1 b2 W4 Hb H2 z3Q1 z4Q1 z5Q1 wr u2 u6 u7 u8 u9 u10 u11 u12 u13 u36 u37 u38 u39 u40 u41 u42 u43 u44 u45 u46 u47 u48 u49 u50 u51 u52 u53 u54 u55 u56 u57 u58 u59 u60 u61 u62 u63 u64 u65 u66 u67 u68 u69 u70 u71 u72 u73 u74 u75 u76 u77 u78 u79 u80 u81 u82 u83 u84 u85 u86 u87 u88 u89 u90 u91 u92 u93 u94 u95 u96 u97 u98 u99 u100 u101 u102 u103 u104 u105 u106 u107 u108 u109 u110 u111 u112 u113 u114 u115 u116 u117 u118 u119 u120 u121 u122 u123 u124 u125 u126 u127 u128 u129 u130 u131 u132 u133 u134 u135 u136 u137 u138 u139 u140 u141 u142 u143 u144 u145 u146 u147 u148 u149 u150 u151 u152 u153 u154 u155 u156 u157 u158 u159 u160 u161 u162 u163 u164 u165 u166 u167 u168 u169 u170 u171 u172 u173 u174 u175 u176 u177 u178 u179 u180 u181 u182 u183 u184 u185 u186 u187 u188 u189 u190 u191 u192 u193 u194 u195 i hi col bb xx v vb nn mm f B C hp hlt hii HI g o HF hg pi nu q3 q2 k hk3 col1 HC Sb HSc LB HSb hki z6Q1 z7Q1 z8Q1 z9Q1 z10Q1 z11Q1 z12Q1 W2 PS1 HD1 s2 S2 ak ck hcl pk hbx hfl L hGN bcK hnn q1 HW1 s0 S0 E1 k02
              exact Q1.out
            · rename_i z1Q3 z2Q3 z3Q3 z4Q3 z5Q3 z6Q3 z7Q3 z8Q3 z9Q3 z10Q3 z11Q3 z12Q3
              revert c n s w hN HTW G0 HG0 HL hnb z1Q3 w0 B0 G HG w1 w2 Bb z2Q3 rm b0 b1 b2 W4 Hb H2 z3Q3 z4Q3 z5Q3 wr u2 u6 u7 u8 u9 u10 u11 u12 u13 u36 u37 u38 u39 u40 u41 u42 u43 u44 u45 u46 u47 u48 u49 u50 u51 u52 u53 u54 u55 u56 u57 u58 u59 u60 u61 u62 u63 u64 u65 u66 u67 u68 u69 u70 u71 u72 u73 u74 u75 u76 u77 u78 u79 u80 u81 u82 u83 u84 u85 u86 u87 u88 u89 u90 u91 u92 u93 u94 u95 u96 u97 u98 u99 u100 u101 u102 u103 u104 u105 u106 u107 u108 u109 u110 u111 u112 u113 u114 u115 u116 u117 u118 u119 u120 u121 u122 u123 u124 u125 u126 u127 u128 u129 u130 u131 u132 u133 u134 u135 u136 u137 u138 u139 u140 u141 u142 u143 u144 u145 u146 u147 u148 u149 u150 u151 u152 u153 u154 u155 u156 u157 u158 u159 u160 u161 u162 u163 u164 u165 u166 u167 u168 u169 u170 u171 u172 u173 u174 u175 u176 u177 u178 u179 u180 u181 u182 u183 u184 u185 u186 u187 u188 u189 u190 u191 u192 u193 u194 u195 i hi col bb xx v vb nn mm f B C hp hlt hii HI g o HF hg pi nu q3 q2 k hk3 col1 HC Sb HSc LB HSb hki z6Q3 z7Q3 z8Q3 z9Q3 z10Q3 z11Q3 z12Q3 W2 PS1 HD1 s2 S2 ak ck hcl pk hbx hfl L hGN bcK hnn q1 HW1 s0 S0 E1 k02
              exact Q3.out
            · rename_i z1Q4 z2Q4 z3Q4 z4Q4 z5Q4 z6Q4 z7Q4 z8Q4 z9Q4 z10Q4 z11Q4 z12Q4
              revert c n s w hN HTW G0 HG0 HL hnb z1Q4 w0 B0 G HG w1 w2 Bb z2Q4 rm b0 b1 b2 W4 Hb H2 z3Q4 z4Q4 z5Q4 wr u2 u6 u7 u8 u9 u10 u11 u12 u13 u36 u37 u38 u39 u40 u41 u42 u43 u44 u45 u46 u47 u48 u49 u50 u51 u52 u53 u54 u55 u56 u57 u58 u59 u60 u61 u62 u63 u64 u65 u66 u67 u68 u69 u70 u71 u72 u73 u74 u75 u76 u77 u78 u79 u80 u81 u82 u83 u84 u85 u86 u87 u88 u89 u90 u91 u92 u93 u94 u95 u96 u97 u98 u99 u100 u101 u102 u103 u104 u105 u106 u107 u108 u109 u110 u111 u112 u113 u114 u115 u116 u117 u118 u119 u120 u121 u122 u123 u124 u125 u126 u127 u128 u129 u130 u131 u132 u133 u134 u135 u136 u137 u138 u139 u140 u141 u142 u143 u144 u145 u146 u147 u148 u149 u150 u151 u152 u153 u154 u155 u156 u157 u158 u159 u160 u161 u162 u163 u164 u165 u166 u167 u168 u169 u170 u171 u172 u173 u174 u175 u176 u177 u178 u179 u180 u181 u182 u183 u184 u185 u186 u187 u188 u189 u190 u191 u192 u193 u194 u195 i hi col bb xx v vb nn mm f B C hp hlt hii HI g o HF hg pi nu q3 q2 k hk3 col1 HC Sb HSc LB HSb hki z6Q4 z7Q4 z8Q4 z9Q4 z10Q4 z11Q4 z12Q4 W2 PS1 HD1 s2 S2 ak ck hcl pk hbx hfl L hGN bcK hnn q1 HW1 s0 S0 E1 k02
              exact Q4.out
            · rename_i z1Q5 z2Q5 z3Q5 z4Q5 z5Q5 z6Q5 z7Q5 z8Q5 z9Q5 z10Q5 z11Q5 z12Q5
              revert c n s w hN HTW G0 HG0 HL hnb z1Q5 w0 B0 G HG w1 w2 Bb z2Q5 rm b0 b1 b2 W4 Hb H2 z3Q5 z4Q5 z5Q5 wr u2 u6 u7 u8 u9 u10 u11 u12 u13 u36 u37 u38 u39 u40 u41 u42 u43 u44 u45 u46 u47 u48 u49 u50 u51 u52 u53 u54 u55 u56 u57 u58 u59 u60 u61 u62 u63 u64 u65 u66 u67 u68 u69 u70 u71 u72 u73 u74 u75 u76 u77 u78 u79 u80 u81 u82 u83 u84 u85 u86 u87 u88 u89 u90 u91 u92 u93 u94 u95 u96 u97 u98 u99 u100 u101 u102 u103 u104 u105 u106 u107 u108 u109 u110 u111 u112 u113 u114 u115 u116 u117 u118 u119 u120 u121 u122 u123 u124 u125 u126 u127 u128 u129 u130 u131 u132 u133 u134 u135 u136 u137 u138 u139 u140 u141 u142 u143 u144 u145 u146 u147 u148 u149 u150 u151 u152 u153 u154 u155 u156 u157 u158 u159 u160 u161 u162 u163 u164 u165 u166 u167 u168 u169 u170 u171 u172 u173 u174 u175 u176 u177 u178 u179 u180 u181 u182 u183 u184 u185 u186 u187 u188 u189 u190 u191 u192 u193 u194 u195 i hi col bb xx v vb nn mm f B C hp hlt hii HI g o HF hg pi nu q3 q2 k hk3 col1 HC Sb HSc LB HSb hki z6Q5 z7Q5 z8Q5 z9Q5 z10Q5 z11Q5 z12Q5 W2 PS1 HD1 s2 S2 ak ck hcl pk hbx hfl L hGN bcK hnn q1 HW1 s0 S0 E1 k02
              exact Q5.out
          · have e0 : (kd == 0) = false := by simp; omega
            have e1 : (kd == 1) = false := by simp; omega
            have e2 : (kd == 2) = false := by simp; omega
            have e3 : (kd == 3) = false := by simp; omega
            have e4 : (kd == 4) = false := by simp; omega
            have e5 : (kd == 5) = false := by simp; omega
            clear k02 kdr s1 s2
            go_wp2
            exact ⟨⟨i + 1, by go_num, HI.out, NX⟩, by simp [RowKit.intOf]; omega⟩
      · have hii : ¬ (i : Int) < n := by omega
        have LIr : Hid (LD G Bb Hb w0 i wr) := ⟨col, bb, xx, v, vb, nn, mm, f, B, C, hp, ps, hd, hC⟩
        clear ps hd hC hp col bb xx v vb nn mm f B C
        rename_i z1QE z2QE z3QE z4QE z5QE
        revert a c n s w hN HF HTW G0 HG0 HL hnb z1QE w0 B0 G HG w1 w2 Bb z2QE rm b0 b1 b2 W4 Hb H2 z3QE z4QE z5QE wr u2 u6 u7 u8 u9 u10 u11 u12 u13 u36 u37 u38 u39 u40 u41 u42 u43 u44 u45 u46 u47 u48 u49 u50 u51 u52 u53 u54 u55 u56 u57 u58 u59 u60 u61 u62 u63 u64 u65 u66 u67 u68 u69 u70 u71 u72 u73 u74 u75 u76 u77 u78 u79 u80 u81 u82 u83 u84 u85 u86 u87 u88 u89 u90 u91 u92 u93 u94 u95 u96 u97 u98 u99 u100 u101 u102 u103 u104 u105 u106 u107 u108 u109 u110 u111 u112 u113 u114 u115 u116 u117 u118 u119 u120 u121 u122 u123 u124 u125 u126 u127 u128 u129 u130 u131 u132 u133 u134 u135 u136 u137 u138 u139 u140 u141 u142 u143 u144 u145 u146 u147 u148 u149 u150 u151 u152 u153 u154 u155 u156 u157 u158 u159 u160 u161 u162 u163 u164 u165 u166 u167 u168 u169 u170 u171 u172 u173 u174 u175 u176 u177 u178 u179 u180 u181 u182 u183 u184 u185 u186 u187 u188 u189 u190 u191 u192 u193 u194 u195 i hi hlt hii LIr
        exact QE.out
end Go.Proofs.Ytcgpjmpppajfdaa
