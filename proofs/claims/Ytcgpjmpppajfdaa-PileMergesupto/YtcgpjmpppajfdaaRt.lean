/- The reference's Sorted: the walk. -/
import Derived.Test.YtcgpjmpppajfdaaRs
namespace Go.Proofs.Ytcgpjmpppajfdaa
open Go.RowKit

theorem il_split (xs : Nat → It) (h m : Nat) : il xs (h + m) = il xs h ++ il (fun j => xs (h + j)) m := by
  induction m with
  | zero => simp [il]
  | succ m ih => rw [← Nat.add_assoc, il_succ, ih, il_succ, List.append_assoc]
theorem il_len (xs : Nat → It) (n : Nat) : (il xs n).length = n := by simp [il]
theorem lk_il (xs : Nat → It) (n j : Nat) (h : j < n) : lk (il xs n) j = xs j := by
  simp [lk, il, List.getD, h]
/-- One thing put behind a list. -/
theorem app_l {G : Nat} {w wr : World} {A : Option Addr} {C L : Nat} {l : List It} (hb : Below G w wr) (hGw : G ≤ wr.heap.size) (hL : L = l.length) (o : Ir wr G (.slice A L C) L (lk l)) (x : It) (hn : (L + 1) * 16 ≤ 140737488355328) :
    ∃ g c w', (Builtin.append_ #[22, 22] 22 #[.slice A L C, .slice (some ⟨wr.heap.size, 0, none⟩) 1 1]).run Try.prog (wr.alloc (.cells #[.int .i64 x.1, .int .i64 x.2] 24)) = .ok (.slice (some ⟨g, 0, none⟩) (L + 1) c) w' ∧ Ir w' G (.slice (some ⟨g, 0, none⟩) (L + 1) c) (L + 1) (lk (l ++ [x])) ∧ Below G w w' := by
  obtain ⟨g, c, w', r, o', k, _⟩ := append_i wr G (.slice A L C) L (lk l) x hGw hn o
  refine ⟨g, c, w', r, Ir.congr o' (fun j hj => by subst hL; exact lk_push l x j hj), hb.trans (k.below hGw (fun j hj e => ?_))⟩
  have := (World.ownsRow.lt o j e).1
  omega

set_option maxHeartbeats 4000000 in
set_option maxRecDepth 100000 in
theorem rsorted_any (flat : Bool) : ∀ (n : Nat) (a : Option Addr) (c : Nat) (xs : Nat → It) (w : World), Iml w a xs n → n ≤ c → n * 16 ≤ 140737488355328 →
    Calls Try.prog 34 #[.slice a n c, .bool flat] w fun r w' => ∃ v ys, r = .returned v ∧ ys.length = n ∧ Ir w' w.heap.size v n (lk ys) ∧ RS (Kf flat) (il xs n) ys ∧ Below w.heap.size w w' := by
  intro n
  induction n using Nat.strongRecOn with
  | ind n ih =>
  intro a c xs w hf hc hl
  obtain ⟨G, hG⟩ : ∃ G, G = w.heap.size := ⟨_, rfl⟩
  have HG : Hid (G = w.heap.size) := hG
  rw [← hG]
  have hnb : n ≤ 1152921504606846976 := by omega
  by_cases hn2 : n < 2
  · obtain ⟨v', w', r, o', b'⟩ := app_nil w a c n xs hf hl
    have HS : Hid (RS (Kf flat) (il xs n) (il xs n)) := RS.small (by rw [il_len]; exact hn2)
    have HO : Hid (Ir w' G v' n (lk (il xs n))) := by rw [hG]; exact Ir.congr o' (fun j hj => (lk_il xs n j hj).symm)
    have HB : Hid (Below G w w') := by rw [hG]; exact b'
    have hii : (n : Int) < 2 := by omega
    clear hf ih o' b' hG
    go_enter Try.func34, Try.ntmps34
    go_wp2_with (at_builtin; refine wpList_append_run rfl (.tmp 14) (.tmp 15) 22 22 rfl _ _ rfl rfl r ?_)
    go_ret
    exact ⟨_, _, rfl, il_len _ _, HO.out, HS.out, HB.out⟩
  · obtain ⟨h, hh⟩ : ∃ h, h = n / 2 := ⟨_, rfl⟩
    obtain ⟨m, hm⟩ : ∃ m, m = n - h := ⟨_, rfl⟩
    rcases hf with h0 | ⟨g, o, rfl, hg, hat⟩
    · omega
    have hq : ((n : Int)).tdiv 2 = (h : Int) := by rw [Int.tdiv_eq_ediv_of_nonneg (by omega)]; omega
    have i1 : Iml w (some ⟨g, o, none⟩) xs h := .inr ⟨g, o, rfl, hg, fun j hj => hat j (by omega)⟩
    have i2 : Iml w (some ⟨g, o + h * 2, none⟩) (fun j => xs (h + j)) m := .inr ⟨g, o + h * 2, rfl, hg, fun j hj => by
      have := hat (h + j) (by omega)
      rw [show o + h * 2 + j * 2 = o + (h + j) * 2 by omega]
      exact this⟩
    have k1 := ih h (by omega) (some ⟨g, o, none⟩) c xs w i1 (by omega) (by omega)
    have HK2 : Hid (∀ W, Below w.heap.size w W → Calls Try.prog 34 #[.slice (some ⟨g, o + h * 2, none⟩) m (c - h), .bool flat] W fun r w' => ∃ v ys, r = .returned v ∧ ys.length = m ∧ Ir w' W.heap.size v m (lk ys) ∧ RS (Kf flat) (il (fun j => xs (h + j)) m) ys ∧ Below W.heap.size W w') := fun W hW => ih m (by omega) _ (c - h) _ W (i2.below hW) (by omega) (by omega)
    have HSP : Hid (il xs n = il xs h ++ il (fun j => xs (h + j)) m) := by show _ = _; rw [← il_split]; congr 1; omega
    have hnm : n - h = m := hm.symm
    have hhn : h ≤ n := by omega
    have hch : h < c := by omega
    have hch2 : ¬ c - h = 0 := by omega
    have hch3 : ¬ c ≤ h := by omega
    have HN : Hid (h + m = n) := by show _ = _; omega
    have hii : ¬ (n : Int) < 2 := by omega
    have HL : Hid (n * 16 ≤ 140737488355328) := hl
    clear hat i1 i2 ih hh hm hn2 hl
    go_enter Try.func34, Try.ntmps34
    go_wp2_with fail
    refine k1.mono ?_
    rintro r w1 ⟨v1, y1, rfl, l1, o1, s1, b1⟩
    obtain ⟨A1, C1, rfl, m1, _⟩ := o1.iml
    have k2 := HK2.out w1 b1
    have HB1 : Hid (Below w.heap.size w w1) := b1
    have HM1 : Hid (Iml w1 A1 (lk y1) h) := m1
    have HS1 : Hid (RS (Kf flat) (il xs h) y1) := s1
    have HL1 : Hid (y1.length = h) := l1
    clear k1 HK2 o1 m1 s1 b1 l1
    go_wp2_with fail
    refine k2.mono ?_
    rintro r w2 ⟨v2, y2, rfl, l2, o2, s2, b2⟩
    obtain ⟨A2, C2, rfl, m2, _⟩ := o2.iml
    have HM2 : Hid (Iml w2 A2 (lk y2) m) := m2
    have HM3 : Hid (Iml w2 A1 (lk y1) h) := Iml.below HM1.out b2
    have HS2 : Hid (RS (Kf flat) (il (fun j => xs (h + j)) m) y2) := s2
    have HL2 : Hid (y2.length = m) := l2
    have HB2 : Hid (Below G w w2) := by rw [HG.out]; exact HB1.out.trans (b2.mono HB1.out.size)
    clear k2 o2 m2 s2 b2 l2 HM1 HB1
    obtain ⟨B, hB⟩ : ∃ B, B = w2.heap.size := ⟨_, rfl⟩
    have HBB : Hid (B = w2.heap.size) := hB
    have hmb : m ≤ n := by have := HN.out; omega
    clear hB hq hG hg
    go_wp2
    go_loopw [5, 9, 10] (fun lv ivv jvv w' => ∃ (i j : Nat) (l : List It) (A : Option Addr) (C : Nat), ivv = .int .i64 (i : Int) ∧ jvv = .int .i64 (j : Int) ∧ i ≤ h ∧ j ≤ m ∧ lv = .slice A (i + j) C ∧ Hid (l.length = i + j) ∧ Hid (Ir w' B (.slice A (i + j) C) (i + j) (lk l)) ∧ Hid (MI (Kf flat) y1 y2 i j l) ∧ Hid (Below B w2 w')) (fun _ ivv jvv _ => n - ((RowKit.intOf ivv).toNat + (RowKit.intOf jvv).toNat))
    case atStart => exact ⟨0, 0, [], none, 0, rfl, rfl, by omega, by omega, rfl, rfl, World.ownsRow_nil _ _ _ _, MI.nil _ _ _, by rw [HBB.out]; exact Below.refl _ _⟩
    case round =>
      obtain ⟨i, j, l, A, C, rfl, rfl, hi, hj, rfl, hlen, ol, mi, hb⟩ := hrel
      have hBw : B ≤ wr.heap.size := by rw [HBB.out]; exact (HBB.out ▸ hb.out).size
      by_cases hdone : i = h ∧ j = m
      · obtain ⟨rfl, rfl⟩ := hdone
        have HR : Hid (RS (Kf flat) (il xs n) l) := by
          show RS _ _ _
          rw [HSP.out]
          refine RS.merged HS1.out HS2.out ?_
          rw [HL1.out, HL2.out]
          exact mi.out
        have HO : Hid (Ir wr G (.slice A n C) n (lk l)) := by
          have := ol.out
          rw [HN.out] at this
          exact row_base this (by rw [HBB.out, HG.out]; exact (HG.out ▸ HB2.out).size)
        have HBF : Hid (Below G w wr) := HB2.out.trans (hb.out.mono (by rw [HBB.out, HG.out]; exact (HG.out ▸ HB2.out).size))
        have HLL : Hid (l.length = n) := by show _ = _; rw [hlen.out, HN.out]
        have e1 := HN.out
        have HE1 : Hid (i + j = n) := e1
        have hd1 : ¬ (i : Int) < (i : Int) := by omega
        rw [e1]
        clear e1 ol mi hlen
        go_wp2
        go_ret
        first | exact ⟨_, l, rfl, HLL.out, HO.out, HR.out, HBF.out⟩ | exact ⟨_, rfl, l, HLL.out, HO.out, HR.out, HBF.out⟩
      · have HB3 := hb.out
        have hij : i + j < n := by have := HN.out; omega
        have HIJ : Hid (i + j < n) := hij
        by_cases hjm : j = m
        · have hih : i < h := by omega
          have hii : (i : Int) < h := by omega
          have HH : Hid (i + 1 ≤ h ∧ j ≤ m) := ⟨hih, hj⟩
          have HJM : Hid (j = m) := hjm
          have heq : ((j : Int) == (m : Int)) = true := by simp [hjm]
          clear hjm HB3 hdone hj
          go_wp2_with fail
          go_big_quiet (fail)
          have HB4 : Hid (Below B w2 (wr.drewN nq)) := below_drewN hb.out nq
          have OL4 : Hid (Ir (wr.drewN nq) B (.slice A (i + j) C) (i + j) (lk l)) := ol.out.below (below_drewN (Below.refl _ _) nq)
          have hBw4 : B ≤ (wr.drewN nq).heap.size := hBw
          clear hb ol hBw
          generalize wr.drewN nq = W4 at *
          rcases HM3.out with h0 | ⟨g1, o1, rfl, hg1, hat1⟩
          · omega
          rw [← HBB.out] at hg1
          have q1 := (HB4.out.cell (p := ⟨g1, o1 + i * 2, none⟩) hg1).trans (hat1 i hih).1
          have q2 := (HB4.out.cell (p := ⟨g1, o1 + i * 2 + 1, none⟩) hg1).trans (hat1 i hih).2
          obtain ⟨g', c', w', r, o', b'⟩ := app_l HB4.out hBw4 hlen.out.symm OL4.out (lk y1 i) (by have := HL.out; omega)
          have MI2 : Hid (MI (Kf flat) y1 y2 (i + 1) j (l ++ [lk y1 i])) := mi.out.left (by rw [HL1.out]; exact hih) (.inl (by rw [HL2.out]; exact HJM.out)) (by rw [HL2.out]; exact HH.out.2)
          have O2 : Hid (Ir w' B (.slice (some ⟨g', 0, none⟩) (i + 1 + j) c') (i + 1 + j) (lk (l ++ [lk y1 i]))) := by rw [show i + 1 + j = i + j + 1 by omega]; exact o'
          have B2 : Hid (Below B w2 w') := b'
          have LL : Hid ((l ++ [lk y1 i]).length = i + 1 + j) := by show _ = _; have := hlen.out; simp; omega
          obtain ⟨⟨xk, xi⟩, hx⟩ : ∃ x, lk y1 i = x := ⟨_, rfl⟩
          rw [hx] at q1 q2 r MI2 O2 LL
          dsimp only at q1 q2 r
          clear hat1 o' b' mi OL4 hlen hx HB4
          obtain ⟨L, hL⟩ : ∃ L, L = i + j := ⟨_, rfl⟩
          have HLe : Hid (L = i + j) := hL
          rw [← hL] at r ⊢
          clear hL
          go_wp2_with (at_builtin; refine wpList_append_run rfl (.tmp 64) (.tmp 69) 22 22 rfl _ _ rfl rfl r ?_)
          exact ⟨⟨i + 1, j, l ++ [(xk, xi)], some ⟨g', 0, none⟩, c', by go_num, rfl, HH.out.1, HH.out.2, by rw [HLe.out]; congr 1; omega, LL, O2, MI2, B2⟩, by have := HIJ.out; simp [RowKit.intOf]; omega⟩
        · have hjl : j < m := by omega
          have hji : (j : Int) < m := by omega
          have HH : Hid (i ≤ h ∧ j + 1 ≤ m) := ⟨hi, hjl⟩
          have HNE : Hid (((j : Int) == (m : Int)) = false) := by show _ = _; simp; omega
          by_cases hih : i < h
          · have hii : (i : Int) < h := by omega
            have HDI : Hid (decide (i < h) = true) := decide_eq_true hih
            have HIH : Hid (i < h) := hih
            rcases id HM3.out with h0 | ⟨g3, o3, rfl, hg3, hat3⟩
            · omega
            rcases id HM2.out with h0 | ⟨g4, o4, rfl, hg4, hat4⟩
            · omega
            rw [← HBB.out] at hg3 hg4
            have c0 := (hb.out.cell (p := ⟨g4, o4 + j * 2, none⟩) hg4).trans (hat4 j hjl).1
            have c1 := (hb.out.cell (p := ⟨g4, o4 + j * 2 + 1, none⟩) hg4).trans (hat4 j hjl).2
            have d0 := (hb.out.cell (p := ⟨g3, o3 + i * 2, none⟩) hg3).trans (hat3 i hih).1
            have d1 := (hb.out.cell (p := ⟨g3, o3 + i * 2 + 1, none⟩) hg3).trans (hat3 i hih).2
            have kO := fun W => rless_any (lk y2 j) (lk y1 i) flat W
            have HE1 : Hid (decide (Kf flat (lk y2 j) < Kf flat (lk y1 i)) = true → Kf flat (lk y2 j) < Kf flat (lk y1 i)) := fun h => by simpa using h
            have HE2 : Hid (decide (Kf flat (lk y2 j) < Kf flat (lk y1 i)) = false → ¬ Kf flat (lk y2 j) < Kf flat (lk y1 i)) := fun h => by simpa using h
            obtain ⟨D, hD⟩ : ∃ D, D = decide (Kf flat (lk y2 j) < Kf flat (lk y1 i)) := ⟨_, rfl⟩
            rw [← hD] at HE1 HE2
            simp only [← hD] at kO
            obtain ⟨⟨zk, zi⟩, hz⟩ : ∃ x, lk y2 j = x := ⟨_, rfl⟩
            obtain ⟨⟨ak, ai⟩, ha⟩ : ∃ x, lk y1 i = x := ⟨_, rfl⟩
            have HZ : Hid (lk y2 j = (zk, zi)) := hz
            have HA : Hid (lk y1 i = (ak, ai)) := ha
            rw [hz] at c0 c1
            rw [ha] at d0 d1
            simp only [hz, ha] at kO
            dsimp only at c0 c1 d0 d1
            have e0 := fun d os => cell_regrown c0 d os
            have e1 := fun d os => cell_regrown c1 d os
            have g0 := fun d os => cell_regrown d0 d os
            have g1 := fun d os => cell_regrown d1 d os
            have cO := fun d os => Calls.regrown_of (kO (Go.Sort.grow (redrawn wr d) os))
            clear hD hz ha hat3 hat4 hjm HB3 hdone hj
            go_wp2_with fail
            have hne := HNE.out
            have hdi := HDI.out
            refine wp_region_quiet_below (by kernel_rfl) (by kernel_rfl) ?_
            repeat (first | quiet_step (fail) | quiet_step (exact cO _ _))
            refine wpQuiet_nil ?_
            intro _ hw'
            obtain ⟨⟨dq, osq⟩, hw''⟩ := hw'
            subst hw''
            have hb4 := below_regrown wr dq osq
            have HB4 : Hid (Below B w2 (Go.Sort.grow (redrawn wr dq) osq)) := hb.out.trans (hb4.mono hBw)
            have OL4 : Hid (Ir (Go.Sort.grow (redrawn wr dq) osq) B (.slice A (i + j) C) (i + j) (lk l)) := ol.out.below hb4
            have hBw4 : B ≤ (Go.Sort.grow (redrawn wr dq) osq).heap.size := Nat.le_trans hBw hb4.size
            have q0 := e0 dq osq
            have q1 := e1 dq osq
            have q2 := g0 dq osq
            have q3 := g1 dq osq
            clear hb ol hBw hne hdi c0 c1 d0 d1 e0 e1 g0 g1 cO kO hb4
            generalize Go.Sort.grow (redrawn wr dq) osq = W4 at *
            cases D with
            | true =>
              have hlt := HE1.out rfl
              have MI2 : Hid (MI (Kf flat) y1 y2 i (j + 1) (l ++ [lk y2 j])) := mi.out.right (by rw [HL2.out]; exact hjl) (.inr hlt) (by rw [HL1.out]; exact HH.out.1)
              obtain ⟨g', c', w', r, o', b'⟩ := app_l HB4.out hBw4 hlen.out.symm OL4.out (lk y2 j) (by have := HL.out; omega)
              have O2 : Hid (Ir w' B (.slice (some ⟨g', 0, none⟩) (i + (j + 1)) c') (i + (j + 1)) (lk (l ++ [lk y2 j]))) := by rw [show i + (j + 1) = i + j + 1 by omega]; exact o'
              have B2 : Hid (Below B w2 w') := b'
              have LL : Hid ((l ++ [lk y2 j]).length = i + (j + 1)) := by show _ = _; have := hlen.out; simp; omega
              rw [HZ.out] at r MI2 O2 LL
              dsimp only at r
              clear o' b' mi OL4 hlen HB4 HE1 HE2 hlt HZ HA
              obtain ⟨L, hL⟩ : ∃ L, L = i + j := ⟨_, rfl⟩
              have HLe : Hid (L = i + j) := hL
              rw [← hL] at r ⊢
              clear hL
              go_wp2_with (at_builtin; refine wpList_append_run rfl (.tmp 73) (.tmp 78) 22 22 rfl _ _ rfl rfl r ?_)
              exact ⟨⟨i, j + 1, l ++ [(zk, zi)], some ⟨g', 0, none⟩, c', rfl, by go_num, HH.out.1, HH.out.2, by rw [HLe.out]; congr 1, LL, O2, MI2, B2⟩, by have := HIJ.out; simp [RowKit.intOf]; omega⟩
            | false =>
              have hlt := HE2.out rfl
              have MI2 : Hid (MI (Kf flat) y1 y2 (i + 1) j (l ++ [lk y1 i])) := mi.out.left (by rw [HL1.out]; exact HIH.out) (.inr (by omega)) (by rw [HL2.out]; exact Nat.le_of_lt hjl)
              obtain ⟨g', c', w', r, o', b'⟩ := app_l HB4.out hBw4 hlen.out.symm OL4.out (lk y1 i) (by have := HL.out; omega)
              have O2 : Hid (Ir w' B (.slice (some ⟨g', 0, none⟩) (i + 1 + j) c') (i + 1 + j) (lk (l ++ [lk y1 i]))) := by rw [show i + 1 + j = i + j + 1 by omega]; exact o'
              have B2 : Hid (Below B w2 w') := b'
              have LL : Hid ((l ++ [lk y1 i]).length = i + 1 + j) := by show _ = _; have := hlen.out; simp; omega
              rw [HA.out] at r MI2 O2 LL
              dsimp only at r
              clear o' b' mi OL4 hlen HB4 HE1 HE2 hlt HZ HA
              obtain ⟨L, hL⟩ : ∃ L, L = i + j := ⟨_, rfl⟩
              have HLe : Hid (L = i + j) := hL
              rw [← hL] at r ⊢
              clear hL
              go_wp2_with (at_builtin; refine wpList_append_run rfl (.tmp 64) (.tmp 69) 22 22 rfl _ _ rfl rfl r ?_)
              exact ⟨⟨i + 1, j, l ++ [(ak, ai)], some ⟨g', 0, none⟩, c', by go_num, rfl, HIH.out, Nat.le_of_lt HH.out.2, by rw [HLe.out]; congr 1; omega, LL, O2, MI2, B2⟩, by have := HIJ.out; simp [RowKit.intOf]; omega⟩
          · have hihe : i = h := by omega
            have HIE : Hid (i = h) := hihe
            have HDI : Hid (decide (i < h) = false) := decide_eq_false hih
            have hii : ¬ (i : Int) < (h : Int) := by omega
            clear hjm HB3 hdone hih hihe hj
            go_wp2_with fail
            have hne := HNE.out
            have hdi := HDI.out
            go_big_quiet (fail)
            have HB4 : Hid (Below B w2 (wr.drewN nq)) := below_drewN hb.out nq
            have OL4 : Hid (Ir (wr.drewN nq) B (.slice A (i + j) C) (i + j) (lk l)) := ol.out.below (below_drewN (Below.refl _ _) nq)
            have hBw4 : B ≤ (wr.drewN nq).heap.size := hBw
            clear hb ol hBw hne hdi
            generalize wr.drewN nq = W4 at *
            rcases HM2.out with h0 | ⟨g1, o1, rfl, hg1, hat1⟩
            · omega
            rw [← HBB.out] at hg1
            have q1 := (HB4.out.cell (p := ⟨g1, o1 + j * 2, none⟩) hg1).trans (hat1 j hjl).1
            have q2 := (HB4.out.cell (p := ⟨g1, o1 + j * 2 + 1, none⟩) hg1).trans (hat1 j hjl).2
            obtain ⟨g', c', w', r, o', b'⟩ := app_l HB4.out hBw4 hlen.out.symm OL4.out (lk y2 j) (by have := HL.out; omega)
            have MI2 : Hid (MI (Kf flat) y1 y2 i (j + 1) (l ++ [lk y2 j])) := mi.out.right (by rw [HL2.out]; exact hjl) (.inl (by rw [HL1.out]; exact HIE.out)) (by rw [HL1.out]; exact HH.out.1)
            have O2 : Hid (Ir w' B (.slice (some ⟨g', 0, none⟩) (i + (j + 1)) c') (i + (j + 1)) (lk (l ++ [lk y2 j]))) := by rw [show i + (j + 1) = i + j + 1 by omega]; exact o'
            have B2 : Hid (Below B w2 w') := b'
            have LL : Hid ((l ++ [lk y2 j]).length = i + (j + 1)) := by show _ = _; have := hlen.out; simp; omega
            obtain ⟨⟨xk, xi⟩, hx⟩ : ∃ x, lk y2 j = x := ⟨_, rfl⟩
            rw [hx] at q1 q2 r MI2 O2 LL
            dsimp only at q1 q2 r
            clear hat1 o' b' mi OL4 hlen hx HB4
            obtain ⟨L, hL⟩ : ∃ L, L = i + j := ⟨_, rfl⟩
            have HLe : Hid (L = i + j) := hL
            rw [← hL] at r ⊢
            clear hL
            go_wp2_with (at_builtin; refine wpList_append_run rfl (.tmp 73) (.tmp 78) 22 22 rfl _ _ rfl rfl r ?_)
            exact ⟨⟨i, j + 1, l ++ [(xk, xi)], some ⟨g', 0, none⟩, c', rfl, by go_num, HH.out.1, HH.out.2, by rw [HLe.out]; congr 1, LL, O2, MI2, B2⟩, by have := HIJ.out; simp [RowKit.intOf]; omega⟩
end Go.Proofs.Ytcgpjmpppajfdaa
