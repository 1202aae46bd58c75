/- LabelsKeys: the walk. -/
import Derived.Test.YtjmninjaoemhjabDoorKl
namespace Go.Proofs.YtjmninjaoemhjabDoor
open Go.RowKit Go.Lib

attribute [local go_sem] Oper.semAt_some

set_option maxRecDepth 100000 in
set_option maxHeartbeats 8000000 in
theorem keys_walk (a : Option Addr) (n c : Nat) (q : Nat → Ak) (w : World) (hA : Am w a q n) (hn : n ≤ 1048576) (hw : 0 < w.heap.size) (ht : TbI w) :
    Calls Tryd.prog 3 #[.slice a n c] w fun e w' => e = .returned (.bool true) ∧ Below w.heap.size w w' := by
  have hnI : (n : Int) ≤ 1048576 := by omega
  have HA : Hid (Am w a q n) := hA
  have HT : Hid (∀ W, Below w.heap.size w W → TbI W) := fun W b => ht.low hw b
  have nf0 : Nat → ByteArray := fun _ => ⟨#[]⟩
  have hl : ∀ W, Below (w.alloc (lbX lA1)).heap.size (w.alloc (lbX lA1)) W → Lm W (some ⟨w.heap.size, 0, none⟩) (fun _ => lA1) 1 := fun W b => by
    refine Lm.below ?_ b
    refine .inr ⟨w.heap.size, 0, rfl, by simp, fun j hj => ?_⟩
    obtain rfl : j = 0 := by omega
    have e : (w.alloc (lbX lA1)).heap[w.heap.size]? = some (lbX lA1) := heap_alloc_new w _
    constructor
    · unfold World.cell?; rw [e]; rfl
    · unfold World.cell?; rw [e]; rfl
  have hal : Below w.heap.size w (w.alloc (lbX lA1)) := (Below.refl _ w).alloc (Nat.le_refl _) _
  have hsz : szF (fun _ => lA1) 1 ≤ 140737488355328 := by decide
  have K1 : Hid (∀ W wo, Below (w.alloc (lbX lA1)).heap.size (w.alloc (lbX lA1)) W → Calls Tryd.prog 4 #[.slice (some ⟨w.heap.size, 0, none⟩) 1 1, .slice none 0 0, .bool wo] W fun e w' => e = .returned (.string (kyB (keptL (fun _ => lA1) (lf nf0 0) wo 1))) ∧ Below W.heap.size W w') := fun W wo b =>
    key_k (some ⟨w.heap.size, 0, none⟩) none (fun _ => lA1) nf0 1 1 0 0 wo W (by omega) (by omega) hsz (by have := b.size; have := hal.size; omega) (hl W b) (.inl rfl) (HT.out W (hal.trans (b.mono hal.size)))
  have K2 : Hid (∀ W, Below (w.alloc (lbX lA1)).heap.size (w.alloc (lbX lA1)) W → Calls Tryd.prog 4 #[.slice none 0 0, .slice none 0 0, .bool true] W fun e w' => e = .returned (.string (kyB [])) ∧ Below W.heap.size W w') := fun W b =>
    key_k none none (fun _ => lA1) nf0 0 0 0 0 true W (by omega) (by omega) (by decide) (by have := b.size; have := hal.size; omega) (.inl rfl) (.inl rfl) (HT.out W (hal.trans (b.mono hal.size)))
  have k1 := K1.out _ true (Below.refl _ _)
  rw [kp_a1] at k1
  have q1 : ((kyB [lA1]).toList == (kyB []).toList) = false := by rw [kyB_eq]; rfl
  have q2 : ((kyB []).toList == (kyB []).toList) = true := by rw [kyB_eq]; rfl
  have HAL : Hid (Below w.heap.size w (w.alloc (lbX lA1))) := hal
  clear hA ht hl hsz hal
  generalize hs1 : kyB [lA1] = s1 at k1 q1
  clear hs1
  go_enter Tryd.func3, Tryd.ntmps3
  go_wp2_with fail
  go_fit k1
  rintro e w1 ⟨rfl, b1⟩
  have k2 := K2.out w1 b1
  go_wp2_with fail
  go_fit k2
  rintro e w2 ⟨rfl, b2⟩
  have b2' := b1.trans (b2.mono b1.size)
  have k3 := K1.out w2 false b2'
  rw [kp_a2] at k3
  go_wp2_with fail
  go_fit k3
  rintro e w3 ⟨rfl, b3⟩
  have b3' := b2'.trans (b3.mono b2'.size)
  have k4 := K2.out w3 b3'
  go_wp2_with fail
  go_fit k4
  rintro e w4 ⟨rfl, b4⟩
  have HB4 : Hid (Below w.heap.size w w4) := HAL.out.trans ((b3'.trans (b4.mono b3'.size)).mono HAL.out.size)
  clear b1 b2 b3 b4 b2' b3' k1 k2 k3 k4 K1 K2 HAL
  obtain ⟨w5, r5, o5, b5, z5⟩ := make_s w4 w.heap.size n HB4.out.size (by omega)
  obtain ⟨w6, r6, o6, b6, z6⟩ := make_v w5 w.heap.size n (Nat.le_trans HB4.out.size b5.size) (by omega)
  have HZ : Hid (Rz w n w4.heap.size w5.heap.size q w6 (fun _ => .slice none 0 0) 0) :=
    { hS := HB4.out.size, hS2 := z5, hp := z6, keys := ⟨_, fun j hj => by omega, (Kp.of (M := fun _ => False) b6).row o5 (fun _ _ => id)⟩, kept := o6, each := fun j hj => by omega, low := (HB4.out.trans (b5.mono HB4.out.size)).trans (b6.mono (Nat.le_trans HB4.out.size b5.size)) }
  clear o5 b5 z5 o6 b6 z6 HB4
  obtain ⟨Gk, hGk⟩ : ∃ x, x = w4.heap.size := ⟨_, rfl⟩
  obtain ⟨Gp, hGp⟩ : ∃ x, x = w5.heap.size := ⟨_, rfl⟩
  rw [← hGk] at r5 HZ
  rw [← hGp] at r6 HZ
  clear hGk hGp
  generalize kyB [] = s0 at q1 q2 ⊢
  go_wp2
  clear r5 r6
  go_loopw [32] (fun ivv w' => ∃ (i : Nat) (V : Nat → Value), ivv = .int .i64 (i : Int) ∧ i ≤ n ∧ Hid (Rz w n Gk Gp q w' V i)) (fun ivv _ => n - (RowKit.intOf ivv).toNat)
  case atStart => exact ⟨0, _, rfl, by omega, HZ⟩
  case round =>
    clear HZ q1 q2
    obtain ⟨i, V, rfl, hi, hz⟩ := hrel
    by_cases hlt : i < n
    · have hii : (i : Int) < n := by omega
      obtain ⟨g, o, rfl, hg, ⟨c0, c1, c2, c3, c4⟩, hok⟩ := HA.out.at i hlt
      have hlow := hz.out.low
      replace c0 := (hlow.cell (p := ⟨g, o + i * 5, none⟩) hg).trans c0
      replace c1 := (hlow.cell (p := ⟨g, o + i * 5 + 1, none⟩) hg).trans c1
      replace c2 := (hlow.cell (p := ⟨g, o + i * 5 + 2, none⟩) hg).trans c2
      replace c3 := (hlow.cell (p := ⟨g, o + i * 5 + 3, none⟩) hg).trans c3
      replace c4 := (hlow.cell (p := ⟨g, o + i * 5 + 4, none⟩) hg).trans c4
      have hal : Below wr.heap.size wr (wr.alloc (akX (q i))) := (Below.refl _ wr).alloc (Nat.le_refl _) _
      have hln := hok.l0
      have hnn := hok.n0
      have HOK : Hid (∀ W, Below w.heap.size w W → Aok W (q i)) := fun W b => hok.below b
      have kL := lent_any (q i).la (q i).lc (q i).ln (q i).f (wr.alloc (akX (q i))) (hok.below (hlow.trans (hal.mono hlow.size))).ls (by omega)
      rw [show (wr.alloc (akX (q i))).heap.size = wr.heap.size + 1 by simp] at kL
      have HRN : Hid (∀ w2, Ir w2 (wr.heap.size + 1) (.slice (some ⟨wr.heap.size + 1, 0, none⟩) ((q i).ln + 40) ((q i).ln + 40)) ((q i).ln + 40) (pf (q i).f (q i).ln) → Below (wr.heap.size + 1) (wr.alloc (akX (q i))) w2 → ∃ kF, (∀ j, j < i → kF j = kyB (kO (q j))) ∧ Rn w n Gk Gp (wr.heap.size + 1) wr.heap.size q i w2 kF V i (pf (q i).f (q i).ln)) := fun w2 o2 b2 => hz.out.rn (by rw [show (wr.alloc (akX (q i))).heap.size = wr.heap.size + 1 by simp]; exact b2) o2
      have HLN : Hid (∀ j, j < n → (kO (q j)).length ≤ 1048576) := fun j hj => by
        obtain ⟨_, _, _, _, _, hk⟩ := HA.out.at j hj
        have h1 := keptL_le (q j).f (lf (q j).nf (q j).nn) (q j).wo (q j).ln
        have h2 : (kO (q j)).length ≤ (q j).ln := h1
        have := hk.l0
        omega
      clear hok hlow hal hz HA
      go_wp2_with fail
      go_fit kL
      rintro e w2 ⟨rfl, o2, b2⟩
      obtain ⟨kF, hkF, hR2⟩ := HRN.out w2 o2 b2
      have HKF : Hid (∀ j, j < i → kF j = kyB (kO (q j))) := hkF
      clear o2 b2 HRN hkF kL c0 c1 c2 c3 c4
      obtain ⟨B, hB⟩ : ∃ x, x = wr.heap.size := ⟨_, rfl⟩
      rw [← hB] at hR2 ⊢
      clear hB
      have HR2 : Hid (Rn w n Gk Gp (B + 1) B q i w2 kF V i (pf (q i).f (q i).ln)) := hR2
      obtain ⟨e0, e3, e4⟩ := hR2.bx
      have hA2 := HOK.out w2 hR2.low
      have kK := key_k (some ⟨B + 1, 0, none⟩) (q i).na (q i).f (q i).nf (q i).ln ((q i).ln + 40) (q i).nn (q i).nc (q i).wo w2 (by omega) (by omega) (by have := hA2.s0; omega) (by have := hR2.low.size; omega) (hR2.ins.cut (by omega) (fun j hj => pf_lo _ _ j hj)) hA2.ns (HT.out w2 hR2.low)
      rw [show keptL (q i).f (lf (q i).nf (q i).nn) (q i).wo (q i).ln = kO (q i) from rfl] at kK
      obtain ⟨ky, hky⟩ : ∃ ky, kyB (kO (q i)) = ky := ⟨_, rfl⟩
      have HKY : Hid (kyB (kO (q i)) = ky) := hky
      rw [hky] at kK
      clear hA2 hR2 hky
      go_wp2_with fail
      go_fit kK
      rintro e w3 ⟨rfl, b3⟩
      have hR3 := HR2.out.below b3
      have d0 := hR3.keyAt i hlt
      have d1 := World.ownsRow.frozenAt hR3.keys i
      have hR4 := hR3.setKey i ky
      have HR4 : Hid (Rn w n Gk Gp (B + 1) B q i (w3.setCell ⟨Gk, i, none⟩ (.string ky)) (up kF i ky) V i (pf (q i).f (q i).ln)) := hR4
      clear e0 e3 e4
      obtain ⟨e0, e3, e4⟩ := hR4.bx
      have hA4 := HOK.out _ hR4.low
      have kP := rkeep_k (q i).la (q i).na (q i).f (q i).nf (q i).ln (q i).lc (q i).nn (q i).nc (q i).wo (w3.setCell ⟨Gk, i, none⟩ (.string ky)) (by omega) (by omega) hA4.ls hA4.ns
      rw [show keptL (q i).f (lf (q i).nf (q i).nn) (q i).wo (q i).ln = kO (q i) from rfl] at kP
      clear hA4 hR4 hR3 b3 HR2 kK
      go_wp2_with fail
      go_fit kP
      rintro e w5 ⟨a5, c5, rfl, o5, b5⟩
      have hB4 := (own_bd HR4.out.full (B + 1) rfl).2
      have hR5 := HR4.out.below b5
      have hv2 : ∀ k, (Value.slice a5 (kO (q i)).length c5).ownBlock = some k → k ≠ B + 1 ∧ k ≠ B := fun k e => by
        have := (own_bd o5 k e).1
        omega
      have hGp := HR4.out.hG
      have hR6 := hR5.setKept (.slice a5 (kO (q i)).length c5) (o5.mono (by omega)) hv2
      have f0 := hR5.keptAt i hlt
      have f1 := World.ownsRow.frozenAt hR5.kept i
      clear e0 e3 e4 d0 d1 kP o5 b5 hv2 hR5 HR4 hB4 hGp
      obtain ⟨e0, e3, e4⟩ := hR6.bx
      have kW := whole_true (B + 1) (q i).la (q i).lc ((q i).ln + 40) (q i).ln (q i).f (w5.setCell ⟨Gp, i, none⟩ (.slice a5 (kO (q i)).length c5)) hR6.ins (HOK.out _ hR6.low).ls (Nat.le_refl _) (by omega)
      have HR7 : Hid (∀ w7, Below (w5.setCell ⟨Gp, i, none⟩ (.slice a5 (kO (q i)).length c5)).heap.size (w5.setCell ⟨Gp, i, none⟩ (.slice a5 (kO (q i)).length c5)) w7 → Rn w n Gk Gp (B + 1) B q i w7 (up kF i ky) (up V i (.slice a5 (kO (q i)).length c5)) (i + 1) (pf (q i).f (q i).ln)) := fun w7 b => hR6.below b
      clear hR6
      go_wp2_with fail
      go_fit kW
      rintro e w7 ⟨rfl, b7⟩
      have hR7 := HR7.out w7 b7
      clear HR7 b7 kW e0 e3 e4 f0 f1
      have hkF2 : ∀ j, j < i + 1 → up kF i ky j = kyB (kO (q j)) := fun j hj => by
        by_cases e : j = i
        · subst e
          rw [up_same, HKY.out]
        · rw [up_other _ _ _ _ e]
          exact HKF.out j (by omega)
      have hki : up kF i ky i = ky := up_same _ _ _
      have hVi : up V i (.slice a5 (kO (q i)).length c5) i = .slice a5 (kO (q i)).length c5 := up_same _ _ _
      generalize up kF i ky = kF2 at hR7 hkF2 hki
      generalize up V i (.slice a5 (kO (q i)).length c5) = V2 at hR7 hVi
      have HR : Hid (Rn w n Gk Gp (B + 1) B q i w7 kF2 V2 (i + 1) (pf (q i).f (q i).ln)) := hR7
      have HK2 : Hid (∀ j, j < i + 1 → kF2 j = kyB (kO (q j))) := hkF2
      have HKI : Hid (kF2 i = ky) := hki
      have HVI : Hid (V2 i = .slice a5 (kO (q i)).length c5) := hVi
      clear hR7 hkF2 hki hVi HKF
      go_wp2
      go_loopw [68] (fun jv w' => ∃ j : Nat, jv = .int .i64 (j : Int) ∧ j ≤ i ∧ Hid (Below w7.heap.size w7 w')) (fun jv _ => i - (RowKit.intOf jv).toNat)
      case atStart => exact ⟨0, rfl, by omega, Below.refl _ _⟩
      case round =>
        obtain ⟨j, rfl, hj, hb8⟩ := hrel
        have hR8 := HR.out.below hb8.out
        by_cases hjl : j < i
        · have hjj : (j : Int) < i := by omega
          have hjnI : (j : Int) < n := by omega
          obtain ⟨aj, cj, hVj, hLj⟩ := hR8.slice j (by omega)
          obtain ⟨ai, ci, hVi, hLi⟩ := hR8.slice i (by omega)
          have hKi := hR8.keyAt i hlt
          have hKj := hR8.keyAt j (by omega)
          have hPi := hR8.keptAt i hlt
          have hPj := hR8.keptAt j (by omega)
          rw [HKI.out] at hKi
          rw [HK2.out j (by omega)] at hKj
          rw [hVi] at hPi
          rw [hVj] at hPj
          have hq : (ky.toList == (kyB (kO (q j))).toList) = decide (kO (q i) = kO (q j)) := by rw [← HKY.out, kyB_eq]
          have HS : Hid (∀ W, Below wr.heap.size wr W → Calls Tryd.prog 8 #[.slice ai (kO (q i)).length ci, .slice aj (kO (q j)).length cj] W fun r w' => r = .returned (.bool (decide (kO (q i) = kO (q j)))) ∧ Below wr.heap.size wr w') := fun W b => by
            have k := same_any ai aj ci cj _ _ _ _ W (hLi.below b) (hLj.below b) (by have := HLN.out i hlt; omega) (by have := HLN.out j (by omega); omega)
            rw [ll_gL, ll_gL] at k
            exact k.mono fun e w' ⟨h1, h2⟩ => ⟨h1, b.trans (h2.mono b.size)⟩
          generalize kyB (kO (q j)) = kj at hKj hq
          generalize decide (kO (q i) = kO (q j)) = bb at hq HS
          generalize (kO (q i)).length = li at hPi HS
          generalize (kO (q j)).length = lj at hPj HS
          have HKS : Hid (∀ W, Below wr.heap.size wr W → (W.cell? ⟨Gk, i, none⟩ = some (.string ky) ∧ W.cell? ⟨Gk, j, none⟩ = some (.string kj) ∧ W.cell? ⟨Gp, i, none⟩ = some (.slice ai li ci) ∧ W.cell? ⟨Gp, j, none⟩ = some (.slice aj lj cj)) ∧ Below wr.heap.size wr W) := fun W b => ⟨⟨bcell2 b hKi, bcell2 b hKj, bcell2 b hPi, bcell2 b hPj⟩, b⟩
          have HB9 : Hid (∀ W, Below wr.heap.size wr W → Below w7.heap.size w7 W) := fun W b => hb8.out.trans (b.mono hb8.out.size)
          have b0 := Below.refl wr.heap.size wr
          have hK0 := HKS.out wr b0
          clear hVj hLj hVi hLi hR8 hb8 hKi hKj hPi hPj
          go_wp2_with fail
          go_region_held3 (fun w2 => (w2.cell? ⟨Gk, i, none⟩ = some (.string ky) ∧ w2.cell? ⟨Gk, j, none⟩ = some (.string kj) ∧ w2.cell? ⟨Gp, i, none⟩ = some (.slice ai li ci) ∧ w2.cell? ⟨Gp, j, none⟩ = some (.slice aj lj cj)) ∧ Below wr.heap.size wr w2) (first | exact HKS.out _ (by assumption) | exact HKS.out _ (Below.drew (by assumption))) (first | (go_at_call 8; go_fit (HS.out _ (by assumption)); rintro e w9 ⟨rfl, b9⟩) | (go_at_call 8; go_fit (HS.out _ (Below.drew (by assumption))); rintro e w9 ⟨rfl, b9⟩))
          have HB10 : Hid (Below w7.heap.size w7 w9) := HB9.out w9 b9
          clear b9 b0 hK0 HKS HB9 HS
          cases bb
          · go_wp2
            exact ⟨⟨j + 1, by go_num, by omega, HB10⟩, by simp [RowKit.intOf]; omega⟩
          · go_wp2
            exact ⟨⟨j + 1, by go_num, by omega, HB10⟩, by simp [RowKit.intOf]; omega⟩
        · have hji : i = j := by omega
          subst hji
          have hjj : ¬ (i : Int) < i := by omega
          have HR8 : Hid (Rn w n Gk Gp (B + 1) B q i wr kF2 V2 (i + 1) (fx (q i).f (q i).ln 0)) := hR8
          have hlnI : ((q i).ln : Int) ≤ 1048576 := by omega
          clear hR8 hb8 HR
          go_wp2
          go_loopw [93] (fun jv w' => ∃ j : Nat, jv = .int .i64 (j : Int) ∧ j ≤ (q i).ln ∧ Hid (Rn w n Gk Gp (B + 1) B q i w' kF2 V2 (i + 1) (fx (q i).f (q i).ln j))) (fun jv _ => (q i).ln - (RowKit.intOf jv).toNat)
          case atStart => exact ⟨0, rfl, by omega, HR8⟩
          case round =>
            clear HR8
            obtain ⟨j, rfl, hj9, hR9⟩ := hrel
            by_cases hjl9 : j < (q i).ln
            · have hjj9 : (j : Int) < (q i).ln := by omega
              obtain ⟨gg, oo, ee, _, m0, m1⟩ := hR9.out.ins.at j (by omega)
              cases ee
              rw [Nat.zero_add] at m0 m1
              rw [fx_at _ _ _ hjl9] at m0 m1
              have m3 := World.ownsRow.frozenAt hR9.out.full (j * 2 + 1)
              have hR10 := hR9.out.setIn j (by omega) (catx ((q i).f j).2)
              rw [fx_succ _ _ _ hjl9] at hR10
              have HR10 : Hid (Rn w n Gk Gp (B + 1) B q i (wr.setCell ⟨B + 1, j * 2 + 1, none⟩ (.string (catx ((q i).f j).2))) kF2 V2 (i + 1) (fx (q i).f (q i).ln (j + 1))) := hR10
              unfold catx at HR10
              have hs9 : ¬ 9223372036854775807 < ((q i).f j).2.size + 1 := by
                have h1 := szF_two (q i).f (q i).ln j hjl9
                have h2 := (HOK.out wr hR9.out.low).s0
                omega
              clear hR10 hR9
              go_wp2
              exact ⟨⟨j + 1, by go_num, by omega, HR10⟩, by simp [RowKit.intOf]; omega⟩
            · obtain hj10 : j = (q i).ln := by omega
              subst hj10
              have hjj9 : ¬ ((q i).ln : Int) < (q i).ln := by omega
              have hR := hR9.out
              obtain ⟨e0, e3, e4⟩ := hR.bx
              have hA := HOK.out wr hR.low
              have hKi := hR.keyAt i hlt
              have hPi := hR.keptAt i hlt
              rw [HKI.out] at hKi
              obtain ⟨ai, ci, hVi, hLi⟩ := hR.slice i (by omega)
              rw [hVi] at hPi
              have hLx : Lm wr (some ⟨B + 1, 0, none⟩) (fx (q i).f (q i).ln (q i).ln) (q i).ln := hR.ins.cut (by omega) (fun _ _ => rfl)
              obtain ⟨K2, hK2⟩ : ∃ K2, K2 = keptL (fx (q i).f (q i).ln (q i).ln) (lf (q i).nf (q i).nn) (q i).wo (q i).ln := ⟨_, rfl⟩
              have hK2l : K2.length ≤ (q i).ln := by rw [hK2]; exact keptL_le _ _ _ _
              have hli := HLN.out i hlt
              have HC4 : Hid (∀ W, Below wr.heap.size wr W → Calls Tryd.prog 4 #[.slice (some ⟨B + 1, 0, none⟩) (q i).ln ((q i).ln + 40), .slice (q i).na (q i).nn (q i).nc, .bool (q i).wo] W fun e w' => e = .returned (.string (kyB K2)) ∧ Below wr.heap.size wr w') := fun W b => by
                have hs := szF_fx (q i).f (q i).ln (q i).ln (Nat.le_refl _)
                have hs0 := hA.s0
                have k := key_k (some ⟨B + 1, 0, none⟩) (q i).na (fx (q i).f (q i).ln (q i).ln) (q i).nf (q i).ln ((q i).ln + 40) (q i).nn (q i).nc (q i).wo W (by omega) (by omega) (by omega) (by have := hR.low.size; have := b.size; omega) (hLx.below b) (hA.ns.size b) (HT.out W (hR.low.trans (b.mono hR.low.size)))
                rw [← hK2] at k
                exact k.mono fun e w' ⟨h1, h2⟩ => ⟨h1, b.trans (h2.mono b.size)⟩
              have HC6 : Hid (∀ W, Below wr.heap.size wr W → Calls Tryd.prog 6 #[.slice (some ⟨B + 1, 0, none⟩) (q i).ln ((q i).ln + 40), .slice (q i).na (q i).nn (q i).nc, .bool (q i).wo] W fun e w' => ∃ a2 c2, e = .returned (.slice a2 K2.length c2) ∧ Hid (Lm w' a2 (gL K2) K2.length) ∧ Below wr.heap.size wr w') := fun W b => by
                have k := rkeep_k (some ⟨B + 1, 0, none⟩) (q i).na (fx (q i).f (q i).ln (q i).ln) (q i).nf (q i).ln ((q i).ln + 40) (q i).nn (q i).nc (q i).wo W (by omega) (by omega) (hLx.below b) (hA.ns.size b)
                rw [← hK2] at k
                exact k.mono fun e w' ⟨a2, c2, h1, h2, h3⟩ => ⟨a2, c2, h1, row_lm h2, b.trans (h3.mono b.size)⟩
              have HC8 : Hid (∀ W a2 c2, Hid (Lm W a2 (gL K2) K2.length) → Below wr.heap.size wr W → Calls Tryd.prog 8 #[.slice a2 K2.length c2, .slice ai (kO (q i)).length ci] W fun r w' => r = .returned (.bool (decide (K2 = kO (q i)))) ∧ Below wr.heap.size wr w') := fun W a2 c2 h b => by
                have k := same_any a2 ai c2 ci _ _ _ _ W h.out (hLi.below b) (by omega) (by omega)
                rw [ll_gL, ll_gL] at k
                exact k.mono fun e w' ⟨h1, h2⟩ => ⟨h1, b.trans (h2.mono b.size)⟩
              have HC9 : Hid (∀ W a2 c2, Hid (Lm W a2 (gL K2) K2.length) → Below wr.heap.size wr W → Calls Tryd.prog 8 #[.slice a2 K2.length c2, .slice ai (kO (q i)).length ci] W.drew fun r w' => r = .returned (.bool (decide (K2 = kO (q i)))) ∧ Below wr.heap.size wr w') := fun W a2 c2 h b => HC8.out W.drew a2 c2 (h.out.below (Below.drew (Below.refl _ W))) (Below.drew b)
              have hq : ((kyB K2).toList == ky.toList) = decide (K2 = kO (q i)) := by rw [← HKY.out, kyB_eq]
              have HRZ : Hid (∀ W, Below wr.heap.size wr W → Rz w n Gk Gp q W V2 (i + 1)) := fun W b => (hR.below b).rz HK2.out
              generalize kyB K2 = k2 at HC4 hq
              generalize decide (K2 = kO (q i)) = bb at hq HC8 HC9
              generalize (kO (q i)).length = li at hPi HC8 HC9
              have HKS : Hid (∀ W, Below wr.heap.size wr W → (W.cell? ⟨B, 3, none⟩ = some (.slice (q i).na (q i).nn (q i).nc) ∧ W.cell? ⟨B, 4, none⟩ = some (.bool (q i).wo) ∧ W.cell? ⟨Gk, i, none⟩ = some (.string ky) ∧ W.cell? ⟨Gp, i, none⟩ = some (.slice ai li ci)) ∧ Below wr.heap.size wr W) := fun W b => ⟨⟨bcell2 b e3, bcell2 b e4, bcell2 b hKi, bcell2 b hPi⟩, b⟩
              have b0 := Below.refl wr.heap.size wr
              have hK0 := HKS.out wr b0
              clear hR hA hLi hVi hLx e0 e3 e4 hKi hPi hR9 hK2 hK2l hli HKI HVI HKY HOK HLN HT
              go_wp2_with fail
              go_region_held3 (fun w2 => (w2.cell? ⟨B, 3, none⟩ = some (.slice (q i).na (q i).nn (q i).nc) ∧ w2.cell? ⟨B, 4, none⟩ = some (.bool (q i).wo) ∧ w2.cell? ⟨Gk, i, none⟩ = some (.string ky) ∧ w2.cell? ⟨Gp, i, none⟩ = some (.slice ai li ci)) ∧ Below wr.heap.size wr w2) (first | exact HKS.out _ (by assumption) | exact HKS.out _ (Below.drew (by assumption))) (first | (go_at_call 4; go_fit (HC4.out _ (by assumption)); rintro e wA ⟨rfl, bA⟩) | (go_at_call 4; go_fit (HC4.out _ (Below.drew (by assumption))); rintro e wA ⟨rfl, bA⟩) | (go_at_call 6; go_fit (HC6.out _ (by assumption)); rintro e wP ⟨aP, cP, rfl, hLP, bP⟩) | (go_at_call 6; go_fit (HC6.out _ (Below.drew (by assumption))); rintro e wP ⟨aP, cP, rfl, hLP, bP⟩) | (go_at_call 8; go_fit (HC8.out _ _ _ hLP bP); rintro e wS ⟨rfl, bS⟩) | (go_at_call 8; go_fit (HC9.out _ _ _ hLP bP); rintro e wS ⟨rfl, bS⟩))
              have HE : Hid (Rz w n Gk Gp q wS V2 (i + 1)) := HRZ.out wS bS
              clear bA bP bS hLP HKS HC4 HC6 HC8 HC9 b0 hK0 HRZ
              cases bb
              · go_wp2
                exact ⟨⟨i + 1, V2, by go_num, by omega, HE⟩, by simp [RowKit.intOf]; omega⟩
              · go_wp2
                exact ⟨⟨i + 1, V2, by go_num, by omega, HE⟩, by simp [RowKit.intOf]; omega⟩
    · obtain rfl : i = n := by omega
      have hii : ¬ (i : Int) < i := by omega
      go_wp2
      go_ret
      exact ⟨rfl, hz.out.low⟩
end Go.Proofs.YtjmninjaoemhjabDoor
