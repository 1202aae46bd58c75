/- A bundle of texts. -/
import Derived.Test.YtajaadagejhllaaGreatDoorBs06
/- Trees: node. -/
namespace Go.Proofs.YtajaadagejhllaaGreatDoor
open Go.RowKit
set_option maxHeartbeats 4000000 in
set_option maxRecDepth 100000 in
theorem node_else (S B m : Nat) (v : Value) (t : Tr) (op : Int) (s : St) (w : World) (hIH : NodeOk S B m) (hv : Sv S w B v s) (ht : Tat S w t) (hk : s.k + 1 ≤ 8194) (hm : 8194 ≤ s.k + (m + 1)) (hn : s.n ≤ 100) (hS : S ≤ w.heap.size) (hop0 : 0 ≤ op) (hop : op ≤ 250) (hnd : ndB (t []) = true) (k7 : ¬ (t []).kind = 7) (k10 : ¬ (t []).kind = 10) (k11 : ¬ (t []).kind = 11) :
    Calls Tryz.prog 48 #[.pointer (some ⟨B, 0, none⟩), ndV (t []), .int .i64 op] w (Np S B v (vd (m + 1) t op s) w) := by
  obtain ⟨hv2, hc2, hk2, hz2, hg2⟩ := node_beg (t []) hv
  have ht2 := ht.below (hv.low hS hk2)
  have kS := isSound_tree (t []) (begW w B (t []) s.k) ht2.ranges.ml (by have := ht.node; omega)
  rw [hnd] at kS
  have c0 := hv.c0
  have c0' := (hv.below ((Below.refl _ w).alloc (Nat.le_refl _) (ndX (t [])))).c0
  have f0' := (hv.below ((Below.refl _ w).alloc (Nat.le_refl _) (ndX (t [])))).fz 0
  have hnode := ht.node
  obtain ⟨W, hW⟩ : ∃ W, W = begW w B (t []) s.k := ⟨_, rfl⟩
  rw [← hW] at hv2 hc2 hk2 hz2 ht2 kS
  have HW' : Hid (W = (w.alloc (ndX (t []))).setCell ⟨B, 0, none⟩ (.int .i64 ((s.k : Int) + 1))) := hW
  obtain ⟨G, hG⟩ : ∃ G, G = w.heap.size := ⟨_, rfl⟩
  have HG : Hid (G = w.heap.size) := hG
  rw [← hG] at hc2 hz2 hg2
  have HC2 : Hid (Cs W G 0 (t [])) := hc2
  have HV2 : Hid (Sv S W B v { s with k := s.k + 1 }) := hv2
  have HT2 : Hid (Tat S W t) := ht2
  have HK2 : Hid (Kp (Mv B v) w W) := hk2
  have HZ2 : Hid (G < W.heap.size) := hz2
  have HS2 : Hid (S ≤ W.heap.size) := Nat.le_trans hS hk2.size
  have HM2 : Hid (¬ Mv B v G) := hg2
  have IH : Hid (NodeOk S B m) := hIH
  have HN0 : Hid (s.n ≤ 100) := hn
  have HK0 : Hid (s.k + 1 ≤ 8194) := hk
  have HM0 : Hid (8194 ≤ s.k + (m + 1)) := hm
  have HND : Hid (ndB (t []) = true) := hnd
  have HVD : Hid (vd (m + 1) t op s = (mid (t []) { s with k := s.k + 1 }).bind fun s1 => vds (vd m) t (if (t []).kind = 7 then op + 1 else op) (t []).kn s1) := by
    show (if _ then _ else _) = _
    rw [if_neg (by rw [hnd]; simp; omega)]
  have d0 := hv2.c0
  obtain ⟨e0, e1, e2, e3, e4, e5, e6, e7, e8⟩ := hc2
  simp only [Nat.zero_add] at e0 e1 e2 e3 e4 e5 e6 e7 e8
  obtain ⟨N, hN⟩ : ∃ N, (t []).kn = N := ⟨_, rfl⟩
  have HN : Hid ((t []).kn = N) := hN
  have hNb : (N : Int) ≤ 140737488351232 := by rw [← hN]; omega
  have hki : (s.k : Int) + 1 ≤ 8194 := by omega
  obtain ⟨KA, hKA⟩ : ∃ KA, (t []).ka = KA := ⟨_, rfl⟩
  have HKA : Hid ((t []).ka = KA) := hKA
  obtain ⟨d, hd⟩ : ∃ d, t [] = d := ⟨_, rfl⟩
  have HD : Hid (t [] = d) := hd
  rw [hd] at e0 e1 e2 e3 e4 e5 e6 e7 e8 kS c0' f0' HC2 HW' HVD hN hKA HND k7 k10 k11
  clear hv ht hW hG hv2 hk2 hz2 ht2 hg2 hIH hn hm hnd hnode hk
  push_cast at d0
  have HN' : Hid (d.kn = N) := hN
  have HKA' : Hid (d.ka = KA) := hKA
  clear hN hKA
  have t7 : (d.kind == 7) = false := by simpa using k7
  have t10 : (d.kind == 10) = false := by simpa using k10
  have t11 : (d.kind == 11) = false := by simpa using k11
  have HV : Hid (vd (m + 1) t op s = vds (vd m) t (op) N { s with k := s.k + 1 }) := by rw [HVD.out]; unfold mid; rw [if_neg (by omega), if_neg k7, if_neg k7, HN'.out]; rfl
  clear k7 k10 k11 HVD
  rw [hd]
  clear hd
  go_enter Tryz.func48, Tryz.ntmps48
  go_upto_region 2 with fail
  rw [← HW'.out, ← HG.out]
  go_wp2_with fail
  go_fit kS
  rintro e w3 ⟨rfl, b3⟩
  have sv3 := HV2.out.below b3
  have cs3 := HC2.out.kp (M := fun _ => False) (Kp.of b3) id
  have tt3 := HT2.out.below (b3.mono HS2.out)
  have kp3 := HK2.out.trans (Kp.of b3)
  have zz3 := Nat.le_trans HS2.out b3.size
  have gg3 := Nat.lt_of_lt_of_le HZ2.out b3.size
  clear e0 e1 e2 e3 e4 e5 e6 e7 e8 d0 c0 c0' f0' b3
  have f0 := cs3.c0
  obtain ⟨s1, hs1⟩ : ∃ s1, s1 = { s with k := s.k + 1 } := ⟨_, rfl⟩
  have hs1k : s1.k = s.k + 1 := by rw [hs1]
  have hs1n : s1.n ≤ 100 := by rw [hs1]; exact HN0.out
  rw [← hs1] at sv3 HV
  clear hs1
  go_upto_region 11 with fail
  have sv4 := sv3
  have tt4 := tt3
  have kp4 := kp3
  have sb4 := Sub.refl w v
  have zz4 := zz3
  have hm4 := HM2.out
  have cs4 := cs3
  clear sv3 tt3 kp3 zz3 gg3 cs3 f0
  have HS4 : Hid (Sv S w3 B v s1) := sv4
  have HT4 : Hid (Tat S w3 t) := tt4
  have HKW : Hid (Kp (Mv B v) w w3) := kp4
  have HSB : Hid (Sub w v v) := sb4
  have HZ4 : Hid (S ≤ w3.heap.size) := zz4
  have HM : Hid (¬ Mv B v G) := hm4
  have E0 : Hid (w3.cell? ⟨G, 0, none⟩ = some (.int .i64 d.kind)) := by have := cs4.c0; exact this
  have HK1 : Hid (8194 ≤ s1.k + m ∧ s1.k ≤ 8194) := by have a := HK0.out; have b := HM0.out; have c := hs1k; exact ⟨by omega, by omega⟩
  have HN1 : Hid (s1.n ≤ 100) := hs1n
  have e8 := cs4.c8
  simp only [Nat.zero_add] at e8
  rw [HN'.out, HKA'.out] at e8
  clear sv4 tt4 kp4 sb4 zz4 hm4 cs4 hs1k hs1n
  go_wp2_with fail
  go_loopw [48] (fun ivv w' => ∃ i : Nat, ivv = .int .i64 (i : Int) ∧ i ≤ N ∧ ∃ v' s', Hid (vds (vd m) t (op) i s1 = some s' ∧ Sv S w' B v' s' ∧ Sub w3 v v' ∧ Kp (Mv B v) w3 w')) (fun ivv _ => N - (RowKit.intOf ivv).toNat)
  case atStart => exact ⟨0, rfl, by omega, v, s1, rfl, HS4.out, Sub.refl _ _, Kp.refl _ _⟩
  case round =>
    obtain ⟨i, rfl, hi, v', s', hI⟩ := hrel
    by_cases hlt : i < N
    · have hii : (i : Int) < N := by omega
      have HI : Hid (i < N) := hlt
      obtain ⟨hvd, hsv, hsub, hkp⟩ := hI.out
      have htr := HT4.out.below (HS4.out.low HZ4.out hkp)
      have hsz : S ≤ wr.heap.size := Nat.le_trans HZ4.out hkp.size
      obtain ⟨g1, o1, hka, hg1, hcs⟩ := htr.kids.at i (by rw [HN.out]; exact hlt)
      have hc0 := hkp.cell E0.out HM.out
      have hc0' : ∀ o, (wr.alloc o).cell? ⟨G, 0, none⟩ = some (.int .i64 d.kind) := fun o => bcell2 ((Below.refl _ wr).alloc (Nat.le_refl _) o) hc0
      have kBr := fun W => bracketed_any d.kind (t [i]).kind W
      have hal : Below wr.heap.size wr (wr.alloc (ndX (t [i]))) := (Below.refl _ wr).alloc (Nat.le_refl _) _
      have hks := vds_k hvd HK1.out.2
      have hns := vds_n hvd HN1.out
      have hk1 := HK1.out
      have hSc := vds_succ hvd
      rw [HD.out] at hSc
      have kN := fun op' h0 h1 => IH.out (kid t i) op' s' v' (wr.alloc (ndX (t [i]))) (hsv.below hal) ((htr.kid i (by rw [HN.out]; exact hlt)).below (hal.mono hsz)) hks.2 (by omega) hns (Nat.le_trans hsz hal.size) h0 h1
      change ∀ op', 0 ≤ op' → op' ≤ 1000 → Calls Tryz.prog 48 #[.pointer (some ⟨B, 0, none⟩), ndV (t [i]), .int .i64 op'] (wr.alloc (ndX (t [i]))) (Np S B v' (vd m (kid t i) op' s') (wr.alloc (ndX (t [i])))) at kN
      have HR : Hid (∀ w2 v2, Sub (wr.alloc (ndX (t [i]))) v' v2 → Kp (Mv B v') (wr.alloc (ndX (t [i]))) w2 → Sub w3 v v2 ∧ Kp (Mv B v) w3 w2) := fun w2 v2 a b => ⟨hsub.trans a (Nat.le_trans hkp.size hal.size), (hkp.trans (Kp.of hal)).next hsub b⟩
      have HR2 : Hid (∀ w2, Kp (Mv B v') (wr.alloc (ndX (t [i]))) w2 → Kp (Mv B v) w3 w2) := fun w2 b => (hkp.trans (Kp.of hal)).next hsub b
      rw [HKA.out] at hka
      cases hka
      obtain ⟨p0, p1, p2, p3, p4, p5, p6, p7, p8⟩ := hcs
      have HSC : Hid (vds (vd m) t (op) (i + 1) s1 = _) := hSc
      clear hvd hsv hsub hkp htr hal hks hns hSc hk1
      generalize hdk : t [i] = dk at *
      have HDK : Hid (t [i] = dk) := hdk
      clear hdk
      have hbr : ∀ q : Bool, brB d.kind dk.kind = q → True := fun _ _ => trivial
      cases hb : brB d.kind dk.kind
      · rw [hb] at HSC
        simp only [hb] at kBr
        have kN := kN (op) (by omega) (by omega)
        simp only [Bool.false_eq_true, if_false] at HSC
        cases hvk : vd m (kid t i) (op) s' with
        | none =>
          rw [hvk] at kN HSC
          have HV0 : Hid (vd (m + 1) t op s = none) := by rw [HV.out]; exact vds_none HSC.out HI.out
          go_wp2_with fail
          go_fit (kBr _)
          rintro e w5 ⟨rfl, rfl⟩
          go_wp2_with fail
          go_fit kN
          rintro e w6 ⟨hno, _, hk6⟩
          have hp := hno rfl
          have HK6 : Hid _ := HR2.out _ hk6
          clear hno hk6
          have hp' : e = _ := hp
          subst hp'
          go_wp2
          exact ⟨rfl, by rw [HV0.out]; exact Np.no rfl (HKW.out.next HSB.out HK6.out)⟩
        | some s2 =>
          rw [hvk] at kN HSC
          go_wp2_with fail
          go_fit (kBr _)
          rintro e w5 ⟨rfl, rfl⟩
          go_wp2_with fail
          go_fit kN
          rintro e w6 ⟨_, hyes, hk6⟩
          obtain ⟨rfl, v2, sv2, sb2⟩ := hyes s2 rfl
          have HK6 : Hid _ := HR.out _ _ sb2 hk6
          have HS6 : Hid _ := sv2
          clear hyes hk6 sv2 sb2
          go_wp2
          exact ⟨⟨i + 1, by go_num, HI.out, v2, s2, HSC.out, HS6.out, HK6.out.1, HK6.out.2⟩, by simp [RowKit.intOf]; omega⟩
      · rw [hb] at HSC
        simp only [hb] at kBr
        have kN := kN (op + 1) (by omega) (by omega)
        simp only [if_true] at HSC
        cases hvk : vd m (kid t i) (op + 1) s' with
        | none =>
          rw [hvk] at kN HSC
          have HV0 : Hid (vd (m + 1) t op s = none) := by rw [HV.out]; exact vds_none HSC.out HI.out
          go_wp2_with fail
          go_fit (kBr _)
          rintro e w5 ⟨rfl, rfl⟩
          go_wp2_with fail
          go_fit kN
          rintro e w6 ⟨hno, _, hk6⟩
          have hp := hno rfl
          have HK6 : Hid _ := HR2.out _ hk6
          clear hno hk6
          have hp' : e = _ := hp
          subst hp'
          go_wp2
          exact ⟨rfl, by rw [HV0.out]; exact Np.no rfl (HKW.out.next HSB.out HK6.out)⟩
        | some s2 =>
          rw [hvk] at kN HSC
          go_wp2_with fail
          go_fit (kBr _)
          rintro e w5 ⟨rfl, rfl⟩
          go_wp2_with fail
          go_fit kN
          rintro e w6 ⟨_, hyes, hk6⟩
          obtain ⟨rfl, v2, sv2, sb2⟩ := hyes s2 rfl
          have HK6 : Hid _ := HR.out _ _ sb2 hk6
          have HS6 : Hid _ := sv2
          clear hyes hk6 sv2 sb2
          go_wp2
          exact ⟨⟨i + 1, by go_num, HI.out, v2, s2, HSC.out, HS6.out, HK6.out.1, HK6.out.2⟩, by simp [RowKit.intOf]; omega⟩
    · have hii : ¬ (i : Int) < N := by omega
      obtain rfl : i = N := by omega
      go_wp2
      go_end0
      rw [HV.out, hI.out.1]
      exact Np.yes ⟨v', hI.out.2.1, HSB.out.trans hI.out.2.2.1 HKW.out.size⟩ (HKW.out.next HSB.out hI.out.2.2.2)
end Go.Proofs.YtajaadagejhllaaGreatDoor
/- Trees: node. -/
namespace Go.Proofs.YtajaadagejhllaaGreatDoor
open Go.RowKit
set_option maxHeartbeats 4000000 in
set_option maxRecDepth 100000 in
theorem node_10 (S B m : Nat) (v : Value) (t : Tr) (op : Int) (s : St) (w : World) (hIH : NodeOk S B m) (hv : Sv S w B v s) (ht : Tat S w t) (hk : s.k + 1 ≤ 8194) (hm : 8194 ≤ s.k + (m + 1)) (hn : s.n ≤ 100) (hS : S ≤ w.heap.size) (hop0 : 0 ≤ op) (hop : op ≤ 250) (hnd : ndB (t []) = true) (hkd : (t []).kind = 10) :
    Calls Tryz.prog 48 #[.pointer (some ⟨B, 0, none⟩), ndV (t []), .int .i64 op] w (Np S B v (vd (m + 1) t op s) w) := by
  obtain ⟨hv2, hc2, hk2, hz2, hg2⟩ := node_beg (t []) hv
  have ht2 := ht.below (hv.low hS hk2)
  have kS := isSound_tree (t []) (begW w B (t []) s.k) ht2.ranges.ml (by have := ht.node; omega)
  rw [hnd] at kS
  have c0 := hv.c0
  have c0' := (hv.below ((Below.refl _ w).alloc (Nat.le_refl _) (ndX (t [])))).c0
  have f0' := (hv.below ((Below.refl _ w).alloc (Nat.le_refl _) (ndX (t [])))).fz 0
  have hnode := ht.node
  obtain ⟨W, hW⟩ : ∃ W, W = begW w B (t []) s.k := ⟨_, rfl⟩
  rw [← hW] at hv2 hc2 hk2 hz2 ht2 kS
  have HW' : Hid (W = (w.alloc (ndX (t []))).setCell ⟨B, 0, none⟩ (.int .i64 ((s.k : Int) + 1))) := hW
  obtain ⟨G, hG⟩ : ∃ G, G = w.heap.size := ⟨_, rfl⟩
  have HG : Hid (G = w.heap.size) := hG
  rw [← hG] at hc2 hz2 hg2
  have HC2 : Hid (Cs W G 0 (t [])) := hc2
  have HV2 : Hid (Sv S W B v { s with k := s.k + 1 }) := hv2
  have HT2 : Hid (Tat S W t) := ht2
  have HK2 : Hid (Kp (Mv B v) w W) := hk2
  have HZ2 : Hid (G < W.heap.size) := hz2
  have HS2 : Hid (S ≤ W.heap.size) := Nat.le_trans hS hk2.size
  have HM2 : Hid (¬ Mv B v G) := hg2
  have IH : Hid (NodeOk S B m) := hIH
  have HN0 : Hid (s.n ≤ 100) := hn
  have HK0 : Hid (s.k + 1 ≤ 8194) := hk
  have HM0 : Hid (8194 ≤ s.k + (m + 1)) := hm
  have HND : Hid (ndB (t []) = true) := hnd
  have HVD : Hid (vd (m + 1) t op s = (mid (t []) { s with k := s.k + 1 }).bind fun s1 => vds (vd m) t (if (t []).kind = 7 then op + 1 else op) (t []).kn s1) := by
    show (if _ then _ else _) = _
    rw [if_neg (by rw [hnd]; simp; omega)]
  have d0 := hv2.c0
  obtain ⟨e0, e1, e2, e3, e4, e5, e6, e7, e8⟩ := hc2
  simp only [Nat.zero_add] at e0 e1 e2 e3 e4 e5 e6 e7 e8
  obtain ⟨N, hN⟩ : ∃ N, (t []).kn = N := ⟨_, rfl⟩
  have HN : Hid ((t []).kn = N) := hN
  have hNb : (N : Int) ≤ 140737488351232 := by rw [← hN]; omega
  have hki : (s.k : Int) + 1 ≤ 8194 := by omega
  obtain ⟨KA, hKA⟩ : ∃ KA, (t []).ka = KA := ⟨_, rfl⟩
  have HKA : Hid ((t []).ka = KA) := hKA
  obtain ⟨d, hd⟩ : ∃ d, t [] = d := ⟨_, rfl⟩
  have HD : Hid (t [] = d) := hd
  rw [hd] at e0 e1 e2 e3 e4 e5 e6 e7 e8 kS c0' f0' HC2 HW' HVD hN hKA HND hkd
  clear hv ht hW hG hv2 hk2 hz2 ht2 hg2 hIH hn hm hnd hnode hk
  push_cast at d0
  have HN' : Hid (d.kn = N) := hN
  have HKA' : Hid (d.ka = KA) := hKA
  clear hN hKA
  have HV : Hid (vd (m + 1) t op s = vds (vd m) t (op) N { s with k := s.k + 1, l := true }) := by rw [HVD.out]; unfold mid; rw [if_pos (by omega), if_neg (by omega), HN'.out]; rfl
  have t10 : (d.kind == 10) = true := by simp; omega
  have t11 : (d.kind == 11) = false := by simp; omega
  clear HVD hkd
  rw [hd]
  clear hd
  go_enter Tryz.func48, Tryz.ntmps48
  go_upto_region 2 with fail
  rw [← HW'.out, ← HG.out]
  go_wp2_with fail
  go_fit kS
  rintro e w3 ⟨rfl, b3⟩
  have sv3 := HV2.out.below b3
  have cs3 := HC2.out.kp (M := fun _ => False) (Kp.of b3) id
  have tt3 := HT2.out.below (b3.mono HS2.out)
  have kp3 := HK2.out.trans (Kp.of b3)
  have zz3 := Nat.le_trans HS2.out b3.size
  have gg3 := Nat.lt_of_lt_of_le HZ2.out b3.size
  clear e0 e1 e2 e3 e4 e5 e6 e7 e8 d0 c0 c0' f0' b3
  have f0 := cs3.c0
  have f2 := sv3.c2
  have fz := sv3.fz 2
  have sv4 := sv3.line
  obtain ⟨s1, hs1⟩ : ∃ s1, s1 = ({ s with k := s.k + 1, l := true } : St) := ⟨_, rfl⟩
  have hs1k : s1.k = s.k + 1 := by rw [hs1]
  have hs1n : s1.n ≤ 100 := by rw [hs1]; exact HN0.out
  obtain ⟨W4, hW4⟩ : ∃ W4, W4 = w3.setCell ⟨B, 2, none⟩ (.bool true) := ⟨_, rfl⟩
  have kk : Kp (Mv B v) w3 W4 := by rw [hW4]; exact (Kp.refl _ w3).setCell (p := ⟨B, 2, none⟩) (.inl rfl) _
  have HW4 : Hid (W4 = w3.setCell ⟨B, 2, none⟩ (.bool true)) := hW4
  have cs4 := cs3.kp kk HM2.out
  have tt4 := tt3.below (sv3.low zz3 kk)
  have kp4 := kp3.trans kk
  have zz4 := Nat.le_trans zz3 kk.size
  dsimp only at sv4
  rw [← hW4, ← hs1] at sv4
  rw [← hs1] at HV
  clear hs1 hW4 kk sv3 tt3 kp3 zz3 gg3 cs3
  go_upto_region 11 with fail
  rw [← HW4.out]
  have sb4 := Sub.refl w v
  have hm4 := HM2.out
  clear f0 f2 fz
  have HS4 : Hid (Sv S W4 B v s1) := sv4
  have HT4 : Hid (Tat S W4 t) := tt4
  have HKW : Hid (Kp (Mv B v) w W4) := kp4
  have HSB : Hid (Sub w v v) := sb4
  have HZ4 : Hid (S ≤ W4.heap.size) := zz4
  have HM : Hid (¬ Mv B v G) := hm4
  have E0 : Hid (W4.cell? ⟨G, 0, none⟩ = some (.int .i64 d.kind)) := by have := cs4.c0; exact this
  have HK1 : Hid (8194 ≤ s1.k + m ∧ s1.k ≤ 8194) := by have a := HK0.out; have b := HM0.out; have c := hs1k; exact ⟨by omega, by omega⟩
  have HN1 : Hid (s1.n ≤ 100) := hs1n
  have e8 := cs4.c8
  simp only [Nat.zero_add] at e8
  rw [HN'.out, HKA'.out] at e8
  clear sv4 tt4 kp4 sb4 zz4 hm4 cs4 hs1k hs1n
  go_wp2_with fail
  go_loopw [48] (fun ivv w' => ∃ i : Nat, ivv = .int .i64 (i : Int) ∧ i ≤ N ∧ ∃ v' s', Hid (vds (vd m) t (op) i s1 = some s' ∧ Sv S w' B v' s' ∧ Sub W4 v v' ∧ Kp (Mv B v) W4 w')) (fun ivv _ => N - (RowKit.intOf ivv).toNat)
  case atStart => exact ⟨0, rfl, by omega, v, s1, rfl, HS4.out, Sub.refl _ _, Kp.refl _ _⟩
  case round =>
    obtain ⟨i, rfl, hi, v', s', hI⟩ := hrel
    by_cases hlt : i < N
    · have hii : (i : Int) < N := by omega
      have HI : Hid (i < N) := hlt
      obtain ⟨hvd, hsv, hsub, hkp⟩ := hI.out
      have htr := HT4.out.below (HS4.out.low HZ4.out hkp)
      have hsz : S ≤ wr.heap.size := Nat.le_trans HZ4.out hkp.size
      obtain ⟨g1, o1, hka, hg1, hcs⟩ := htr.kids.at i (by rw [HN.out]; exact hlt)
      have hc0 := hkp.cell E0.out HM.out
      have hc0' : ∀ o, (wr.alloc o).cell? ⟨G, 0, none⟩ = some (.int .i64 d.kind) := fun o => bcell2 ((Below.refl _ wr).alloc (Nat.le_refl _) o) hc0
      have kBr := fun W => bracketed_any d.kind (t [i]).kind W
      have hal : Below wr.heap.size wr (wr.alloc (ndX (t [i]))) := (Below.refl _ wr).alloc (Nat.le_refl _) _
      have hks := vds_k hvd HK1.out.2
      have hns := vds_n hvd HN1.out
      have hk1 := HK1.out
      have hSc := vds_succ hvd
      rw [HD.out] at hSc
      have kN := fun op' h0 h1 => IH.out (kid t i) op' s' v' (wr.alloc (ndX (t [i]))) (hsv.below hal) ((htr.kid i (by rw [HN.out]; exact hlt)).below (hal.mono hsz)) hks.2 (by omega) hns (Nat.le_trans hsz hal.size) h0 h1
      change ∀ op', 0 ≤ op' → op' ≤ 1000 → Calls Tryz.prog 48 #[.pointer (some ⟨B, 0, none⟩), ndV (t [i]), .int .i64 op'] (wr.alloc (ndX (t [i]))) (Np S B v' (vd m (kid t i) op' s') (wr.alloc (ndX (t [i])))) at kN
      have HR : Hid (∀ w2 v2, Sub (wr.alloc (ndX (t [i]))) v' v2 → Kp (Mv B v') (wr.alloc (ndX (t [i]))) w2 → Sub W4 v v2 ∧ Kp (Mv B v) W4 w2) := fun w2 v2 a b => ⟨hsub.trans a (Nat.le_trans hkp.size hal.size), (hkp.trans (Kp.of hal)).next hsub b⟩
      have HR2 : Hid (∀ w2, Kp (Mv B v') (wr.alloc (ndX (t [i]))) w2 → Kp (Mv B v) W4 w2) := fun w2 b => (hkp.trans (Kp.of hal)).next hsub b
      rw [HKA.out] at hka
      cases hka
      obtain ⟨p0, p1, p2, p3, p4, p5, p6, p7, p8⟩ := hcs
      have HSC : Hid (vds (vd m) t (op) (i + 1) s1 = _) := hSc
      clear hvd hsv hsub hkp htr hal hks hns hSc hk1
      generalize hdk : t [i] = dk at *
      have HDK : Hid (t [i] = dk) := hdk
      clear hdk
      have hbr : ∀ q : Bool, brB d.kind dk.kind = q → True := fun _ _ => trivial
      cases hb : brB d.kind dk.kind
      · rw [hb] at HSC
        simp only [hb] at kBr
        have kN := kN (op) (by omega) (by omega)
        simp only [Bool.false_eq_true, if_false] at HSC
        cases hvk : vd m (kid t i) (op) s' with
        | none =>
          rw [hvk] at kN HSC
          have HV0 : Hid (vd (m + 1) t op s = none) := by rw [HV.out]; exact vds_none HSC.out HI.out
          go_wp2_with fail
          go_fit (kBr _)
          rintro e w5 ⟨rfl, rfl⟩
          go_wp2_with fail
          go_fit kN
          rintro e w6 ⟨hno, _, hk6⟩
          have hp := hno rfl
          have HK6 : Hid _ := HR2.out _ hk6
          clear hno hk6
          have hp' : e = _ := hp
          subst hp'
          go_wp2
          exact ⟨rfl, by rw [HV0.out]; exact Np.no rfl (HKW.out.next HSB.out HK6.out)⟩
        | some s2 =>
          rw [hvk] at kN HSC
          go_wp2_with fail
          go_fit (kBr _)
          rintro e w5 ⟨rfl, rfl⟩
          go_wp2_with fail
          go_fit kN
          rintro e w6 ⟨_, hyes, hk6⟩
          obtain ⟨rfl, v2, sv2, sb2⟩ := hyes s2 rfl
          have HK6 : Hid _ := HR.out _ _ sb2 hk6
          have HS6 : Hid _ := sv2
          clear hyes hk6 sv2 sb2
          go_wp2
          exact ⟨⟨i + 1, by go_num, HI.out, v2, s2, HSC.out, HS6.out, HK6.out.1, HK6.out.2⟩, by simp [RowKit.intOf]; omega⟩
      · rw [hb] at HSC
        simp only [hb] at kBr
        have kN := kN (op + 1) (by omega) (by omega)
        simp only [if_true] at HSC
        cases hvk : vd m (kid t i) (op + 1) s' with
        | none =>
          rw [hvk] at kN HSC
          have HV0 : Hid (vd (m + 1) t op s = none) := by rw [HV.out]; exact vds_none HSC.out HI.out
          go_wp2_with fail
          go_fit (kBr _)
          rintro e w5 ⟨rfl, rfl⟩
          go_wp2_with fail
          go_fit kN
          rintro e w6 ⟨hno, _, hk6⟩
          have hp := hno rfl
          have HK6 : Hid _ := HR2.out _ hk6
          clear hno hk6
          have hp' : e = _ := hp
          subst hp'
          go_wp2
          exact ⟨rfl, by rw [HV0.out]; exact Np.no rfl (HKW.out.next HSB.out HK6.out)⟩
        | some s2 =>
          rw [hvk] at kN HSC
          go_wp2_with fail
          go_fit (kBr _)
          rintro e w5 ⟨rfl, rfl⟩
          go_wp2_with fail
          go_fit kN
          rintro e w6 ⟨_, hyes, hk6⟩
          obtain ⟨rfl, v2, sv2, sb2⟩ := hyes s2 rfl
          have HK6 : Hid _ := HR.out _ _ sb2 hk6
          have HS6 : Hid _ := sv2
          clear hyes hk6 sv2 sb2
          go_wp2
          exact ⟨⟨i + 1, by go_num, HI.out, v2, s2, HSC.out, HS6.out, HK6.out.1, HK6.out.2⟩, by simp [RowKit.intOf]; omega⟩
    · have hii : ¬ (i : Int) < N := by omega
      obtain rfl : i = N := by omega
      go_wp2
      go_end0
      rw [HV.out, hI.out.1]
      exact Np.yes ⟨v', hI.out.2.1, HSB.out.trans hI.out.2.2.1 HKW.out.size⟩ (HKW.out.next HSB.out hI.out.2.2.2)
end Go.Proofs.YtajaadagejhllaaGreatDoor
