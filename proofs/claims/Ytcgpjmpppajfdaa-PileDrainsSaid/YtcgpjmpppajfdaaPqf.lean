
/- PileDrains: one way of the walk. -/
import Derived.Test.YtcgpjmpppajfdaaPq
namespace Go.Proofs.Ytcgpjmpppajfdaa
open Go.RowKit

set_option maxHeartbeats 0 in
set_option maxRecDepth 100000 in
theorem drains_5 : drainsX.1.2.2.2.2.2.1 := by
  intro c n s w hN HTW G0 HG0 HL hnb z1 w0 B0 G HG w1 w2 Bb z2 rm b0 b1 b2 W4 Hb H2 z3 z4 z5 wr u2 u6 u7 u8 u9 u10 u11 u12 u13 u36 u37 u38 u39 u40 u41 u42 u43 u44 u45 u46 u47 u48 u49 u50 u51 u52 u53 u54 u55 u56 u57 u58 u59 u60 u61 u62 u63 u64 u65 u66 u67 u68 u69 u70 u71 u72 u73 u74 u75 u76 u77 u78 u79 u80 u81 u82 u83 u84 u85 u86 u87 u88 u89 u90 u91 u92 u93 u94 u95 u96 u97 u98 u99 u100 u101 u102 u103 u104 u105 u106 u107 u108 u109 u110 u111 u112 u113 u114 u115 u116 u117 u118 u119 u120 u121 u122 u123 u124 u125 u126 u127 u128 u129 u130 u131 u132 u133 u134 u135 u136 u137 u138 u139 u140 u141 u142 u143 u144 u145 u146 u147 u148 u149 u150 u151 u152 u153 u154 u155 u156 u157 u158 u159 u160 u161 u162 u163 u164 u165 u166 u167 u168 u169 u170 u171 u172 u173 u174 u175 u176 u177 u178 u179 u180 u181 u182 u183 u184 u185 u186 u187 u188 u189 u190 u191 u192 u193 u194 u195 i hi col bb xx v vb nn mm f B C hp hlt hii HI g o HF hg pi nu q3 q2 k hk3 col1 HC Sb HSc LB HSb hki z6 z7 z8 z9 z10 z11 z12 W2 PS1 HD1 s2 S2 ak ck hcl pk hbx hfl L hGN bcK hnn q1 HW1 s0 S0 E1 k02
  have PS3 : Hid (PS 3 G G Bb w0 col1 W2 bb xx v vb nn mm f B C) := PS1.out
  have HD3 : Hid (HD 3 Hb col1 W2 bb hp) := HD1.out
  have ES3 : Hid (W2.heap[Sb]? = some (.cells #[.int .i64 5, .int .i64 pi, .int .i64 nu] 55)) := E1.out
  have BX3 : Hid (W2.heap[(hp k)]? = some (.cells #[.pointer (some ⟨bb k, 0, none⟩)] 28)) := hbx
  clear PS1 HD1 E1
  generalize hW3 : W2 = W3 at *
  clear hW3
  have bI : Below W3.heap.size W3 (W3.alloc (.cells #[.int .i64 nu, .int .i64 (i : Int)] 24)).drew := ((Below.refl _ W3).alloc (Nat.le_refl _) _).drew
  have ps4 := PS3.out.below' bI
  have PS4 : Hid (PS 3 G G Bb w0 col1 (W3.alloc (.cells #[.int .i64 nu, .int .i64 (i : Int)] 24)).drew bb xx v vb nn mm f B C) := ps4
  have HD4 : Hid (HD 3 Hb col1 (W3.alloc (.cells #[.int .i64 nu, .int .i64 (i : Int)] 24)).drew bb hp) := HD3.out.kp (Kp.of (M := fun _ => False) bI) (fun _ e => e.elim) (fun j _ => rfl) (by omega)
  have ES4 : Hid ((W3.alloc (.cells #[.int .i64 nu, .int .i64 (i : Int)] 24)).drew.heap[Sb]? = some (.cells #[.int .i64 5, .int .i64 pi, .int .i64 nu] 55)) := (bI.block _ (Array.getElem?_eq_some_iff.1 ES3.out).1).trans ES3.out
  have kDr := drained_any (hp k) (bb k) (xx k) (nn k) (mm k) (L + 1) (fl k) (v k) (f k) true nu (nu, (i : Int)) (B k) _ (ps4.pl k hk3) (ps4.bk k hk3) ((bI.block _ (Array.getElem?_eq_some_iff.1 BX3.out).1).trans BX3.out) (by have := HL.out; have := HI.out; omega) (by have := HL.out; have := HI.out; omega)
  have hwr : IntKind.i64.wrap ((L : Int) + 1) = (L : Int) + 1 := IntWalk.i64_in _ (by have := HL.out; have := HI.out; omega)
  rw [show (((L + 1 : Nat) : Int)) = (L : Int) + 1 by omega] at kDr
  have pka := bcell2 bI pk
  have bca := bcell2 bI bcK
  have s0a := bcell2 bI s0
  have s2a := bcell2 bI s2
  have HAft : Hid (∀ w5, Kp (fun j => j = bb k ∨ (v k).ownBlock = some j) (W3.alloc (.cells #[.int .i64 nu, .int .i64 (i : Int)] 24)).drew w5 → w5.cell? ⟨G, k, none⟩ = some (.pointer (some ⟨bb k, 0, none⟩)) ∧ w5.cell? ⟨Bb, k, none⟩ = some (.slice ak L ck) ∧ w5.cell? ⟨Sb, 0, none⟩ = some (.int .i64 5) ∧ w5.cell? ⟨Sb, 2, none⟩ = some (.int .i64 nu)) := fun w5 k5 => by
    have hM : ∀ j, (j = bb k ∨ (v k).ownBlock = some j) → col1 j = k := fun j e => by
      have hc := PS4.out.c1 k hk3
      rcases e with e | e
      · rw [e]; exact hc.1
      · exact hc.2.2 j e
    have hP := PS4.out.cP
    have hB := PS4.out.cB
    have hS := HSc.out
    exact ⟨k5.cell pka (fun (e : G = bb k ∨ (v k).ownBlock = some G) => by have := hM _ e; omega), k5.cell bca (fun (e : Bb = bb k ∨ (v k).ownBlock = some Bb) => by have := hM _ e; omega), k5.cell s0a (fun (e : Sb = bb k ∨ (v k).ownBlock = some Sb) => by have := hM _ e; omega), k5.cell s2a (fun (e : Sb = bb k ∨ (v k).ownBlock = some Sb) => by have := hM _ e; omega)⟩
  have HLB : Hid ((B k).length = L) := by rw [(PS4.out.bk k hk3).len]; exact hGN
  clear ps4 bI PS3 HD3 ES3 BX3
  go_wp2_with fail
  go_region_held3 (fun w' => w'.cell? ⟨G, k, none⟩ = some (.pointer (some ⟨bb k, 0, none⟩)) ∧ w'.cell? ⟨Bb, k, none⟩ = some (.slice ak L ck) ∧ w'.cell? ⟨Sb, 0, none⟩ = some (.int .i64 5) ∧ w'.cell? ⟨Sb, 2, none⟩ = some (.int .i64 nu)) (first | exact ⟨pk, bcK, s0, s2⟩ | exact ⟨pka, bca, s0a, s2a⟩ | exact ⟨pk5, bc5, s05, s25⟩) (first | (go_at_call 9; go_fit (it_exact nu (i : Int) _); rintro e w3 ⟨rfl, rfl⟩) | (go_at_call 19; go_fit kDr; rintro e w5 ⟨vl, l, Bf, m', n', v', f', rfl, row5, pl5, bk5, tr5, he5, hj5, hm5, hn5, hv5, kp5⟩; obtain ⟨pk5, bc5, s05, s25⟩ := HAft.out w5 kp5; have RP0 : Hid (RP G Bb Hb w0 i k Sb (5, pi, nu) vl l true (nu, (i : Int)) Bf (nn k) 0 w5) := RP.start PS4.out HD4.out HSc.out ES4.out HC.out hk3 kp5 row5 pl5 bk5 tr5 hm5 hn5 hv5; obtain ⟨al, cl, rfl, iml5, hcl5⟩ := row5.iml; have HE5 : Hid _ := he5; have HJ5 : Hid _ := hj5; have HN5 : Hid _ := hn5; clear pl5 bk5 tr5 hm5 hv5 kp5 he5 hj5 hn5 row5 kDr iml5))
  have hl5 : l.length ≤ L + 1 := by have := HN5.out; have := HLB.out; omega
  have hl6 : l.length ≤ 1152921504606846976 := by have := HL.out; have := HI.out; omega
  rw [hGN] at RP0
  clear pk bcK s0 s2 pka bca s0a s2a pk5 bc5 s05 s25 HAft PS4 HD4 ES4 hbx hcl LB hwr
  go_wp2
  go_loopw [110, 11] (fun ivv _ w' => ∃ (r : Nat), ivv = .int .i64 (r : Int) ∧ r ≤ l.length ∧ Hid (RP G Bb Hb w0 i k Sb (5, pi, nu) (.slice al l.length cl) l true (nu, (i : Int)) Bf L r w')) (fun ivv _ _ => l.length - (RowKit.intOf ivv).toNat)
  case atStart => exact ⟨0, rfl, by omega, RP0⟩
  case round =>
    obtain ⟨r, rfl, hr, rp⟩ := hrel
    by_cases hrl : r < l.length
    · have hri : (r : Int) < l.length := by omega
      obtain ⟨gl, ol, rfl, c0, c1⟩ := rp.out.got hrl
      obtain ⟨⟨xk, xi⟩, hx⟩ : ∃ x, lk l r = x := ⟨_, rfl⟩
      rw [hx] at c0 c1
      obtain ⟨W6, hW6⟩ : ∃ W6, W6 = wr.alloc (.cells #[.int .i64 xk, .int .i64 xi] 24) := ⟨_, rfl⟩
      have b6 : Below wr.heap.size wr W6 := by rw [hW6]; exact (Below.refl _ wr).alloc (Nat.le_refl _) _
      have e6 : W6.heap[wr.heap.size]? = some (.cells #[.int .i64 xk, .int .i64 xi] 24) := by rw [hW6]; exact heap_alloc_new wr _
      have x0 : W6.cell? ⟨wr.heap.size, 0, none⟩ = some (.int .i64 xk) := by unfold World.cell?; rw [e6]; rfl
      have x1 : W6.cell? ⟨wr.heap.size, 1, none⟩ = some (.int .i64 xi) := by unfold World.cell?; rw [e6]; rfl
      have rp6 := rp.out.below b6
      obtain ⟨ga, oa, c', L', b, hbL, bc6, hL', xs, im6, hfr, hxb, hst⟩ := rp6.step hk3 hrl (by have := HL.out; have := HI.out; omega)
      rw [hx] at hxb
      have hL6 : L' * 16 ≤ 140737488355328 := by have := HL.out; have := HI.out; omega
      obtain ⟨q0, q1⟩ : W6.cell? ⟨ga, oa + b * 2, none⟩ = some (.int .i64 xk) ∧ W6.cell? ⟨ga, oa + b * 2 + 1, none⟩ = some (.int .i64 xi) := by
        rcases im6 with h0 | ⟨g9, o9, e, _, hat⟩
        · omega
        · cases e
          have := hat b hbL
          rw [hxb] at this
          exact this
      have kF := rfirst_any (some ⟨ga, oa, none⟩) c' L' xs (fl k) W6 im6 (by omega)
      rw [hfr] at kF
      have bcw : (wr.alloc (.cells #[.int .i64 xk, .int .i64 xi] 24)).cell? ⟨Bb, k, none⟩ = some (.slice (some ⟨ga, oa, none⟩) L' c') := by rw [← hW6]; exact bc6
      have HST : Hid _ := hst
      have HIM : Hid (Iml W6 (some ⟨ga, oa, none⟩) xs L') := im6
      have HW6 : Hid (W6 = wr.alloc (.cells #[.int .i64 xk, .int .i64 xi] 24)) := hW6
      obtain ⟨Xb, hXb⟩ : ∃ Xb, Xb = wr.heap.size := ⟨_, rfl⟩
      have HXb : Hid (Xb = wr.heap.size) := hXb
      rw [← hXb] at x0 x1
      have heq : eqB (xk, xi) (xk, xi) = true := (eqB_iff _ _).2 rfl
      have hbi : (b : Int) < L' := by omega
      have hb0 : decide ((b : Int) < 0) = false := decide_eq_false (by omega)
      have hb1 : ¬ (b : Int) < 0 := by omega
      have HRL : Hid (r + 1 ≤ l.length) := hrl
      clear e6 b6 rp rp6 hst im6 hW6 hXb hfr hxb hx RP0
      go_wp2_with fail
      rw [← HW6.out, ← HXb.out]
      go_fit kF
      rintro r_ w7 ⟨rfl, b7⟩
      have x07 := bcell2 b7 x0
      have x17 := bcell2 b7 x1
      have q07 := bcell2 b7 q0
      have q17 := bcell2 b7 q1
      have bc7 := bcell2 b7 bc6
      have B7 : Hid (Below W6.heap.size W6 w7) := b7
      clear b7 kF x0 x1 q0 q1 bc6 bcw HXb HW6 c0 c1
      go_wp2_with fail
      go_big_quiet (fail)
      have b8 : Below W6.heap.size W6 (w7.drewN nq) := below_drewN B7.out nq
      have bc8 : (w7.drewN nq).cell? ⟨Bb, k, none⟩ = some (.slice (some ⟨ga, oa, none⟩) L' c') := bc7
      clear bc7 x07 x17 q07 q17 B7
      generalize w7.drewN nq = W8 at *
      have kW := rwithout_any (some ⟨ga, oa, none⟩) c' L' b xs W8 (HIM.out.below b8) hL6 hbL
      have HST2 : Hid _ := fun v9 w9 => HST.out v9 W8 w9 b8
      clear HST b8 HIM hfl
      go_wp2_with fail
      go_fit kW
      rintro r_ w9 ⟨v9, rfl, o9, b9⟩
      obtain ⟨d1, d2, HNO, HYES⟩ := HST2.out v9 w9 o9 b9
      obtain ⟨a9, c9, rfl, _, _⟩ := o9.iml
      clear o9 b9 kW HST2 bc8
      by_cases hr0 : r = 0
      · subst hr0
        obtain ⟨hS, a10, c10, e10, bcS, happ⟩ := HYES (by simp)
        cases e10
        have z0 : (w9.setCell ⟨Bb, k, none⟩ (.slice a9 (L' - 1) c9)).cell? ⟨Sb, 0, none⟩ = some (.int .i64 5) := by unfold World.cell?; rw [hS]; rfl
        have z2 : (w9.setCell ⟨Bb, k, none⟩ (.slice a9 (L' - 1) c9)).cell? ⟨Sb, 2, none⟩ = some (.int .i64 nu) := by unfold World.cell?; rw [hS]; rfl
        obtain ⟨W9, hW9⟩ : ∃ W9, W9 = w9.setCell ⟨Bb, k, none⟩ (.slice a9 (L' - 1) c9) := ⟨_, rfl⟩
        have z0w := z0
        rw [← hW9] at z0 z2 bcS happ
        have HW9 : Hid (W9 = w9.setCell ⟨Bb, k, none⟩ (.slice a9 (L' - 1) c9)) := hW9
        obtain ⟨g6, c6, w6, r6, d3, d4, ln⟩ := happ (W9.alloc (iX (nu, (i : Int)))).drew ((Below.refl _ W9).alloc (Nat.le_refl _) _).drew
        have LN : Hid _ := ln
        have r' : (Builtin.append_ #[22, 22] 22 #[.slice a9 (L' - 1) c9, .slice (some ⟨W9.heap.size + 1, 0, none⟩) 1 1]).run Try.prog ((W9.alloc (.cells #[.int .i64 nu, .int .i64 (i : Int)] 24)).alloc (.cells #[.int .i64 nu, .int .i64 (i : Int)] 24)).drew = .ok (.slice (some ⟨g6, 0, none⟩) (L' - 1 + 1) c6) w6 := by
          have := r6
          rw [show (W9.alloc (iX (nu, (i : Int)))).drew.heap.size = W9.heap.size + 1 by simp] at this
          exact this
        have bc6_ := cell_al (.cells #[.int .i64 nu, .int .i64 (i : Int)] 24) bcS
        have bc8_ := cell_al (.cells #[.int .i64 nu, .int .i64 (i : Int)] 24) bc6_
        have z6 := cell_al (.cells #[.int .i64 nu, .int .i64 (i : Int)] 24) z2
        have z7 := cell_al (.cells #[.int .i64 nu, .int .i64 (i : Int)] 24) z6
        clear HNO HYES hS happ hW9 ln r6
        generalize hLe : L' - 1 = L9 at *
        go_wp2_with fail
        rw [← HW9.out]
        go_region_law (first | (refine step_append_run rfl (.tmp 156) (.tmp 161) 22 22 rfl _ _ rfl rfl r' ?_) | (refine step_it rfl 158 159 #[3, 3] rfl nu (i : Int) rfl rfl ?_))
        all_goals go_wp2
        all_goals exact ⟨⟨1, by go_num, HRL.out, LN⟩, by simp [RowKit.intOf]; omega⟩
      · have hr1 : ((r : Int) == 0) = false := by simpa using hr0
        have ln := HNO (fun h => hr0 h.2)
        have z0 := ln.kind.1
        have LN : Hid _ := ln
        clear HNO HYES ln hr0
        go_wp2
        exact ⟨⟨r + 1, by go_num, HRL.out, LN⟩, by simp [RowKit.intOf]; omega⟩
    · have hri : ¬ (r : Int) < l.length := by omega
      have hre : r = l.length := by omega
      obtain ⟨z0, z2⟩ := rp.out.kind
      have z2 : wr.cell? ⟨Sb, 2, none⟩ = some (.int .i64 nu) := z2
      rw [hre] at rp
      obtain ⟨ln, ak', ck', bcE⟩ := rp.out.done hk3
      have LN : Hid _ := ln
      clear rp ln RP0 z0
      rcases HE5.out with hb0 | ⟨hb1, hb2⟩
      · rw [show Bf.length = 0 by rw [hb0]; rfl] at bcE
        by_cases hnu : 0 < nu
        · have hng : ¬ nu < (l.length : Int) := fun h => by
            have := (HJ5.out nu.toNat (by omega) (by omega)).1
            omega
          clear hb0 hre
          go_wp2
          exact ⟨⟨i + 1, by go_num, HI.out, LN⟩, by simp [RowKit.intOf]; omega⟩
        · clear hb0 hre
          go_wp2
          exact ⟨⟨i + 1, by go_num, HI.out, LN⟩, by simp [RowKit.intOf]; omega⟩
      · have hnl : (l.length : Int) = nu := by
          rcases hb1 with h | h
          · exact h
          · omega
        have h1 : ¬ nu ≤ 0 := by omega
        have h2 : ¬ (l.length : Int) < nu := by omega
        have h3 : 0 < nu := by omega
        have h4 : ¬ nu < (l.length : Int) := by omega
        by_cases hbf : 0 < (Bf.length : Int)
        · clear hb1 hb2 hre hnl
          go_wp2
          exact ⟨⟨i + 1, by go_num, HI.out, LN⟩, by simp [RowKit.intOf]; omega⟩
        · clear hb1 hb2 hre hnl
          go_wp2
          exact ⟨⟨i + 1, by go_num, HI.out, LN⟩, by simp [RowKit.intOf]; omega⟩
end Go.Proofs.Ytcgpjmpppajfdaa
