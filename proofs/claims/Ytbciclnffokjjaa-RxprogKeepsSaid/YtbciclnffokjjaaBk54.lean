/- A bundle of texts. -/
import Derived.Test.YtbciclnffokjjaaBk53
/- RxprogKeeps: the law's walk: names and words written over, q held against the copies. -/
namespace Go.Proofs.Ytbciclnffokjjaa
open Go.RowKit Go.Lib

/-- q's ranges and the copies of p's, at one instruction. -/
theorem FX.chk {N n M : Nat} {h0 : Nat → Nat → Rg} {rn0 : Nat → Nat} {nf lf : Nat → ByteArray} {OA : Nat → World → Value → Prop} {WZ : Nat → Nat → World → Nd → Prop} {W : World} {NB WB PB QB TL SQ g cc : Nat} {na : Option Addr} {nc g2 c2 : Nat} {na2 : Option Addr} {nc2 : Nat} {ma : Option Addr} {mc ga ca gb cb : Nat} {du : Nd} {fq : Nat → In} {rv : Value} {w' : World} {op0 : Nat → Int}
    (F : FX N n M h0 rn0 nf lf OA WZ W NB WB PB QB TL SQ g cc na nc g2 c2 na2 nc2 ma mc ga ca gb cb du fq rv w') (hq : ∀ j, j < N → (fq j).rn = rn0 j ∧ (fq j).op = op0 j) (i : Nat) (hi : i < N) (hb : rn0 i * 8 ≤ 140737488351232) :
    ∃ ra rc gr cr b c, rv = .slice (some ⟨gr, 0, none⟩) N cr ∧ (∀ w2, Below w'.heap.size w' w2 → (w2.cell? ⟨QB, 0, none⟩ = some (.slice (some ⟨g2, 0, none⟩) N c2) ∧ w2.cell? ⟨g2, i * 5 + 4, none⟩ = some (.slice ra (rn0 i) rc) ∧ w2.cell? ⟨g2, i * 5, none⟩ = some (.int .i64 (op0 i)) ∧ w2.cell? ⟨gr, i, none⟩ = some (.slice (some ⟨b, 0, none⟩) (rn0 i) c)) ∧ Below w'.heap.size w' w2) ∧ ∀ w2, Below w'.heap.size w' w2 → Calls Try.prog 20 #[.slice ra (rn0 i) rc, .slice (some ⟨b, 0, none⟩) (rn0 i) c] w2 fun e w3 => e = .returned (.bool true) ∧ Below w'.heap.size w' w3 := by
  obtain ⟨vs, hrow, hvs⟩ := F.rg
  obtain ⟨b, c, hv, hr⟩ := hvs i hi
  obtain ⟨e1, e2⟩ := hq i hi
  rcases hrow.2 with ⟨_, h⟩ | ⟨gr, cr, cur, hrv, _⟩
  · omega
  · refine ⟨(fq i).ra, (fq i).rc, gr, cr, b, c, hrv, ?_, ?_⟩
    · intro w2 b2
      obtain ⟨q0, _, _, _⟩ := pr_room F.qx
      obtain ⟨q1, q2, _⟩ := F.qw.cell i hi
      have q2 : w'.cell? ⟨g2, i * 5 + 4, none⟩ = some (.slice (fq i).ra (fq i).rn (fq i).rc) := q2
      rw [e1] at q2
      rw [e2] at q1
      rw [hrv] at hrow
      have q3 : w'.cell? ⟨gr, i, none⟩ = some (.slice (some ⟨b, 0, none⟩) (rn0 i) c) := (World.ownsRow.cellAt hrow i (by omega)).trans hv
      exact ⟨⟨bcell2 b2 q0, bcell2 b2 q2, bcell2 b2 q1, bcell2 b2 q3⟩, b2⟩
    · intro w2 b2
      have hg := F.qw.rg i hi
      have R1 : Rml w' (fq i).ra (h0 i) (rn0 i) := by
        rw [e1] at hg
        have hg : w'.ownsRow SQ 50 2 (.slice (fq i).ra (fq i).rn (fq i).rc) (rn0 i) (rc2 (h0 i) (rn0 i)) := hg
        rcases hg.2 with ⟨e, e0⟩ | ⟨bq, cq, _, e, _⟩
        · exact .inl e0
        · injection e with e3 e4 e5
          rw [e3, e4] at hg
          rw [e3]
          exact Rml.of_row hg (hg.lt bq rfl).2
      have R2 : Rml w' (some ⟨b, 0, none⟩) (h0 i) (rn0 i) := Rml.of_row hr (hr.lt b rfl).2
      exact (sameRanges_true (fq i).ra (some ⟨b, 0, none⟩) (fq i).rc c (rn0 i) (h0 i) w2 (R1.below b2) (R2.below b2) (by omega)).mono fun e w3 ⟨h1, h2⟩ => ⟨h1, b2.trans (h2.mono b2.size)⟩
set_option maxHeartbeats 4000000 in
set_option maxRecDepth 100000 in
def keepsV : { P : Prop // Hid P → keepsZ.1 } := by
  refine' ⟨_, fun Q4 => _⟩
  rotate_left 1
  · intro d N n M ok h0 rn0 op0 nf lf OA WZ w hN1 hn1 hM1 W HH HWz HB0 HOP HRN GB HGB HX zQ NB du WB g cc na nc PB g2 c2 na2 nc2 QB la lc ma mc SP fp SQ fq w12 ga ca w13 gb cb TL X u15 u79 u80 u81 u82 u83 u84 u85 u86 u87 u88 u89 u90 u91 u92 u93 u94 u95 u96 HKX hNI u18 u97 u98 u99 u100 u101 u102 u103 u104 u105 u106 u107 u108 u109 u110 u111 u112 u113 u114 u115 u116 u117 u118 u119 u120 u121 u122 u123 u124 u125 u126 u127 X0 u2 u20 u21 u22 u23 u128 u129 u130 u131 u132 u133 u134 u135 u136 u137 u138 u139 u140 u141 u142 u143 u144 u145 u146 u147 u148 u149 u150 u151 u152 u153 u154 u155 u156 u157 u158 u159 u160 u161 u162 u163 u164 u165 u166 u167 u168 u169 u170 u171 u172 u173 u174 u175 u176 u177 u178 u179 u180 u181 u182 u183 r HKP zK3 za3
    have HN0 : Hid (X0.ownsRow (WB + 1) 9 1 (.slice na n nc) n (sc nf n) ∧ Kp (fun b => WB + 1 ≤ b ∧ b < PB) X X0) := ⟨HKP.out.row HKX.out.pn (fun b e1 e2 => by have := HKX.out.pnl b e1; have e3 : SP ≤ b ∧ b < PB := e2; omega), HKP.out.mono (fun b _ e => by have e3 : SP ≤ b ∧ b < PB := e; have := HKX.out.ord; exact ⟨by omega, e3.2⟩)⟩
    have HPX : Hid (∀ w', Kp (fun b => WB + 1 ≤ b ∧ b < PB) X w' → w'.heap[PB]? = some (prX (some ⟨g, 0, none⟩) N cc 0 (n : Int) na n nc)) := fun w' k => (HKX.out.fut w' (k.mono (fun b _ e => .inl e))).px
    have HNL : Hid (∀ b, (Value.slice na n nc).ownBlock = some b → b < PB) := fun b e => by have := HKX.out.pnl b e; have := HKX.out.ord; omega
    clear HKP
    go_loopw [24] (fun ivv w' => ∃ (i : Nat) (nf' : Nat → ByteArray), ivv = .int .i64 (i : Int) ∧ i ≤ n ∧ Hid (w'.ownsRow (WB + 1) 9 1 (.slice na n nc) n (sc nf' n) ∧ Kp (fun b => WB + 1 ≤ b ∧ b < PB) X w')) (fun ivv _ => n - (RowKit.intOf ivv).toNat)
    case atStart => exact ⟨0, nf, rfl, by omega, HN0⟩
    case round =>
      obtain ⟨i, nf', rfl, hi, hinv⟩ := hrel
      have x3 := (pr_room (HPX.out wr hinv.out.2)).2.2.2
      by_cases hlt : i < n
      · have hii : (i : Int) < n := by omega
        have hnI : (n : Int) ≤ 100 := by omega
        obtain ⟨b, hb, hb1, hb2, hc, hfz, hrow, hkp⟩ := text_at hinv.out.1 i hlt ⟨#[109, 97, 114, 107, 101, 100]⟩
        have hbP : b < PB := HNL.out b (by rw [hb]; rfl)
        have HN : Hid ((wr.setCell ⟨b, i, none⟩ (.string ⟨#[109, 97, 114, 107, 101, 100]⟩)).ownsRow (WB + 1) 9 1 (.slice na n nc) n (sc (up nf' i ⟨#[109, 97, 114, 107, 101, 100]⟩) n) ∧ Kp (fun b => WB + 1 ≤ b ∧ b < PB) X (wr.setCell ⟨b, i, none⟩ (.string ⟨#[109, 97, 114, 107, 101, 100]⟩))) := ⟨hrow, hinv.out.2.trans' hkp (fun q _ e => by have e' : q = b := e; subst e'; exact ⟨hb1, hbP⟩)⟩
        subst hb
        clear hinv hrow hkp HN0 HPX HNL HKX
        go_wp2
        exact ⟨⟨i + 1, _, by go_num, by omega, HN⟩, by simp [RowKit.intOf]; omega⟩
      · have hii : ¬ (i : Int) < n := by omega
        have HL0 : Hid (wr.ownsRow (QB + 1) 9 1 (.slice la M lc) M (sc lf M) ∧ Kp (MK WB PB QB TL) X wr) := ⟨hinv.out.2.row HKX.out.lr (fun b e1 e2 => by have := HKX.out.lr.lt b e1; have e3 : WB + 1 ≤ b ∧ b < PB := e2; have := HKX.out.ord; omega), hinv.out.2.mono (fun b _ e => .inl e)⟩
        clear hinv HN0 HPX HNL
        go_wp2_with fail
        generalize wr = X1 at *
        go_loopw [25] (fun ivv w' => ∃ (i : Nat) (lf' : Nat → ByteArray), ivv = .int .i64 (i : Int) ∧ i ≤ M ∧ Hid (w'.ownsRow (QB + 1) 9 1 (.slice la M lc) M (sc lf' M) ∧ Kp (MK WB PB QB TL) X w')) (fun ivv _ => M - (RowKit.intOf ivv).toNat)
        case atStart => exact ⟨0, lf, rfl, by omega, HL0⟩
        case round =>
          clear x3
          obtain ⟨i, lf', rfl, hi, hinv⟩ := hrel
          by_cases hlt : i < M
          · have hii : (i : Int) < M := by omega
            have hMI : (M : Int) ≤ 64 := by omega
            obtain ⟨b, hb, hb1, hb2, hc, hfz, hrow, hkp⟩ := text_at hinv.out.1 i hlt ⟨#[109, 97, 114, 107, 101, 100]⟩
            have hbP : b < TL := HKX.out.ll b (by rw [hb]; rfl)
            have HN : Hid ((wr.setCell ⟨b, i, none⟩ (.string ⟨#[109, 97, 114, 107, 101, 100]⟩)).ownsRow (QB + 1) 9 1 (.slice la M lc) M (sc (up lf' i ⟨#[109, 97, 114, 107, 101, 100]⟩) M) ∧ Kp (MK WB PB QB TL) X (wr.setCell ⟨b, i, none⟩ (.string ⟨#[109, 97, 114, 107, 101, 100]⟩))) := ⟨hrow, hinv.out.2.trans' hkp (fun q _ e => by have e' : q = b := e; subst e'; exact .inr ⟨hb1, hbP⟩)⟩
            subst hb
            clear hinv hrow hkp HL0 HKX
            go_wp2
            exact ⟨⟨i + 1, _, by go_num, by omega, HN⟩, by simp [RowKit.intOf]; omega⟩
          · have hii : ¬ (i : Int) < M := by omega
            have HM0 : Hid (Kp (MK WB PB QB TL) X wr) := hinv.out.2
            clear hinv HL0
            go_wp2_with fail
            generalize wr = X2 at *
            go_loopw [26] (fun ivv w' => ∃ (i : Nat), ivv = .int .i64 (i : Int) ∧ i ≤ N ∧ Hid (Kp (MK WB PB QB TL) X w')) (fun ivv _ => N - (RowKit.intOf ivv).toNat)
            case atStart => exact ⟨0, rfl, by omega, HM0⟩
            case round =>
              obtain ⟨j, rfl, hj, hinv⟩ := hrel
              have HF := HKX.out.fut wr hinv.out
              have y0 := (pr_room HF.qx).1
              by_cases hlt : j < N
              · have hjj : (j : Int) < N := by omega
                have hopj : (op0 j == -1) = false := by have := HOP.out j hlt; simp [this]
                have hopj' : op0 j ≠ -1 := HOP.out j hlt
                obtain ⟨ra, rc, gr, cr, b, c, hrv, hks, hkt⟩ := HF.chk HKX.out.qrn j hlt (HRN.out j hlt)
                have hrnI : (rn0 j : Int) ≤ 140737488351232 := by have := HRN.out j hlt; omega
                have HKS : Hid _ := hks
                have HKT : Hid _ := hkt
                have HNX : Hid (∀ w2, Below wr.heap.size wr w2 → Kp (MK WB PB QB TL) X w2) := fun w2 b2 => hinv.out.trans (Kp.of b2)
                have hbr : Below wr.heap.size wr wr := Below.refl _ _
                obtain ⟨⟨c0, c1, c2', c3⟩, _⟩ := HKS.out wr hbr
                subst hrv
                clear hinv HF hks hkt HM0 HKX HH
                generalize rn0 j = rn at *
                generalize op0 j = opj at *
                go_wp2_with fail
                clear c0 c1 c2' c3 y0
                go_region_held3 (fun w' => (w'.cell? ⟨QB, 0, none⟩ = some (.slice (some ⟨g2, 0, none⟩) N c2) ∧ w'.cell? ⟨g2, j * 5 + 4, none⟩ = some (.slice ra rn rc) ∧ w'.cell? ⟨g2, j * 5, none⟩ = some (.int .i64 opj) ∧ w'.cell? ⟨gr, j, none⟩ = some (.slice (some ⟨b, 0, none⟩) rn c)) ∧ Below wr.heap.size wr w') (first | exact HKS.out _ (by assumption) | exact HKS.out _ (Below.drew (by assumption))) (first | (go_at_call 20; go_fit (HKT.out _ (by assumption)); rintro e w9 ⟨rfl, b9⟩) | (go_at_call 20; go_fit (HKT.out _ (Below.drew (by assumption))); rintro e w9 ⟨rfl, b9⟩))
                go_wp2
                exact ⟨⟨j + 1, by go_num, by omega, HNX.out _ b9⟩, by simp [RowKit.intOf]; omega⟩
              · have hjN : N = j := by omega
                subst hjN
                have hjj : ¬ (N : Int) < N := by omega
                have HKF : Hid (Kp (MK WB PB QB TL) X wr) := hinv
                clear hinv HF HM0 hlt hj
                go_upto_region 57 with fail
                rename_i zu2 zw1 zi zhi zhl zQa zK5 za5 zK4 zhii zw0 zQb zK3b za2 zK2 zQc zK1 za1 zK za
                clear za5 za2 za1 zQa zQb zQc zK5 zK3b zK1 zK4 zK2 zK3 zhi zhl zhii hi hlt hii hjj y0 nf' lf' zw1 zw0 X0 X1 X2 zu2
                revert d N n M ok h0 rn0 op0 nf lf OA WZ w hN1 hn1 hM1 W HH HWz HB0 HOP HRN GB HGB HX zQ NB du WB g cc na nc PB g2 c2 na2 nc2 QB la lc ma mc SP fp SQ fq w12 ga ca w13 gb cb TL X u15 u79 u80 u81 u82 u83 u84 u85 u86 u87 u88 u89 u90 u91 u92 u93 u94 u95 u96 HKX hNI u18 u97 u98 u99 u100 u101 u102 u103 u104 u105 u106 u107 u108 u109 u110 u111 u112 u113 u114 u115 u116 u117 u118 u119 u120 u121 u122 u123 u124 u125 u126 u127 u20 u21 u22 u23 u128 u129 u130 u131 u132 u133 u134 u135 u136 u137 u138 u139 u140 u141 u142 u143 u144 u145 u146 u147 u148 u149 u150 u151 u152 u153 u154 u155 u156 u157 u158 u159 u160 u161 u162 u163 u164 u165 u166 u167 u168 u169 u170 u171 u172 u173 u174 u175 u176 u177 u178 u179 u180 u181 u182 u183 r u184 u185 u186 u187 u188 u189 u190 u191 u192 u193 u194 zi u195 u196 u197 u198 u199 u200 u201 u202 u203 i wr u2 u204 u205 u206 u207 u208 u209 u210 u211 u212 u213 u214 u215 u216 u217 u218 u219 u220 u221 u222 u223 u224 u225 u226 u227 u228 u229 u230 u231 HKF zK za
                exact Q4.out
end Go.Proofs.Ytbciclnffokjjaa
/- RxprogKeeps: the law's walk: its end. -/
namespace Go.Proofs.Ytbciclnffokjjaa
open Go.RowKit Go.Lib

set_option maxHeartbeats 4000000 in
set_option maxRecDepth 100000 in
theorem keeps_end : keepsV.1 := by
  intro d N n M ok h0 rn0 op0 nf lf OA WZ w hN1 hn1 hM1 W HH HWz HB0 HOP HRN GB HGB HX zQ NB du WB g cc na nc PB g2 c2 na2 nc2 QB la lc ma mc SP fp SQ fq w12 ga ca w13 gb cb TL X u15 u79 u80 u81 u82 u83 u84 u85 u86 u87 u88 u89 u90 u91 u92 u93 u94 u95 u96 HKX hNI u18 u97 u98 u99 u100 u101 u102 u103 u104 u105 u106 u107 u108 u109 u110 u111 u112 u113 u114 u115 u116 u117 u118 u119 u120 u121 u122 u123 u124 u125 u126 u127 u20 u21 u22 u23 u128 u129 u130 u131 u132 u133 u134 u135 u136 u137 u138 u139 u140 u141 u142 u143 u144 u145 u146 u147 u148 u149 u150 u151 u152 u153 u154 u155 u156 u157 u158 u159 u160 u161 u162 u163 u164 u165 u166 u167 u168 u169 u170 u171 u172 u173 u174 u175 u176 u177 u178 u179 u180 u181 u182 u183 r u184 u185 u186 u187 u188 u189 u190 u191 u192 u193 u194 zi u195 u196 u197 u198 u199 u200 u201 u202 u203 i Xf u2 u204 u205 u206 u207 u208 u209 u210 u211 u212 u213 u214 u215 u216 u217 u218 u219 u220 u221 u222 u223 u224 u225 u226 u227 u228 u229 u230 u231 HKF zK za
  have HF := HKX.out.fut Xf HKF.out
  obtain ⟨kn, hkn⟩ := HF.nb
  obtain ⟨n0, nfz⟩ := ct_room hkn
  obtain ⟨o1, o2, o3, o4, o5, o6, o7, o8⟩ := HKX.out.ord
  have hNX : NB < Xf.heap.size := (Array.getElem?_eq_some_iff.1 hkn).1
  obtain ⟨F1, hF1⟩ : ∃ F1, F1 = Xf.setCell ⟨NB, 0, none⟩ (.int .i64 0) := ⟨_, rfl⟩
  have HF1 : Hid (F1 = Xf.setCell ⟨NB, 0, none⟩ (.int .i64 0)) := hF1
  have k1 : Kp (fun b => b = NB) Xf F1 := by rw [hF1]; exact (Kp.refl (fun b => b = NB) Xf).setCell (p := ⟨NB, 0, none⟩) (show NB = NB from rfl) _
  have hn1' : F1.heap[NB]? = some (ctX 0) := by rw [hF1]; exact heap_set hkn
  have BF1 : Below W.heap.size W F1 := HF.lo.trans (k1.below HF.lo.size (fun b hb e => by have e' : b = NB := e; omega))
  have kP := HH.out.cmp F1 BF1
  obtain ⟨q0, q1, q2, q3, q4, q5, q6, q7, q8⟩ := HX.out F1 BF1
  simp only [Nat.zero_add] at q0 q1 q2 q3 q4 q5 q6 q7 q8
  have HFF : Hid (FX N n M h0 rn0 nf lf OA WZ W NB WB PB QB TL SQ g cc na nc g2 c2 na2 nc2 ma mc ga ca gb cb du fq u15 Xf) := HF
  have HBF : Hid (Below W.heap.size W F1 ∧ Kp (fun b => b = NB) Xf F1 ∧ F1.heap[NB]? = some (ctX 0)) := ⟨BF1, k1, hn1'⟩
  have HOR : Hid (W.heap.size ≤ NB ∧ NB + 1 ≤ WB ∧ WB + 1 ≤ PB ∧ PB + 1 ≤ SQ ∧ PB + 1 ≤ QB ∧ QB + 1 ≤ TL ∧ NB < Xf.heap.size) := ⟨o1, o2, by omega, o5, o6, o7, hNX⟩
  clear HF hF1 k1 hn1' BF1 hkn o1 o2 o3 o4 o5 o6 o7 o8 hNX HKX HKF
  go_upto_region 58 with fail
  rw [← HF1.out]
  go_wp2_with fail
  go_fit kP
  rintro e f2 ⟨⟨g3, c3, na3, nc3, rfl, HP⟩, B2⟩
  obtain ⟨RB, hRB⟩ : ∃ RB, RB = f2.heap.size := ⟨_, rfl⟩
  have HRB : Hid (RB = f2.heap.size) := hRB
  obtain ⟨F3, hF3⟩ : ∃ F3, F3 = f2.alloc (prX (some ⟨g3, 0, none⟩) N c3 0 (n : Int) na3 n nc3) := ⟨_, rfl⟩
  have HF3 : Hid (F3 = f2.alloc (prX (some ⟨g3, 0, none⟩) N c3 0 (n : Int) na3 n nc3)) := hF3
  have b13 : Below F1.heap.size F1 F3 := by rw [hF3]; exact B2.out.alloc B2.out.size _
  have BF3 : Below W.heap.size W F3 := HBF.out.1.trans (b13.mono HBF.out.1.size)
  have k23 : Kp (fun _ => False) f2 F3 := by rw [hF3]; exact (Kp.refl _ f2).alloc _
  have HRX : Hid (F3.heap[RB]? = some (prX (some ⟨g3, 0, none⟩) N c3 0 (n : Int) na3 n nc3) ∧ RB < F3.heap.size ∧ F1.heap.size ≤ RB) := ⟨by rw [hF3, hRB]; exact heap_alloc_new f2 _, by rw [hF3, hRB, World.size_alloc]; omega, by rw [hRB]; exact B2.out.size⟩
  have HPF : Hid (∃ S' T, NB < S' ∧ NB < T ∧ OA S' F3 (.slice (some ⟨g3, 0, none⟩) N c3) ∧ F3.ownsRow T 9 1 (.slice na3 n nc3) n (sc nf n)) := by
    obtain ⟨S', f, e1, e2, e3, e4, e5, e6⟩ := HP.out
    have hz : NB < F1.heap.size := Nat.lt_of_lt_of_le HOR.out.2.2.2.2.2.2 HBF.out.2.1.size
    exact ⟨S', F1.heap.size, by omega, hz, HH.out.oak _ _ _ _ _ e3 k23 (fun _ _ _ => id), k23.row e6 (fun _ _ => id)⟩
  have kW := HH.out.wds F3 BF3
  have HB3 : Hid (Below W.heap.size W F3 ∧ Below F1.heap.size F1 F3) := ⟨BF3, b13⟩
  clear kP hF3 hRB q0 q1 q2 q3 q4 q5 q6 q7 q8 HP B2 k23 b13 n0 nfz
  obtain ⟨q0, q1, q2, q3, q4, q5, q6, q7, q8⟩ := HX.out F3 BF3
  simp only [Nat.zero_add] at q0 q1 q2 q3 q4 q5 q6 q7 q8
  clear BF3
  go_upto_region 59 with fail
  rw [← HF3.out, ← HRB.out]
  go_wp2_with fail
  go_fit kW
  rintro e V9 ⟨⟨aa, ac, rfl, HA9⟩, B9⟩
  clear kW q0 q1 q2 q3 q4 q5 q6 q7 q8
  obtain ⟨o1, o2, o3, o4, o5, o6, o7⟩ := HOR.out
  have b3 := HB3.out.2
  have k1V : Kp (fun _ => False) F1 V9 := (Kp.of b3).trans (Kp.of B9.out)
  have kXV : Kp (fun b => b = NB) Xf V9 := HBF.out.2.1.trans (k1V.mono (fun _ _ e => e.elim))
  have k3V : Kp (fun b => b = NB) F3 V9 := Kp.of B9.out
  have z1 : NB < F1.heap.size := Nat.lt_of_lt_of_le o7 HBF.out.2.1.size
  have z3 : NB < F3.heap.size := Nat.lt_of_lt_of_le z1 b3.size
  have zV : NB < V9.heap.size := Nat.lt_of_lt_of_le z3 B9.out.size
  have BV9 : Below W.heap.size W V9 := HB3.out.1.trans (B9.out.mono HB3.out.1.size)
  have HLO : Hid (∀ w', Kp (fun b => b = NB) V9 w' → Below W.heap.size W w') := fun w' K => BV9.trans (K.below BV9.size (fun b hb e => by have e' : b = NB := e; omega))
  have HKS : Hid (∀ w', Kp (fun b => b = NB) V9 w' → ((w'.cell? ⟨QB, 0, none⟩ = some (.slice (some ⟨g2, 0, none⟩) N c2) ∧ w'.cell? ⟨QB, 1, none⟩ = some (.int .i64 0) ∧ w'.cell? ⟨QB, 2, none⟩ = some (.int .i64 (n : Int)) ∧ w'.cell? ⟨QB, 3, none⟩ = some (.slice na2 n nc2)) ∧ (w'.cell? ⟨RB, 0, none⟩ = some (.slice (some ⟨g3, 0, none⟩) N c3) ∧ w'.cell? ⟨RB, 1, none⟩ = some (.int .i64 0) ∧ w'.cell? ⟨RB, 2, none⟩ = some (.int .i64 (n : Int)) ∧ w'.cell? ⟨RB, 3, none⟩ = some (.slice na3 n nc3)) ∧ (w'.cell? ⟨GB, 0, none⟩ = some (.int .i64 d.kind) ∧ w'.cell? ⟨GB, 1, none⟩ = some (.int .i32 d.r) ∧ w'.cell? ⟨GB, 2, none⟩ = some (.slice d.ra d.rn d.rc) ∧ w'.cell? ⟨GB, 3, none⟩ = some (.int .i64 d.mn) ∧ w'.cell? ⟨GB, 4, none⟩ = some (.int .i64 d.mx) ∧ w'.cell? ⟨GB, 5, none⟩ = some (.bool d.lz) ∧ w'.cell? ⟨GB, 6, none⟩ = some (.int .i64 d.cp) ∧ w'.cell? ⟨GB, 7, none⟩ = some (.string d.nm) ∧ w'.cell? ⟨GB, 8, none⟩ = some (.slice d.ka d.kn d.kc)) ∧ (w'.cell? ⟨WB, 0, none⟩ = some (.int .i64 du.kind) ∧ w'.cell? ⟨WB, 1, none⟩ = some (.int .i32 du.r) ∧ w'.cell? ⟨WB, 2, none⟩ = some (.slice du.ra du.rn du.rc) ∧ w'.cell? ⟨WB, 3, none⟩ = some (.int .i64 du.mn) ∧ w'.cell? ⟨WB, 4, none⟩ = some (.int .i64 du.mx) ∧ w'.cell? ⟨WB, 5, none⟩ = some (.bool du.lz) ∧ w'.cell? ⟨WB, 6, none⟩ = some (.int .i64 du.cp) ∧ w'.cell? ⟨WB, 7, none⟩ = some (.string du.nm) ∧ w'.cell? ⟨WB, 8, none⟩ = some (.slice du.ka du.kn du.kc))) ∧ Kp (fun b => b = NB) V9 w') := fun w' K => by
    have kX := kXV.trans K
    have k3 := k3V.trans K
    refine ⟨⟨pr_room ((kX.block QB (Array.getElem?_eq_some_iff.1 HFF.out.qx).1 (fun e => by have e' : QB = NB := e; omega)).trans HFF.out.qx), pr_room ((k3.block RB HRX.out.2.1 (fun e => by have e' : RB = NB := e; have := HRX.out.2.2; omega)).trans HRX.out.1), ?_, ?_⟩, K⟩
    · have := HX.out w' (HLO.out w' K)
      obtain ⟨q0, q1, q2, q3, q4, q5, q6, q7, q8⟩ := this
      simp only [Nat.zero_add] at q0 q1 q2 q3 q4 q5 q6 q7 q8
      exact ⟨q0, q1, q2, q3, q4, q5, q6, q7, q8⟩
    · have := (nd_room ((kX.block WB (Array.getElem?_eq_some_iff.1 HFF.out.wx).1 (fun e => by have e' : WB = NB := e; omega)).trans HFF.out.wx)).1
      obtain ⟨q0, q1, q2, q3, q4, q5, q6, q7, q8⟩ := this
      simp only [Nat.zero_add] at q0 q1 q2 q3 q4 q5 q6 q7 q8
      exact ⟨q0, q1, q2, q3, q4, q5, q6, q7, q8⟩
  have HTX : Hid (∀ w', Below V9.heap.size V9 w' → (Calls Try.prog 19 #[.slice na2 n nc2, .slice (some ⟨ga, 0, none⟩) n ca] w' fun e w'' => e = .returned (.bool true) ∧ Below V9.heap.size V9 w'') ∧ (Calls Try.prog 19 #[.slice ma M mc, .slice (some ⟨gb, 0, none⟩) M cb] w' fun e w'' => e = .returned (.bool true) ∧ Below V9.heap.size V9 w'') ∧ (Calls Try.prog 9 #[prV (some ⟨g3, 0, none⟩) N c3 0 (n : Int) na3 n nc3, prV (some ⟨g2, 0, none⟩) N c2 0 (n : Int) na2 n nc2] w' fun e w'' => e = .returned (.bool true) ∧ Below V9.heap.size V9 w'') ∧ (Calls Try.prog 19 #[.slice aa M ac, .slice (some ⟨gb, 0, none⟩) M cb] w' fun e w'' => e = .returned (.bool true) ∧ Below V9.heap.size V9 w'')) := fun w' B => by
    have K : Kp (fun b => b = NB) V9 w' := Kp.of B
    have kX := kXV.trans K
    have k3 := k3V.trans K
    have hup : ∀ {e : Ending} {w'' : World}, e = .returned (.bool true) ∧ Below w'.heap.size w' w'' → e = .returned (.bool true) ∧ Below V9.heap.size V9 w'' := fun h => ⟨h.1, B.trans (h.2.mono B.size)⟩
    have r1 := kX.row HFF.out.qn (fun b e e2 => by have := HFF.out.qn.lt b e; have e' : b = NB := e2; omega)
    have r2 := kX.row HFF.out.nr (fun b e e2 => by have := HFF.out.nr.lt b e; have e' : b = NB := e2; omega)
    have r3 := kX.row HFF.out.mr (fun b e e2 => by have := HFF.out.mr.lt b e; have e' : b = NB := e2; omega)
    have r4 := kX.row HFF.out.wr (fun b e e2 => by have := HFF.out.wr.lt b e; have e' : b = NB := e2; omega)
    have r5 := (Kp.of (M := fun _ => False) B).row HA9.out (fun _ _ => id)
    obtain ⟨S', T, s1, s2, s3, s4⟩ := HPF.out
    have r6 := k3.row s4 (fun b e e2 => by have := s4.lt b e; have e' : b = NB := e2; omega)
    exact ⟨(txt_same r1 r2 (by omega)).mono fun _ _ h => hup h, (txt_same r3 r4 (by omega)).mono fun _ _ h => hup h, (HH.out.smp S' SQ T (PB + 1) w' g3 c3 na3 nc3 g2 c2 na2 nc2 (HH.out.oak _ _ _ _ _ s3 k3 (fun b e1 e2 e3 => by have e' : b = NB := e3; omega)) (HH.out.oak _ _ _ _ _ HFF.out.oq kX (fun b e1 e2 e3 => by have e' : b = NB := e3; omega)) r6 r1).mono fun _ _ h => hup h, (txt_same r5 r4 (by omega)).mono fun _ _ h => hup h⟩
  have HCP : Hid (∀ w', Below V9.heap.size V9 w' → Calls Try.prog 18 #[ndV d, .pointer (some ⟨NB, 0, none⟩)] w' fun e w'' => (∃ dv : Nd, e = .returned (ndV dv) ∧ Hid (∀ w4, Below w''.heap.size w'' w4 → Calls Try.prog 21 #[ndV dv, ndV du] w4 fun e w5 => e = .returned (.bool true) ∧ Hid (Below w.heap.size w w5) ∧ Kp (fun b => b = NB) V9 w5)) ∧ Kp (fun b => b = NB) V9 w'') := fun w' B => by
    have K : Kp (fun b => b = NB) V9 w' := Kp.of B
    have hnb : w'.heap[NB]? = some (ctX 0) := (B.block NB zV).trans ((k1V.block NB z1 id).trans HBF.out.2.2)
    refine (HH.out.cpy w' NB (HLO.out w' K) o1 (Nat.lt_of_lt_of_le zV B.size) hnb).mono ?_
    rintro e w'' ⟨⟨dv, rfl, HZ⟩, HK⟩
    have K2 : Kp (fun b => b = NB) V9 w'' := K.trans HK.out
    refine ⟨⟨dv, rfl, fun w4 B4 => ?_⟩, K2⟩
    have K4 : Kp (fun b => b = NB) V9 w4 := K2.trans (Kp.of B4)
    have hlo4 := HLO.out w4 K4
    have kX4 := kXV.trans K4
    have hWB : WB < Xf.heap.size := (Array.getElem?_eq_some_iff.1 HFF.out.wx).1
    refine (HH.out.smt _ _ (NB + 1) WB w4 dv du B4.size (Nat.le_trans (Nat.le_of_lt hWB) kX4.size) (HH.out.wzk _ _ _ _ _ _ HZ.out.1 (Kp.of (M := fun _ => False) B4) (fun _ _ _ => id)) (HH.out.wzk _ _ _ _ _ _ HFF.out.wz kX4 (fun b e1 e2 e3 => by have e' : b = NB := e3; omega))).mono ?_
    rintro e w5 ⟨rfl, b5⟩
    have h5 := hlo4.trans (b5.mono hlo4.size)
    exact ⟨rfl, HB0.out.trans (h5.mono HB0.out.size), K4.trans (Kp.of b5)⟩
  have HT1 : Hid (∀ w', Below V9.heap.size V9 w' → Calls Try.prog 19 #[.slice na2 n nc2, .slice (some ⟨ga, 0, none⟩) n ca] w' fun e w'' => e = .returned (.bool true) ∧ Below V9.heap.size V9 w'') := fun w' B => (HTX.out w' B).1
  have HT2 : Hid (∀ w', Below V9.heap.size V9 w' → Calls Try.prog 19 #[.slice ma M mc, .slice (some ⟨gb, 0, none⟩) M cb] w' fun e w'' => e = .returned (.bool true) ∧ Below V9.heap.size V9 w'') := fun w' B => (HTX.out w' B).2.1
  have HT3 : Hid (∀ w', Below V9.heap.size V9 w' → Calls Try.prog 9 #[prV (some ⟨g3, 0, none⟩) N c3 0 (n : Int) na3 n nc3, prV (some ⟨g2, 0, none⟩) N c2 0 (n : Int) na2 n nc2] w' fun e w'' => e = .returned (.bool true) ∧ Below V9.heap.size V9 w'') := fun w' B => (HTX.out w' B).2.2.1
  have HT4 : Hid (∀ w', Below V9.heap.size V9 w' → Calls Try.prog 19 #[.slice aa M ac, .slice (some ⟨gb, 0, none⟩) M cb] w' fun e w'' => e = .returned (.bool true) ∧ Below V9.heap.size V9 w'') := fun w' B => (HTX.out w' B).2.2.2
  have hb9 : Below V9.heap.size V9 V9 := Below.refl _ _
  clear o1 o2 o3 o4 o5 o6 o7 b3 k1V kXV k3V z1 z3 zV BV9 HLO HH HX HFF HBF HOR HPF HRX HA9 HB3 B9 HF1 HF3 HRB HTX
  go_wp2_with fail
  go_region_held3 (fun w' => ((w'.cell? ⟨QB, 0, none⟩ = some (.slice (some ⟨g2, 0, none⟩) N c2) ∧ w'.cell? ⟨QB, 1, none⟩ = some (.int .i64 0) ∧ w'.cell? ⟨QB, 2, none⟩ = some (.int .i64 (n : Int)) ∧ w'.cell? ⟨QB, 3, none⟩ = some (.slice na2 n nc2)) ∧ (w'.cell? ⟨RB, 0, none⟩ = some (.slice (some ⟨g3, 0, none⟩) N c3) ∧ w'.cell? ⟨RB, 1, none⟩ = some (.int .i64 0) ∧ w'.cell? ⟨RB, 2, none⟩ = some (.int .i64 (n : Int)) ∧ w'.cell? ⟨RB, 3, none⟩ = some (.slice na3 n nc3)) ∧ (w'.cell? ⟨GB, 0, none⟩ = some (.int .i64 d.kind) ∧ w'.cell? ⟨GB, 1, none⟩ = some (.int .i32 d.r) ∧ w'.cell? ⟨GB, 2, none⟩ = some (.slice d.ra d.rn d.rc) ∧ w'.cell? ⟨GB, 3, none⟩ = some (.int .i64 d.mn) ∧ w'.cell? ⟨GB, 4, none⟩ = some (.int .i64 d.mx) ∧ w'.cell? ⟨GB, 5, none⟩ = some (.bool d.lz) ∧ w'.cell? ⟨GB, 6, none⟩ = some (.int .i64 d.cp) ∧ w'.cell? ⟨GB, 7, none⟩ = some (.string d.nm) ∧ w'.cell? ⟨GB, 8, none⟩ = some (.slice d.ka d.kn d.kc)) ∧ (w'.cell? ⟨WB, 0, none⟩ = some (.int .i64 du.kind) ∧ w'.cell? ⟨WB, 1, none⟩ = some (.int .i32 du.r) ∧ w'.cell? ⟨WB, 2, none⟩ = some (.slice du.ra du.rn du.rc) ∧ w'.cell? ⟨WB, 3, none⟩ = some (.int .i64 du.mn) ∧ w'.cell? ⟨WB, 4, none⟩ = some (.int .i64 du.mx) ∧ w'.cell? ⟨WB, 5, none⟩ = some (.bool du.lz) ∧ w'.cell? ⟨WB, 6, none⟩ = some (.int .i64 du.cp) ∧ w'.cell? ⟨WB, 7, none⟩ = some (.string du.nm) ∧ w'.cell? ⟨WB, 8, none⟩ = some (.slice du.ka du.kn du.kc))) ∧ Kp (fun b => b = NB) V9 w') (first | exact HKS.out _ (Kp.of (by assumption)) | exact HKS.out _ (Kp.of (Below.drew (by assumption))) | exact HKS.out _ (by assumption) | exact HKS.out _ (Kp.drew (by assumption))) (first | (go_at_call 19; go_fit (HT1.out _ (by assumption)); rintro e w21 ⟨rfl, b21⟩) | (go_at_call 19; go_fit (HT1.out _ (Below.drew (by assumption))); rintro e w21 ⟨rfl, b21⟩) | (go_at_call 19; go_fit (HT2.out _ (by assumption)); rintro e w22 ⟨rfl, b22⟩) | (go_at_call 19; go_fit (HT2.out _ (Below.drew (by assumption))); rintro e w22 ⟨rfl, b22⟩) | (go_at_call 9; go_fit (HT3.out _ (by assumption)); rintro e w23 ⟨rfl, b23⟩) | (go_at_call 9; go_fit (HT3.out _ (Below.drew (by assumption))); rintro e w23 ⟨rfl, b23⟩) | (go_at_call 19; go_fit (HT4.out _ (by assumption)); rintro e w24 ⟨rfl, b24⟩) | (go_at_call 19; go_fit (HT4.out _ (Below.drew (by assumption))); rintro e w24 ⟨rfl, b24⟩) | (go_at_call 18; go_fit (HCP.out _ (by assumption)); rintro e w25 ⟨⟨dv, rfl, HSM⟩, K25⟩) | (go_at_call 18; go_fit (HCP.out _ (Below.drew (by assumption))); rintro e w25 ⟨⟨dv, rfl, HSM⟩, K25⟩) | (go_at_call 21; go_fit (HSM.out _ (Below.refl _ _)); rintro e w26 ⟨rfl, H26, K26⟩) | (go_at_call 21; go_fit (HSM.out _ (Below.drew (Below.refl _ _))); rintro e w26 ⟨rfl, H26, K26⟩))
  go_wp2
  go_ret
  exact ⟨rfl, H26.out⟩
end Go.Proofs.Ytbciclnffokjjaa
