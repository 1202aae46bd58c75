/- A bundle of texts. -/
import Derived.Test.YtbciclnffokjjaaBk52
/- RxprogKeeps: the law's walk: p's ranges written over. -/
namespace Go.Proofs.Ytbciclnffokjjaa
open Go.RowKit Go.Lib

/-- What the law writes into p's ranges. -/
def mk (j k : Nat) : Rg := ((j : Int), wrap32 (k : Int))
/-- p under the law's hand. -/
structure KW (N PB SP g cc : Nat) (fp : Nat → In) (X w' : World) (f : Nat → In) (h : Nat → Nat → Rg) (i k : Nat) : Prop where
  pw : Pw SP PB g cc N w' f h
  sm : ∀ j, (f j).ra = (fp j).ra ∧ (f j).rn = (fp j).rn ∧ (f j).rc = (fp j).rc
  dn : ∀ j, j < i → j < N → ∀ q, q < (fp j).rn → h j q = mk j q
  pt : i < N → ∀ q, q < k → h i q = mk i q
  kp : Kp (fun b => SP ≤ b ∧ b < PB) X w'

set_option maxHeartbeats 4000000 in
set_option maxRecDepth 100000 in
def keepsY : { P : Prop // Hid P → keepsX.1 } := by
  refine' ⟨_, fun Q2 => _⟩
  rotate_left 1
  · intro d N n M ok h0 rn0 op0 nf lf OA WZ w hN1 hn1 hM1 W HH HWz HB0 HOP HRN GB HGB HX zQ NB du WB g cc na nc PB g2 c2 na2 nc2 QB la lc ma mc SP fp SQ fq w12 ga ca w13 gb cb TL X u15 u79 u80 u81 u82 u83 u84 u85 u86 u87 u88 u89 u90 u91 u92 u93 u94 u95 u96 HKX zK za
    have HMM : Hid (∀ b, SP ≤ b ∧ b < PB → MK WB PB QB TL b) := fun b hb => .inl ⟨by have := HKX.out.ord; omega, hb.2⟩
    have HPX : Hid (∀ w', Kp (fun b => SP ≤ b ∧ b < PB) X w' → w'.heap[PB]? = some (prX (some ⟨g, 0, none⟩) N cc 0 (n : Int) na n nc)) := fun w' k => (HKX.out.fut w' (k.mono (fun b _ e => HMM.out b e))).px
    have HRF : Hid (∀ j, j < N → (fp j).rn * 8 ≤ 140737488351232) := fun j hj => by rw [HKX.out.prn j hj]; exact HRN.out j hj
    have HI0 : Hid (KW N PB SP g cc fp X X fp h0 0 0) := ⟨HKX.out.pw, fun _ => ⟨rfl, rfl, rfl⟩, fun j hj => by omega, fun _ q hq => by omega, Kp.refl _ _⟩
    have hNI : (N : Int) ≤ 10001 := by omega
    go_loopw [17] (fun ivv w' => ∃ (i : Nat) (h : Nat → Nat → Rg), ivv = .int .i64 (i : Int) ∧ i ≤ N ∧ Hid (KW N PB SP g cc fp X w' fp h i 0)) (fun ivv _ => N - (RowKit.intOf ivv).toNat)
    case atStart => exact ⟨0, h0, rfl, Nat.zero_le _, HI0⟩
    case round =>
      obtain ⟨i, h, rfl, hi, hinv⟩ := hrel
      obtain ⟨x0, _, _, _⟩ := pr_room (HPX.out wr hinv.out.kp)
      by_cases hlt : i < N
      · have hii : (i : Int) < N := by omega
        have hrb : ((fp i).rn : Int) ≤ 140737488351232 := by have := HRF.out i hlt; omega
        go_wp2_with fail
        go_loopw [18] (fun kvv w' => ∃ (k : Nat) (h : Nat → Nat → Rg), kvv = .int .i64 (k : Int) ∧ k ≤ (fp i).rn ∧ Hid (KW N PB SP g cc fp X w' fp h i k)) (fun kvv _ => (fp i).rn - (RowKit.intOf kvv).toNat)
        case atStart => exact ⟨0, h, rfl, Nat.zero_le _, hinv⟩
        case round =>
          obtain ⟨k, h', rfl, hk, hin2⟩ := hrel
          obtain ⟨z0, _, _, _⟩ := pr_room (HPX.out wr hin2.out.kp)
          have zc : wr.cell? ⟨g, i * 5 + 4, none⟩ = some (.slice (fp i).ra (fp i).rn (fp i).rc) := (hin2.out.pw.cell i hlt).2.1
          by_cases hkl : k < (fp i).rn
          · have hkk : (k : Int) < (fp i).rn := by omega
            obtain ⟨b, hb, hb1, hb2, hc0, hc1, hfz⟩ := hin2.out.pw.nth i k hlt hkl
            have f0 := hfz (k * 2)
            have f1 := hfz (k * 2 + 1)
            rw [hb] at zc
            have HST : Hid (∀ x y, x = (i : Int) → y = wrap32 (k : Int) → KW N PB SP g cc fp X ((wr.setCell ⟨b, k * 2, none⟩ (.int .i32 x)).setCell ⟨b, k * 2 + 1, none⟩ (.int .i32 y)) fp (up h' i (up (h' i) k (x, y))) i (k + 1)) := fun x y ex ey => by
              obtain ⟨q1, q2⟩ := hin2.out.pw.set i k b hlt hkl hb x y
              refine ⟨q1, hin2.out.sm, fun j hj hjN q hq => ?_, fun _ q hq => ?_, hin2.out.kp.trans q2⟩
              · rw [up_other _ _ _ _ (by omega)]; exact hin2.out.dn j hj hjN q hq
              · rw [up_same]
                by_cases e : q = k
                · subst e; rw [up_same, ex, ey]; rfl
                · rw [up_other _ _ _ _ e]; exact hin2.out.pt hlt q (by omega)
            clear hinv hin2 hfz hb hlt hkl HI0 HRF
            obtain ⟨rn, hrn⟩ : ∃ rn, (fp i).rn = rn := ⟨_, rfl⟩
            obtain ⟨rc, hrc⟩ : ∃ rc, (fp i).rc = rc := ⟨_, rfl⟩
            rw [hrn] at hkk hk hrb
            rw [hrn, hrc] at zc
            go_wp2
            exact ⟨⟨k + 1, _, by go_num, by omega, HST.out _ _ rfl rfl⟩, by simp [RowKit.intOf]; omega⟩
          · have hke : k = (fp i).rn := by omega
            have hkk : ¬ (k : Int) < (fp i).rn := by omega
            have HNX : Hid (KW N PB SP g cc fp X wr fp h' (i + 1) 0) := ⟨hin2.out.pw, hin2.out.sm, fun j hj hjN q hq => by
              by_cases e : j = i
              · subst e; exact hin2.out.pt hlt q (by omega)
              · exact hin2.out.dn j (by omega) hjN q hq, fun _ q hq => by omega, hin2.out.kp⟩
            clear hinv hin2 HI0 HRF
            go_wp2
            exact ⟨⟨i + 1, h', by go_num, by omega, HNX⟩, by simp [RowKit.intOf]; omega⟩
      · have hiN : N = i := by omega
        subst hiN
        have hii : ¬ (N : Int) < N := by omega
        have HKW : Hid (KW N PB SP g cc fp X wr fp h N 0) := hinv
        clear hinv HI0 hlt hi
        go_wp2_with fail
        rename_i zl1 zl0 zr zQ2 zK1 za1 zK2 za2
        clear hii x0 zl1 zl0 zr za1 zK1 zQ2 zK
        revert d N n M ok h0 rn0 op0 nf lf OA WZ w hN1 hn1 hM1 W HH HWz HB0 HOP HRN GB HGB HX zQ NB du WB g cc na nc PB g2 c2 na2 nc2 QB la lc ma mc SP fp SQ fq w12 ga ca w13 gb cb TL X u15 u79 u80 u81 u82 u83 u84 u85 u86 u87 u88 u89 u90 u91 u92 u93 u94 u95 u96 HKX HMM HPX HRF hNI wr u18 u97 u98 u99 u100 u101 u102 u103 u104 u105 u106 u107 u108 u109 u110 u111 u112 u113 u114 u115 u116 u117 u118 u119 u120 u121 u122 u123 u124 u125 u126 u127 h HKW zK2 za2
        exact Q2.out
end Go.Proofs.Ytbciclnffokjjaa
/- RxprogKeeps: the law's walk: p's lists checked and lengthened, twice. -/
namespace Go.Proofs.Ytbciclnffokjjaa
open Go.RowKit Go.Lib

theorem up_id {α : Type} (f : Nat → α) (j : Nat) : up f j (f j) = f := by
  funext i
  by_cases e : i = j
  · subst e; exact up_same _ _ _
  · exact up_other _ _ _ _ e
/-- A list lengthened sixteen times, and the instruction marked. -/
theorem KW.marked {N PB SP g cc : Nat} {fp : Nat → In} {X X1 w2 : World} {f : Nat → In} {h : Nat → Nat → Rg} {i k : Nat} {lv : Value} (q : KW N PB SP g cc fp X X1 f h N 0) (hi : i < N) {ra : Option Addr} {rn rc : Nat} (er : (f i).ra = ra ∧ (f i).rn = rn ∧ (f i).rc = rc) (l : LsI SP X1 (.slice ra rn rc) rn (rc2 (h i) rn) k lv w2) :
    (w2.cell? ⟨g, i * 5, none⟩ = some (.int .i64 (f i).op) ∧ w2.frozen? ⟨g, i * 5, none⟩ = false) ∧ Kp (fun b => SP ≤ b ∧ b < PB) X w2 ∧ ∃ f', KW N PB SP g cc fp X (w2.setCell ⟨g, i * 5, none⟩ (.int .i64 (-1))) f' h N 0 := by
  obtain ⟨rfl, rfl, rfl⟩ := er
  obtain ⟨p1, k1⟩ := q.pw.lift i hi (h i) l.kp l.own0
  rw [up_id] at p1
  obtain ⟨c1, _, c3⟩ := p1.cell i hi
  obtain ⟨p2, k2⟩ := p1.op i hi (-1)
  have kk : Kp (fun b => SP ≤ b ∧ b < PB) X w2 := q.kp.trans k1
  refine ⟨⟨c1, c3 _⟩, kk, _, p2, fun j => ?_, q.dn, fun _ q hq => by omega, kk.trans k2⟩
  by_cases e : j = i
  · subst e; rw [up_same]; exact q.sm j
  · rw [up_other _ _ _ _ e]; exact q.sm j

set_option maxHeartbeats 4000000 in
set_option maxRecDepth 100000 in
def keepsZ : { P : Prop // Hid P → keepsY.1 } := by
  refine' ⟨_, fun Q3 => _⟩
  rotate_left 1
  · intro d N n M ok h0 rn0 op0 nf lf OA WZ w hN1 hn1 hM1 W HH HWz HB0 HOP HRN GB HGB HX zQ NB du WB g cc na nc PB g2 c2 na2 nc2 QB la lc ma mc SP fp SQ fq w12 ga ca w13 gb cb TL X u15 u79 u80 u81 u82 u83 u84 u85 u86 u87 u88 u89 u90 u91 u92 u93 u94 u95 u96 HKX HMM HPX HRF hNI X0 u18 u97 u98 u99 u100 u101 u102 u103 u104 u105 u106 u107 u108 u109 u110 u111 u112 u113 u114 u115 u116 u117 u118 u119 u120 u121 u122 u123 u124 u125 u126 u127 h HKW zK2 za2
    go_loopw [19] (fun rvv w' => ∃ (r : Nat) (f : Nat → In) (h : Nat → Nat → Rg), rvv = .int .i64 (r : Int) ∧ r ≤ 2 ∧ Hid (KW N PB SP g cc fp X w' f h N 0)) (fun rvv _ => 2 - (RowKit.intOf rvv).toNat)
    case atStart => exact ⟨0, fp, h, rfl, by omega, HKW⟩
    case round =>
      obtain ⟨r, f, h, rfl, hr, hinv⟩ := hrel
      by_cases hr2 : r < 2
      · have hrr : (r : Int) < 2 := by omega
        go_wp2_with fail
        go_loopw [20] (fun ivv w' => ∃ (i : Nat) (f : Nat → In) (h : Nat → Nat → Rg), ivv = .int .i64 (i : Int) ∧ i ≤ N ∧ Hid (KW N PB SP g cc fp X w' f h N 0)) (fun ivv _ => N - (RowKit.intOf ivv).toNat)
        case atStart => exact ⟨0, f, h, rfl, by omega, hinv⟩
        case round =>
          clear hinv HKW
          obtain ⟨i, f, h, rfl, hi, hinv⟩ := hrel
          generalize wr = X1 at *
          have x0 := (pr_room (HPX.out X1 hinv.out.kp)).1
          by_cases hlt : i < N
          · have hii : (i : Int) < N := by omega
            have HC := hinv.out.pw.cell i hlt
            have HG := hinv.out.pw.rg i hlt
            obtain ⟨ra, hra⟩ : ∃ ra, (f i).ra = ra := ⟨_, rfl⟩
            obtain ⟨rn, hrn⟩ : ∃ rn, (f i).rn = rn := ⟨_, rfl⟩
            obtain ⟨rc, hrc⟩ : ∃ rc, (f i).rc = rc := ⟨_, rfl⟩
            have HER : Hid ((f i).ra = ra ∧ (f i).rn = rn ∧ (f i).rc = rc) := ⟨hra, hrn, hrc⟩
            have zc : X1.cell? ⟨g, i * 5 + 4, none⟩ = some (.slice ra rn rc) := by rw [← hra, ← hrn, ← hrc]; exact HC.2.1
            have HO : Hid (X1.ownsRow SP 50 2 (.slice ra rn rc) rn (rc2 (h i) rn)) := by rw [← hra, ← hrn, ← hrc]; exact HG
            have hrb8 : rn * 8 ≤ 140737488351232 := by have := HRF.out i hlt; have := (hinv.out.sm i).2.1; omega
            have hrb : (rn : Int) ≤ 140737488351232 := by omega
            have HAT : Hid (∀ k, k < rn → ∃ b, ra = some ⟨b, 0, none⟩ ∧ X1.cell? ⟨b, k * 2, none⟩ = some (.int .i32 (i : Int)) ∧ X1.cell? ⟨b, k * 2 + 1, none⟩ = some (.int .i32 (wrap32 (k : Int)))) := fun k hk => by
              obtain ⟨b, hb, _, _, hc0, hc1, _⟩ := hinv.out.pw.nth i k hlt (by omega)
              rw [hinv.out.dn i hlt hlt k (by have := (hinv.out.sm i).2.1; omega)] at hc0 hc1
              exact ⟨b, by rw [← hra]; exact hb, hc0, hc1⟩
            have HSX : Hid (SP ≤ X1.heap.size) := by have e1 := HKX.out.ord; have e2 := hinv.out.kp.size; unfold Hid; omega
            have HMK : Hid (∀ k lv w2, LsI SP X1 (.slice ra rn rc) rn (rc2 (h i) rn) k lv w2 → (∃ op, w2.cell? ⟨g, i * 5, none⟩ = some (.int .i64 op) ∧ w2.frozen? ⟨g, i * 5, none⟩ = false) ∧ Kp (fun b => SP ≤ b ∧ b < PB) X w2 ∧ ∃ f', KW N PB SP g cc fp X (w2.setCell ⟨g, i * 5, none⟩ (.int .i64 (-1))) f' h N 0) := fun k lv w2 l => by
              obtain ⟨⟨a1, a2⟩, a3, a4⟩ := hinv.out.marked hlt HER.out l
              exact ⟨⟨_, a1, a2⟩, a3, a4⟩
            clear hra hrn hrc HER HC HG hinv
            go_wp2_with fail
            go_loopw [22] (fun kvv w' => ∃ (k : Nat), kvv = .int .i64 (k : Int) ∧ k ≤ rn ∧ w' = X1) (fun kvv _ => rn - (RowKit.intOf kvv).toNat)
            case atStart => exact ⟨0, rfl, by omega, rfl⟩
            case round =>
              obtain ⟨k, rfl, hk, hwx⟩ := hrel
              subst hwx
              generalize wr = X1 at *
              by_cases hkl : k < rn
              · have hkk : (k : Int) < rn := by omega
                obtain ⟨b, hb, hc0, hc1⟩ := HAT.out k hkl
                subst hb
                clear HKX HPX HMM HRF HH HMK HAT HO HSX
                go_wp2
                exact ⟨⟨k + 1, by go_num, by omega, trivial⟩, by simp [RowKit.intOf]; omega⟩
              · have hke : k = rn := by omega
                have hkk : ¬ (k : Int) < rn := by omega
                have HS : Hid (LsI SP X1 (.slice ra rn rc) rn (rc2 (h i) rn) 0 (.slice ra rn rc) X1) := LsI.start HO.out
                clear zc HAT HO
                go_wp2_with fail
                go_loopw [21, 23] (fun lv kvv w' => ∃ k : Nat, kvv = .int .i64 (k : Int) ∧ k ≤ 16 ∧ Hid (LsI SP X1 (.slice ra rn rc) rn (rc2 (h i) rn) k lv w')) (fun _ kvv _ => 16 - (RowKit.intOf kvv).toNat)
                case atStart => exact ⟨0, rfl, by omega, HS⟩
                case round =>
                  obtain ⟨k, rfl, hk, hl⟩ := hrel
                  by_cases hk16 : k < 16
                  · have hkk2 : (k : Int) < 16 := by omega
                    obtain ⟨lv', w2, r2, hn2⟩ := hl.out.next HSX.out (by omega) (-7) (i : Int)
                    have HN2 : Hid _ := hn2
                    clear hl hn2 HKX HPX HMM HRF HH HMK HS HSX
                    go_wp2_with (at_builtin; refine wpList_append_run rfl (.tmp 173) (.tmp 177) 27 27 rfl _ _ rfl rfl r2 ?_)
                    exact ⟨⟨k + 1, by go_num, by omega, HN2⟩, by simp [RowKit.intOf]; omega⟩
                  · have hkk2 : ¬ (k : Int) < 16 := by omega
                    obtain ⟨⟨op, c0, fz⟩, kX, f', hf'⟩ := HMK.out k u21 wr hl.out
                    have HF' : Hid _ := hf'
                    have y0 := (pr_room (HPX.out wr kX)).1
                    clear hl hf' kX HKX HPX HMM HRF HH HMK HS HSX x0
                    go_wp2
                    exact ⟨⟨i + 1, f', h, by go_num, by omega, HF'⟩, by simp [RowKit.intOf]; omega⟩
          · have hii : ¬ (i : Int) < N := by omega
            have HR : Hid _ := hinv
            clear hinv HKX HMM HRF HH
            go_wp2
            exact ⟨⟨r + 1, f, h, by go_num, by omega, HR⟩, by simp [RowKit.intOf]; omega⟩
      · have hrr : ¬ (r : Int) < 2 := by omega
        have HKP : Hid (Kp (fun b => SP ≤ b ∧ b < PB) X wr) := hinv.out.kp
        clear hinv HKW hr hr2
        go_wp2_with fail
        rename_i zh zQ2 zK1 za1 zK3 za3
        clear hrr za1 zK1 zQ2 zK2 zh f h HPX HMM HRF X0
        revert d N n M ok h0 rn0 op0 nf lf OA WZ w hN1 hn1 hM1 W HH HWz HB0 HOP HRN GB HGB HX zQ NB du WB g cc na nc PB g2 c2 na2 nc2 QB la lc ma mc SP fp SQ fq w12 ga ca w13 gb cb TL X u15 u79 u80 u81 u82 u83 u84 u85 u86 u87 u88 u89 u90 u91 u92 u93 u94 u95 u96 HKX hNI u18 u97 u98 u99 u100 u101 u102 u103 u104 u105 u106 u107 u108 u109 u110 u111 u112 u113 u114 u115 u116 u117 u118 u119 u120 u121 u122 u123 u124 u125 u126 u127 wr u2 u20 u21 u22 u23 u128 u129 u130 u131 u132 u133 u134 u135 u136 u137 u138 u139 u140 u141 u142 u143 u144 u145 u146 u147 u148 u149 u150 u151 u152 u153 u154 u155 u156 u157 u158 u159 u160 u161 u162 u163 u164 u165 u166 u167 u168 u169 u170 u171 u172 u173 u174 u175 u176 u177 u178 u179 u180 u181 u182 u183 r HKP zK3 za3
        exact Q3.out
end Go.Proofs.Ytbciclnffokjjaa
