/- A bundle of texts. -/
import Derived.Test.YtbciclnffokjjaaBm15
/- Code: repeat. -/
namespace Go.Proofs.Ytbciclnffokjjaa
open Go.RowKit

set_option maxHeartbeats 1000000 in
set_option maxRecDepth 100000 in
theorem repeat_none (Z : Nat → Prop) (S B : Nat) (v : Value) (f : Nat → In) (c : List Ia) (d : Nd) (w : World) (hv : Cd Z S w B v f c) (hm : d.mx = 0) :
    Calls Try.prog 71 #[.pointer (some ⟨B, 0, none⟩), ndV d] w (Cp Z S B v c [] w) := by
  have hb : Below w.heap.size w (w.alloc (ndX d)) := (Below.refl _ w).alloc (Nat.le_refl _) _
  have HB : Hid (Cp Z S B v c [] w (.returned (.tuple #[])) (w.alloc (ndX d))) := ⟨rfl, ⟨v, f, by rw [List.append_nil]; exact hv.below hb, Sub.refl _ _⟩, Kp.of hb⟩
  have t0 : (d.mx == 0) = true := by simpa using hm
  clear hv hb hm
  go_enter Try.func71, Try.ntmps71
  go_wp2
  go_end0
  exact HB.out

theorem layF_succ (k : List Ia) (j : Nat) (b : Int) : layF k (j + 1) b = layF k j b ++ mvs (b + (layF k j b).length) k := rfl
theorem optF_succ (k : List Ia) (lz : Bool) (e : Int) (j : Nat) (b : Int) : optF k lz e (j + 1) b = optF k lz e j b ++ (spl (b + (optF k lz e j b).length) e lz :: mvs (b + (optF k lz e j b).length + 1) k) := rfl
theorem layF_mono (k : List Ia) (b : Int) {i n : Nat} (h : i ≤ n) : (layF k i b).length ≤ (layF k n b).length := by
  rw [layF_len, layF_len]
  exact Nat.mul_le_mul_right _ h

set_option maxHeartbeats 4000000 in
set_option maxRecDepth 100000 in
theorem repeat_some (m : Nat) (hIH : NodeC m) (Z : Nat → Prop) (T S B : Nat) (v : Value) (f : Nat → In) (c : List Ia) (t : Tr) (w : World) (hv : Cd Z S w B v f c) (ht : Tat T w t) (hT : T ≤ S) (hZ : ∀ k, Z k → T ≤ k ∧ k < w.heap.size) (hw : WF (m + 1) t) (hS : S ≤ w.heap.size) (hn : c.length + (repC (cod m (kid t 0) 0) (t []).mn (t []).mx (t []).lz c.length).length ≤ 100000) (hk : (t []).kind = 6) (h0 : ¬ (t []).mx = 0) :
    Calls Try.prog 71 #[.pointer (some ⟨B, 0, none⟩), ndV (t [])] w (Cp Z S B v c (repC (cod m (kid t 0) 0) (t []).mn (t []).mx (t []).lz c.length) w) := by
  have hr := ndB_rep hw.1.1 hk
  have hk0 : 0 < (t []).kn := by omega
  have hkl := repC_k (k := cod m (kid t 0) 0) (t []).lz c.length h0 hr.2.1 (by omega)
  have hpl : ∀ x ∈ cod m (kid t 0) 0, Pl 1000000 x := fun x hx => (cod_pl m _ 0 (hw.2.2 0 hk0) (by omega) x hx).mono (by omega)
  -- the two new blocks
  have b1 : Below w.heap.size w (w.alloc (ndX (t []))) := (Below.refl _ w).alloc (Nat.le_refl _) _
  have hc := ndX_cells (w := w) (t []) (Below.refl _ _)
  obtain ⟨W1, hW1⟩ : ∃ W1, W1 = w.alloc (ndX (t [])) := ⟨_, rfl⟩
  have hz1 : W1.heap.size = w.heap.size + 1 := by rw [hW1]; simp
  rw [← hW1] at b1 hc
  have b2 : Below W1.heap.size W1 (W1.alloc (.cells #[.slice none 0 0] 85)) := (Below.refl _ W1).alloc (Nat.le_refl _) _
  have hTw : T ≤ w.heap.size := Nat.le_trans hT hS
  have ht2 : Tat T (W1.alloc (.cells #[.slice none 0 0] 85)) t := (ht.below (b1.mono hTw)).below (b2.mono (Nat.le_trans hTw b1.size))
  have cN := cd_new (MZ Z B v) W1
  have kN := hIH (MZ Z B v) T W1.heap.size W1.heap.size (.slice none 0 0) fIn [] (kid t 0) (W1.alloc (.cells #[.slice none 0 0] 85)) cN (ht2.kid 0 hk0) (Nat.le_trans hTw b1.size) (fun k h => by
    rcases h with h | h
    · have := hv.base k h; have := b1.size; have := b2.size; omega
    · have := hZ k h; have := b1.size; have := b2.size; omega) (hw.2.2 0 hk0) b2.size (by
      show 0 + (cod m (kid t 0) 0).length ≤ 100000
      omega)
  change Calls Try.prog 47 #[.pointer (some ⟨W1.heap.size, 0, none⟩), ndV (t [0])] (W1.alloc (.cells #[.slice none 0 0] 85)) (Cp (MZ Z B v) W1.heap.size W1.heap.size (.slice none 0 0) [] (cod m (kid t 0) 0) (W1.alloc (.cells #[.slice none 0 0] 85))) at kN
  obtain ⟨g0, o0, hka, hg0, cs0⟩ := ht2.kids.at 0 hk0
  -- what holds behind the kid's code
  have H3 : Hid (∀ e w3, Cp (MZ Z B v) W1.heap.size W1.heap.size (.slice none 0 0) [] (cod m (kid t 0) 0) (W1.alloc (.cells #[.slice none 0 0] 85)) e w3 → e = .returned (.tuple #[]) ∧ ∃ a2 cc2, w3.cell? ⟨W1.heap.size, 0, none⟩ = some (.slice a2 (cod m (kid t 0) 0).length cc2) ∧ Pc w3 (MZ Z B v) a2 (cod m (kid t 0) 0) ∧ Cd Z S w3 B v f c ∧ Cs w3 w.heap.size 0 (t []) ∧ Below w.heap.size w w3 ∧ w.heap.size + 2 ≤ w3.heap.size) := fun e w3 h => by
    obtain ⟨he, ⟨v2, f2, cd2, _⟩, kp2⟩ := h
    rw [List.nil_append] at cd2
    obtain ⟨a2, cc2, rfl, hpc⟩ := kid_piece hv hZ cd2 b1.size
    have hl : Below W1.heap.size W1 w3 := b2.trans (cN.low b2.size kp2)
    have hb : Below w.heap.size w w3 := b1.trans (hl.mono b1.size)
    exact ⟨he, a2, cc2, cd2.c0, hpc, hv.below hb, hc.below hl (by omega), hb, by have := cd2.lt; omega⟩
  have HM : Hid (¬ Mv B v w.heap.size ∧ ¬ Mv B v (w.heap.size + 1)) := ⟨fun e => by have := (hv.base _ e).2; omega, fun e => by have := (hv.base _ e).2; omega⟩
  have HS : Hid (S ≤ w.heap.size) := hS
  have HN : Hid (c.length + (repC (cod m (kid t 0) 0) (t []).mn (t []).mx (t []).lz c.length).length ≤ 100000) := hn
  have HKL : Hid ((cod m (kid t 0) 0).length ≤ 100000) := by have := hkl; show _ ≤ _; omega
  have HPL : Hid (∀ x ∈ cod m (kid t 0) 0, Pl 1000000 x) := hpl
  obtain ⟨hr0, hr1, hr2, hr3⟩ := hr
  have HR3 : Hid ((t []).mx = -1 ∨ (t []).mn ≤ (t []).mx ∧ (t []).mx ≤ 1000) := hr3
  have H0 : Hid (¬ (t []).mx = 0) := h0
  have t0 : ((t []).mx == 0) = false := by simpa using h0
  have hknI : 0 < ((t []).kn : Int) := by omega
  rw [hz1] at kN H3
  have hcc := hc.below b2 (by omega)
  have e8 := hcc.zero.2.2.2.2.2.2.2.2
  rw [hka] at e8
  simp only [Nat.zero_mul, Nat.add_zero] at cs0
  obtain ⟨p0, p1, p2, p3, p4, p5, p6, p7, p8⟩ := cs0
  subst hW1
  clear hv ht hT hZ hw hS hn hk h0 hkl hpl b1 hc hz1 b2 hTw ht2 cN hIH hr0 hr3 hk0 hg0 hcc
  generalize cod m (kid t 0) 0 = k at *
  generalize t [0] = dk at *
  generalize t [] = d at *
  obtain ⟨kind, r, ra, rn, rc, rf, mn, mx, lz, cp, nm, ka, kn, kc⟩ := d
  dsimp only at *
  subst hka
  go_enter Try.func71, Try.ntmps71
  go_wp2_with fail
  go_fit kN
  rintro e w3 h3
  obtain ⟨rfl, a2, cc2, c3, hp3, hv3, cs3, b3, hz3⟩ := H3.out _ _ h3
  clear kN H3 h3 e8 p0 p1 p2 p3 p4 p5 p6 p7 p8
  have R0 : Hid (Rn Z S B v c w3 [] w3) := Rn.beg hv3
  have HP3 : Hid (Pc w3 (MZ Z B v) a2 k) := hp3
  have HB3 : Hid (Below w.heap.size w w3) := b3
  have HS3 : Hid (S ≤ w3.heap.size) := Nat.le_trans HS.out b3.size
  have C3 : Hid (w3.cell? ⟨w.heap.size + 1, 0, none⟩ = some (.slice a2 k.length cc2)) := c3
  have D3 : Hid (w3.cell? ⟨w.heap.size, 3, none⟩ = some (.int .i64 mn)) := cs3.zero.2.2.2.1
  have D4 : Hid (w3.cell? ⟨w.heap.size, 4, none⟩ = some (.int .i64 mx)) := cs3.zero.2.2.2.2.1
  have D5 : Hid (w3.cell? ⟨w.heap.size, 5, none⟩ = some (.bool lz)) := cs3.zero.2.2.2.2.2.1
  have d3 := cs3.zero.2.2.2.1
  obtain ⟨G, hG⟩ : ∃ G, G = w.heap.size := ⟨_, rfl⟩
  obtain ⟨B2, hB2⟩ : ∃ B2, B2 = w.heap.size + 1 := ⟨_, rfl⟩
  rw [← hG] at d3 D3 D4 D5 HM
  rw [← hB2] at C3
  rw [hG, ← hB2] at HM
  rw [← hG] at HM
  have HG : Hid (G = w.heap.size) := hG
  have HB2 : Hid (B2 = w.heap.size + 1) := hB2
  obtain ⟨n1, hn1⟩ : ∃ n1 : Nat, mn = (n1 : Int) := ⟨mn.toNat, by omega⟩
  have hq : mn.toNat = n1 := by omega
  have HRC : Hid (repC k mn mx lz c.length = if mx = -1 then layF k n1 c.length ++ (spl (c.length + (layF k n1 c.length).length) (c.length + (layF k n1 c.length).length + 1 + k.length + 1) lz :: (mvs (c.length + (layF k n1 c.length).length + 1) k ++ [⟨10, c.length + (layF k n1 c.length).length, 0, 0, []⟩])) else layF k n1 c.length ++ optF k lz (c.length + (layF k n1 c.length).length + (mx - mn) * (1 + k.length)) (mx - mn).toNat (c.length + (layF k n1 c.length).length)) := by
    show repC k mn mx lz c.length = _
    unfold repC
    rw [if_neg H0.out, hq]
  have HNL : Hid (c.length + (layF k n1 c.length).length ≤ 100000) := by
    have h := HN.out
    rw [HRC.out] at h
    show _ ≤ _
    split at h <;> rw [List.length_append] at h <;> omega
  clear hp3 hv3 cs3 b3 hz3 c3 hG hB2 hq hknI
  subst hn1
  go_upto_region 4 with fail
  rw [← HB2.out, ← HG.out]
  go_wp2_with fail
  go_loopw [18] (fun ivv w' => ∃ i : Nat, ivv = .int .i64 (i : Int) ∧ i ≤ n1 ∧ Hid (Rn Z S B v c w3 (layF k i c.length) w')) (fun ivv _ => n1 - (RowKit.intOf ivv).toNat)
  case atStart => exact ⟨0, rfl, by omega, R0⟩
  case round =>
    obtain ⟨i, rfl, hi, hI⟩ := hrel
    have c0 := hI.out.cell C3.out HM.out.2
    have hlm := layF_mono k c.length hi
    by_cases hlt : i < n1
    · have hii : (i : Int) < n1 := by omega
      have kL := hI.out.lay HS3.out (k := k) (by have := HNL.out; have := HKL.out; omega) a2 cc2 HP3.out HPL.out
      rw [← layF_succ] at kL
      clear hlm
      go_wp2_with fail
      go_fit kL
      rintro e w4 ⟨rfl, r4⟩
      have R4 : Hid _ := r4
      clear r4 kL
      go_wp2
      exact ⟨⟨i + 1, by go_num, by omega, R4⟩, by simp [RowKit.intOf]; omega⟩
    · have hii : ¬ (i : Int) < n1 := by omega
      obtain rfl : i = n1 := by omega
      have d4 := hI.out.cell D4.out HM.out.1
      have d5 := hI.out.cell D5.out HM.out.1
      have d3' := hI.out.cell D3.out HM.out.1
      have kE := hI.out.len
      have hcl : ((c.length : Nat) : Int) ≤ 100000 := by have := HNL.out; omega
      have hll : (((layF k i c.length).length : Nat) : Int) ≤ 100000 := by have := HNL.out; omega
      have hkl : ((k.length : Nat) : Int) ≤ 100000 := by have := HKL.out; omega
      obtain ⟨l, hl⟩ : ∃ l, l = layF k i c.length := ⟨_, rfl⟩
      have HL : Hid (l = layF k i c.length) := hl
      rw [← hl] at kE hll HNL HRC hI
      clear hl hlm d3
      by_cases hm : mx = -1
      · have tm : (mx == -1) = true := by simpa using hm
        have HRC' : Hid (repC k (i : Int) mx lz c.length = _) := HRC.out.trans (if_pos hm)
        have HN' : Hid (c.length + l.length + k.length + 2 ≤ 100000) := by
          have h := HN.out
          rw [HRC'.out] at h
          simp [mvs_len] at h
          show _ ≤ _
          omega
        clear HRC hm HR3 HL
        go_wp2_with fail
        go_fit kE
        rintro e w4 ⟨rfl, rfl⟩
        have hdr : Below w4.heap.size w4 w4.drew := (Below.refl _ w4).drew
        have kE2 := end_cell B2 a2 k.length cc2 w4.drew c0
        have kSp := (hI.out.below hdr).split HS3.out (by have := HN'.out; omega) ((c.length : Int) + l.length + 1 + k.length + 1) lz
        have hw1 : IntKind.i64.wrap ((c.length : Int) + l.length + 1) = (c.length : Int) + l.length + 1 := by rw [IntKind.wrap_i64]; omega
        have hw2 : IntKind.i64.wrap ((c.length : Int) + l.length + 1 + k.length) = (c.length : Int) + l.length + 1 + k.length := by rw [IntKind.wrap_i64]; omega
        have hw3 : IntKind.i64.wrap ((c.length : Int) + l.length + 1 + k.length + 1) = (c.length : Int) + l.length + 1 + k.length + 1 := by rw [IntKind.wrap_i64]; omega
        have d5' : w4.drew.cell? ⟨G, 5, none⟩ = some (.bool lz) := d5
        clear hdr kE d3' d4
        go_wp2_with fail
        go_region_with (first | (go_at_call 88; go_fit kE2; rintro e w5 ⟨rfl, rfl⟩) | (go_at_call 90; go_fit kSp; rintro e w6 ⟨rfl, r6⟩))
        all_goals
          have c6 := r6.cell C3.out HM.out.2
          have kL := r6.lay HS3.out (k := k) (by have := HN'.out; simp; omega) a2 cc2 HP3.out HPL.out
          clear kSp kE2 hw1 hw2 hw3 d5 d5' c0 r6
          go_wp2_with fail
          go_fit kL
          rintro e w7 ⟨rfl, r7⟩
          have kP := r7.put HS3.out (by have := HN'.out; simp [mvs_len]; omega) 10 ((c.length : Int) + l.length) 0 0
          clear kL c6 r7
          go_wp2_with fail
          go_fit kP
          rintro e w8 ⟨rfl, r8⟩
          have R8 : Hid _ := r8
          clear kP r8
          go_wp2
          go_end0
          rw [HRC'.out]
          have h8 := Rn.done R8.out
          rw [show l ++ [spl ((c.length : Int) + l.length) ((c.length : Int) + l.length + 1 + k.length + 1) lz] ++ mvs ((c.length : Int) + ((l ++ [spl ((c.length : Int) + l.length) ((c.length : Int) + l.length + 1 + k.length + 1) lz]).length : Nat)) k ++ [(⟨10, (c.length : Int) + l.length, 0, 0, []⟩ : Ia)] = l ++ (spl ((c.length : Int) + l.length) ((c.length : Int) + l.length + 1 + k.length + 1) lz :: (mvs ((c.length : Int) + l.length + 1) k ++ [(⟨10, (c.length : Int) + l.length, 0, 0, []⟩ : Ia)])) by simp [Int.add_assoc]] at h8
          exact Cp.from HB3.out h8
      · have tm : (mx == -1) = false := by simpa using hm
        have HRC' : Hid (repC k (i : Int) mx lz c.length = _) := HRC.out.trans (if_neg hm)
        have hmx := HR3.out.resolve_left hm
        obtain ⟨hmx1, hmx2⟩ := hmx
        obtain ⟨q, hq⟩ : ∃ q : Nat, mx - (i : Int) = (q : Int) := ⟨(mx - i).toNat, by omega⟩
        have hqt : (mx - (i : Int)).toNat = q := by omega
        have hq1 : (q : Int) ≤ 1000 := by omega
        rw [hqt, hq] at HRC'
        have hmul := mul_bd (show 0 ≤ (q : Int) by omega) hq1 (show 0 ≤ 1 + (k.length : Int) by omega) (show 1 + (k.length : Int) ≤ 100001 by omega)
        obtain ⟨hml0, hml1⟩ := hmul
        obtain ⟨E, hE⟩ : ∃ E, E = (c.length : Int) + l.length + (q : Int) * (1 + (k.length : Int)) := ⟨_, rfl⟩
        have HE : Hid (E = (c.length : Int) + l.length + (q : Int) * (1 + (k.length : Int))) := hE
        rw [← hE] at HRC'
        have HN' : Hid (∀ j, j ≤ q → c.length + (l ++ optF k lz E j ((c.length : Int) + l.length)).length ≤ 100000) := fun j hj => by
          have h := HN.out
          rw [HRC'.out, List.length_append, optF_len] at h
          rw [List.length_append, optF_len]
          have := Nat.mul_le_mul_right (1 + k.length) hj
          omega
        have kE2 := end_cell B2 a2 k.length cc2 wr c0
        have HMQ : Hid (mx - (i : Int) = (q : Int)) := hq
        have RB : Hid (Rn Z S B v c w3 (l ++ optF k lz E 0 ((c.length : Int) + l.length)) wr) := by
          show Rn Z S B v c w3 (l ++ []) wr
          rw [List.append_nil]
          exact hI.out
        have HWQ : Hid (HMul.hMul (q : Int) (1 + (k.length : Int)) = E - ((c.length : Int) + l.length)) := by rw [hE]; show _ = _; omega
        clear HRC hm HR3 HL hqt hE hmx1 hmx2
        go_wp2_with fail
        go_fit kE
        rintro e w4 ⟨rfl, rfl⟩
        go_wp2_with fail
        go_fit kE2
        rintro e w5 ⟨rfl, rfl⟩
        clear kE kE2 d4 d3' c0 d5
        go_wp2_with fail
        rw [← HE.out]
        go_loopw [58] (fun ivv w' => ∃ j : Nat, ivv = .int .i64 (j : Int) ∧ j ≤ q ∧ Hid (Rn Z S B v c w3 (l ++ optF k lz E j ((c.length : Int) + l.length)) w')) (fun ivv _ => q - (RowKit.intOf ivv).toNat)
        case atStart => exact ⟨0, rfl, by omega, RB⟩
        case round =>
          obtain ⟨j, rfl, hj, hJ⟩ := hrel
          by_cases hjq : j < q
          · have hjj : (j : Int) < q := by omega
            have d5 := hJ.out.cell D5.out HM.out.1
            have kSp := hJ.out.split HS3.out (by have := HN'.out j hj; omega) E lz
            have HJN : Hid (c.length + (l ++ optF k lz E (j + 1) ((c.length : Int) + l.length)).length ≤ 100000) := HN'.out (j + 1) hjq
            go_wp2_with fail
            go_fit kSp
            rintro e w6 ⟨rfl, r6⟩
            have c6 := r6.cell C3.out HM.out.2
            have kL := r6.lay HS3.out (k := k) (by
              have := HJN.out
              rw [optF_succ] at this
              simp [mvs_len] at this
              simp
              omega) a2 cc2 HP3.out HPL.out
            clear kSp d5 r6
            go_wp2_with fail
            go_fit kL
            rintro e w7 ⟨rfl, r7⟩
            have R7 : Hid (Rn Z S B v c w3 (l ++ optF k lz E (j + 1) ((c.length : Int) + l.length)) w7) := by
              rw [optF_succ]
              rw [show l ++ optF k lz E j ((c.length : Int) + l.length) ++ [spl ((c.length : Int) + ((l ++ optF k lz E j ((c.length : Int) + l.length)).length : Nat)) E lz] ++ mvs ((c.length : Int) + ((l ++ optF k lz E j ((c.length : Int) + l.length) ++ [spl ((c.length : Int) + ((l ++ optF k lz E j ((c.length : Int) + l.length)).length : Nat)) E lz]).length : Nat)) k = l ++ (optF k lz E j ((c.length : Int) + l.length) ++ (spl ((c.length : Int) + l.length + (optF k lz E j ((c.length : Int) + l.length)).length) E lz :: mvs ((c.length : Int) + l.length + (optF k lz E j ((c.length : Int) + l.length)).length + 1) k)) by simp [Int.add_assoc]] at r7
              exact r7
            clear r7 kL c6
            go_wp2
            exact ⟨⟨j + 1, by go_num, by omega, R7⟩, by simp [RowKit.intOf]; omega⟩
          · have hjj : ¬ (j : Int) < q := by omega
            obtain rfl : j = q := by omega
            go_wp2
            go_end0
            rw [HRC'.out]
            exact Cp.from HB3.out (Rn.done hJ.out)
end Go.Proofs.Ytbciclnffokjjaa
