/- A date's text read by Stamp. -/
import Derived.Test.YtmfeckpcnofkhabDoorSeC
import Derived.Test.YtmfeckpcnofkhabDoorOfB
import Derived.Test.YtmfeckpcnofkhabDoorOfC
import Derived.Test.YtmfeckpcnofkhabDoorStF
import Derived.Test.YtmfeckpcnofkhabDoorStM
import Derived.Test.YtmfeckpcnofkhabDoorStN
import Derived.Test.YtmfeckpcnofkhabDoorStL
import Derived.Test.YtmfeckpcnofkhabDoorMom
import Derived.Test.YtmfeckpcnofkhabDoorMomH
namespace Go.Proofs.YtmfeckpcnofkhabDoor
open Go.RowKit Go.Lib

theorem momV_bd (Y M D h mi s ml : Int) (g : 0 ≤ Y ∧ Y ≤ 9999) (b1 : 1 ≤ M ∧ M ≤ 12) (b2 : 1 ≤ D ∧ D ≤ md Y M) (b3 : 0 ≤ h ∧ h ≤ 23) (b4 : 0 ≤ mi ∧ mi ≤ 59) (b5 : 0 ≤ s ∧ s ≤ 59) (b6 : 0 ≤ ml ∧ ml ≤ 999) : -400000000000000 ≤ momV Y M D h mi s ml ∧ momV Y M D h mi s ml ≤ 400000000000000 := by
  have hmd := md_bd Y M
  have hB0 := dB_ge Y g.1
  have hB1 := dB_le Y g.1
  have hc := cum_bd Y M b1.1 (by omega)
  unfold momV
  omega
theorem lpN_cyc (c y : Int) : lpN (c * 400 + y) = lpN y := by
  have := lp_cyc c y
  unfold lpN
  by_cases h : lp y
  · rw [if_pos h, if_pos (this.2 h)]
  · rw [if_neg h, if_neg (fun q => h (this.1 q))]
theorem dB_cyc (c y : Int) : dB (c * 400 + y) = c * 146097 + dB y := by unfold dB; omega
theorem cum_cyc (c y m : Int) : cum (c * 400 + y) m = cum y m := by unfold cum; rw [lpN_cyc]
theorem md_cyc (c y m : Int) : md (c * 400 + y) m = md y m := by unfold md; rw [lpN_cyc]

/-- A time within the range, as plain numbers. -/
structure Parts (ms : Int) (Y M D h mi s ml : Nat) : Prop where
  py : Y ≤ 9999
  pm : 1 ≤ M ∧ M ≤ 12
  pd : 1 ≤ D ∧ (D : Int) ≤ md Y M
  ph : h ≤ 23
  pmi : mi ≤ 59
  ps : s ≤ 59
  pml : ml < 1000
  pv : momV Y M D h mi s ml = ms

theorem parts_of {ms days rest cyc inC y m : Int} (H : CivR ms days rest cyc inC y m) (m0 : -62167219200000 ≤ ms) (m1 : ms ≤ 253402300799999) :
    ∃ (Y M D h mi s ml : Nat) (x1 x2 x3 : Int), civV days rest cyc inC y m = #[.int .i64 Y, .int .i64 M, .int .i64 D, .int .i64 h, .int .i64 mi, .int .i64 s, .int .i64 ml, .int .i64 x1, .int .i64 x2, .int .i64 x3] ∧ Parts ms Y M D h mi s ml := by
  obtain ⟨e1, r0, r1, e2, c0, c1, y0, y1, b0, b1, q0, q1, q2, q3⟩ := H
  have hs := cum_succ y m q0 q1
  have hY : 0 ≤ cyc * 400 + y ∧ cyc * 400 + y ≤ 9999 := by omega
  obtain ⟨Y, hYe⟩ : ∃ Y : Nat, cyc * 400 + y = (Y : Int) := ⟨(cyc * 400 + y).toNat, by omega⟩
  obtain ⟨M, hMe⟩ : ∃ M : Nat, m = (M : Int) := ⟨m.toNat, by omega⟩
  obtain ⟨D, hDe⟩ : ∃ D : Nat, inC - dB y - cum y m + 1 = (D : Int) := ⟨(inC - dB y - cum y m + 1).toNat, by omega⟩
  obtain ⟨h, hhe⟩ : ∃ h : Nat, rest / 3600000 = (h : Int) := ⟨(rest / 3600000).toNat, by omega⟩
  obtain ⟨mi, hmie⟩ : ∃ mi : Nat, rest % 3600000 / 60000 = (mi : Int) := ⟨(rest % 3600000 / 60000).toNat, by omega⟩
  obtain ⟨s, hse⟩ : ∃ s : Nat, rest % 60000 / 1000 = (s : Int) := ⟨(rest % 60000 / 1000).toNat, by omega⟩
  obtain ⟨ml, hmle⟩ : ∃ ml : Nat, rest % 1000 = (ml : Int) := ⟨(rest % 1000).toNat, by omega⟩
  have hdB : dB (Y : Int) = cyc * 146097 + dB y := by rw [← hYe, dB_cyc]
  have hcum : cum (Y : Int) m = cum y m := by rw [← hYe, cum_cyc]
  have hmd : md (Y : Int) m = md y m := by rw [← hYe, md_cyc]
  rw [hMe] at hcum hmd hs hDe q0 q1 q2 q3
  refine ⟨Y, M, D, h, mi, s, ml, (days + 4) % 7, inC - dB y + 1, md y m, ?_, ⟨by omega, by omega, ⟨by omega, by omega⟩, by omega, by omega, by omega, by omega, ?_⟩⟩
  · unfold civV
    rw [hYe, hMe, hDe, hhe, hmie, hse, hmle]
  · unfold momV
    rw [hdB, hcum]
    omega

/-- The program's form of a date. -/
abbrev SF : ByteArray := ⟨#[48, 48, 48, 48, 45, 48, 48, 45, 48, 48, 84, 48, 48, 58, 48, 48, 58, 48, 48]⟩
theorem shape_of {t : ByteArray} {Y M D h mi s : Nat} (H : Dh t Y M D h mi s) : shp (t.extract 0 19) SF = true := by
  have hsz := H.sz
  have hz : (t.extract 0 19).size = 19 := by rw [ByteArray.size_extract]; omega
  have hb : ∀ j, j < 19 → bt (t.extract 0 19) j = bt t j := fun j hj => by rw [bt_ext t 0 19 j (by omega) (by omega), Nat.zero_add]
  have hd : ∀ j, j < 19 → (isD (t.extract 0 19) j ↔ isD t j) := fun j hj => by
    unfold isD
    rw [hb j hj, hz]
    constructor
    · rintro ⟨_, b⟩; exact ⟨by omega, b⟩
    · rintro ⟨_, b⟩; exact ⟨hj, b⟩
  refine decide_eq_true ⟨by rw [hz]; rfl, fun j hj => ?_⟩
  rw [hz] at hj
  match j, hj with
  | 0, _ => unfold shB; rw [if_pos (by decide +kernel)]; exact (hd 0 (by omega)).2 (H.dg 0 (by simp))
  | 1, _ => unfold shB; rw [if_pos (by decide +kernel)]; exact (hd 1 (by omega)).2 (H.dg 1 (by simp))
  | 2, _ => unfold shB; rw [if_pos (by decide +kernel)]; exact (hd 2 (by omega)).2 (H.dg 2 (by simp))
  | 3, _ => unfold shB; rw [if_pos (by decide +kernel)]; exact (hd 3 (by omega)).2 (H.dg 3 (by simp))
  | 4, _ => unfold shB; rw [if_neg (by decide +kernel), hb 4 (by omega), H.b4]; decide +kernel
  | 5, _ => unfold shB; rw [if_pos (by decide +kernel)]; exact (hd 5 (by omega)).2 (H.dg 5 (by simp))
  | 6, _ => unfold shB; rw [if_pos (by decide +kernel)]; exact (hd 6 (by omega)).2 (H.dg 6 (by simp))
  | 7, _ => unfold shB; rw [if_neg (by decide +kernel), hb 7 (by omega), H.b7]; decide +kernel
  | 8, _ => unfold shB; rw [if_pos (by decide +kernel)]; exact (hd 8 (by omega)).2 (H.dg 8 (by simp))
  | 9, _ => unfold shB; rw [if_pos (by decide +kernel)]; exact (hd 9 (by omega)).2 (H.dg 9 (by simp))
  | 10, _ => unfold shB; rw [if_neg (by decide +kernel), hb 10 (by omega), H.b10]; decide +kernel
  | 11, _ => unfold shB; rw [if_pos (by decide +kernel)]; exact (hd 11 (by omega)).2 (H.dg 11 (by simp))
  | 12, _ => unfold shB; rw [if_pos (by decide +kernel)]; exact (hd 12 (by omega)).2 (H.dg 12 (by simp))
  | 13, _ => unfold shB; rw [if_neg (by decide +kernel), hb 13 (by omega), H.b13]; decide +kernel
  | 14, _ => unfold shB; rw [if_pos (by decide +kernel)]; exact (hd 14 (by omega)).2 (H.dg 14 (by simp))
  | 15, _ => unfold shB; rw [if_pos (by decide +kernel)]; exact (hd 15 (by omega)).2 (H.dg 15 (by simp))
  | 16, _ => unfold shB; rw [if_neg (by decide +kernel), hb 16 (by omega), H.b16]; decide +kernel
  | 17, _ => unfold shB; rw [if_pos (by decide +kernel)]; exact (hd 17 (by omega)).2 (H.dg 17 (by simp))
  | 18, _ => unfold shB; rw [if_pos (by decide +kernel)]; exact (hd 18 (by omega)).2 (H.dg 18 (by simp))
  | n + 19, hj => exact absurd hj (by omega)

theorem not_okS {t : ByteArray} {Y M D h mi s : Nat} (H : Dh t Y M D h mi s) : ¬ okS t := by
  have h0 := H.dg 0 (by simp)
  have hsz := H.sz
  have hsa : sa t = 0 := by
    unfold sa
    rw [if_neg]
    rintro (q | q)
    · have := q.2; have := h0.2.1; simp at *; omega
    · have := q.2; have := h0.2.1; simp at *; omega
  have hT : sT t = t := by unfold sT; rw [hsa]; exact ext0 t
  have hr : rn (sT t) 0 = 4 := by
    rw [hT]
    refine rn_k t 4 (by omega) (fun i hi => H.dg i (by omega)) (fun q => ?_)
    have := q.2
    rw [H.b4] at this
    omega
  have hR : sR t = t.extract 4 t.size := by unfold sR; rw [hr, hT]
  have hRz : (sR t).size = t.size - 4 := by rw [hR, ByteArray.size_extract]; omega
  have hRb : bt (sR t) 0 = 45 := by rw [hR, bt_extract]; exact H.b4
  rintro ⟨_, q | q⟩
  · omega
  · have := q.1.2
    rw [hRb] at this
    simp at this

theorem p3_len (n : Nat) : (p3 n).length = 3 := rfl
theorem p3_at (n : Nat) (hn : n < 1000) (r : List UInt8) : bt (mk (p3 n ++ r)) 0 = 48 + ((n / 100 : Nat) : Int) ∧ bt (mk (p3 n ++ r)) 1 = 48 + ((n / 10 % 10 : Nat) : Int) ∧ bt (mk (p3 n ++ r)) 2 = 48 + ((n % 10 : Nat) : Int) := by
  have hl : ∀ i, i < 3 → i < (p3 n ++ r).length := fun i hi => by rw [List.length_append, p3_len]; omega
  refine ⟨?_, ?_, ?_⟩
  · rw [bt_mk _ _ (hl 0 (by omega))]; exact u8v _ (by omega)
  · rw [bt_mk _ _ (hl 1 (by omega))]; exact u8v _ (by omega)
  · rw [bt_mk _ _ (hl 2 (by omega))]; exact u8v _ (by omega)
theorem th_p3 (n : Nat) (hn : n < 1000) : thV (mk (p3 n)) = n ∧ hfV (mk (p3 n)) = -1 ∧ (∀ i, i < (mk (p3 n)).size → isD (mk (p3 n)) i) := by
  have e := p3_at n hn []
  rw [List.append_nil] at e
  have hz : (mk (p3 n)).size = 3 := by rw [mk_size]; rfl
  refine ⟨?_, ?_, fun i hi => ?_⟩
  · unfold thV dg0
    rw [if_pos (by omega), if_pos (by omega), if_pos (by omega), e.1, e.2.1, e.2.2]
    omega
  · have : dg0 (mk (p3 n)) 3 = 0 := by unfold dg0; rw [if_neg (by omega)]
    unfold hfV
    rw [this, if_pos (by omega)]
  · rw [hz] at hi
    match i, hi with
    | 0, _ => exact digit_of (by omega) e.1 (by omega)
    | 1, _ => exact digit_of (by omega) e.2.1 (by omega)
    | 2, _ => exact digit_of (by omega) e.2.2 (by omega)

/-- What the program cuts behind the date. -/
theorem cut_text (ml : Nat) (hml : ml < 1000) (z0 : UInt8) (Z : List UInt8) (h1 : z0.toNat ≠ 46) (h2 : ¬ (48 ≤ z0.toNat ∧ z0.toNat ≤ 57)) (hZ : Z.length ≤ 10) :
    ∃ part : ByteArray, (∀ w, Calls Tryd.prog 42 #[.string (mk (dtml ml ++ z0 :: Z))] w fun r w' => r = .returned (.tuple #[.string part, .string (mk (z0 :: Z)), .bool true]) ∧ Below w.heap.size w w') ∧
      thV part = ml ∧ hfV part = -1 ∧ (∀ i, i < part.size → isD part i) ∧ part.size ≤ 64 := by
  by_cases hm : ml = 0
  · have e : dtml ml ++ z0 :: Z = z0 :: Z := by simp [dtml, hm]
    rw [e]
    refine ⟨⟨#[]⟩, cutFraction_f (mk (z0 :: Z)) (fun q => ?_), ?_, by decide +kernel, fun i hi => absurd hi (by simp [ByteArray.size]), by simp [ByteArray.size]⟩
    · have := q.2
      rw [bt_mk _ _ (by simp)] at this
      simp at this
      omega
    · rw [hm]; decide +kernel
  · have e : dtml ml ++ z0 :: Z = 46 :: (p3 ml ++ z0 :: Z) := by simp [dtml, hm]
    rw [e]
    have hz : (mk (46 :: (p3 ml ++ z0 :: Z))).size = 5 + Z.length := by rw [mk_size]; simp [p3]; omega
    have kt := cutFraction_t (mk (46 :: (p3 ml ++ z0 :: Z))) ⟨by omega, by rw [bt_mk _ _ (by simp)]; rfl⟩ (by omega)
    have e1 : (mk (46 :: (p3 ml ++ z0 :: Z))).extract 1 (mk (46 :: (p3 ml ++ z0 :: Z))).size = mk (p3 ml ++ z0 :: Z) := ext_mk [46] (p3 ml ++ z0 :: Z)
    rw [e1] at kt
    have hz2 : (mk (p3 ml ++ z0 :: Z)).size = 4 + Z.length := by rw [mk_size]; simp [p3]; omega
    have pa := p3_at ml hml (z0 :: Z)
    have hr : rn (mk (p3 ml ++ z0 :: Z)) 0 = 3 := by
      refine rn_k _ 3 (by omega) (fun i hi => ?_) (fun q => ?_)
      · match i, hi with
        | 0, _ => exact digit_of (by omega) pa.1 (by omega)
        | 1, _ => exact digit_of (by omega) pa.2.1 (by omega)
        | 2, _ => exact digit_of (by omega) pa.2.2 (by omega)
      · have := q.2
        rw [bt_mk _ _ (by simp [p3])] at this
        have e3 : (p3 ml ++ z0 :: Z).getD 3 0 = z0 := rfl
        rw [e3] at this
        omega
    rw [hr] at kt
    have e2 : (mk (p3 ml ++ z0 :: Z)).extract 0 3 = mk (p3 ml) := pre_mk (p3 ml) (z0 :: Z)
    have e3 : (mk (p3 ml ++ z0 :: Z)).extract 3 (mk (p3 ml ++ z0 :: Z)).size = mk (z0 :: Z) := ext_mk (p3 ml) (z0 :: Z)
    rw [e2, e3] at kt
    have tp := th_p3 ml hml
    exact ⟨_, kt, tp.1, tp.2.1, tp.2.2, by rw [mk_size, p3_len]; omega⟩

theorem momV_lin (Y M D h mi s ml : Int) : momV Y M D h mi s ml = momV Y M D h mi s 0 + ml := by unfold momV; omega

/-- A date's text with whatever zone, read by Stamp. -/
theorem stamp_text (Y M D h mi s ml : Nat) (z0 : UInt8) (Z : List UInt8) (ahead : Int) (g0 : Y ≤ 9999) (g1 : 1 ≤ M ∧ M ≤ 12) (g2 : 1 ≤ D ∧ (D : Int) ≤ md Y M) (g3 : h ≤ 23) (g4 : mi ≤ 59) (g5 : s ≤ 59) (g6 : ml < 1000)
    (h1 : z0.toNat ≠ 46) (h2 : ¬ (48 ≤ z0.toNat ∧ z0.toNat ≤ 57)) (hZ : Z.length ≤ 10) (a0 : -100000000 ≤ ahead) (a1 : ahead ≤ 100000000)
    (kO : ∀ w, Units w → Calls Tryd.prog 56 #[.string (mk (z0 :: Z))] w fun r w' => r = .returned (.tuple #[.int .i64 ahead, .bool true]) ∧ Below w.heap.size w w') (w : World) (hU : Units w) :
    Calls Tryd.prog 13 #[.string (mk (dt19 Y M D h mi s ++ (dtml ml ++ z0 :: Z)))] w fun e w' => e = .returned (.tuple #[.int .i64 (tmR (momV Y M D h mi s ml - ahead)).1, .int .i64 (tmR (momV Y M D h mi s ml - ahead)).2]) ∧ Below w.heap.size w w' := by
  have hmd := md_bd Y M
  have H := dh_of Y M D h mi s (dtml ml ++ z0 :: Z) (by omega) (by omega) (by omega) (by omega) (by omega) (by omega)
  have hzz : (mk (dt19 Y M D h mi s ++ (dtml ml ++ z0 :: Z))).size ≤ 64 := by
    rw [mk_size, List.length_append, dt_len, List.length_append]
    have : (dtml ml).length ≤ 4 := by unfold dtml; split <;> simp [p3]
    simp
    omega
  have hext : (mk (dt19 Y M D h mi s ++ (dtml ml ++ z0 :: Z))).extract 19 (mk (dt19 Y M D h mi s ++ (dtml ml ++ z0 :: Z))).size = mk (dtml ml ++ z0 :: Z) := ext_mk (dt19 Y M D h mi s) _
  obtain ⟨part, kF, t1, t2, t3, t4⟩ := cut_text ml g6 z0 Z h1 h2 hZ
  rw [← hext] at kF
  generalize mk (dt19 Y M D h mi s ++ (dtml ml ++ z0 :: Z)) = t at *
  have hsz := H.sz
  have k1 : ∀ w, Calls Tryd.prog 54 #[.string (t.extract 0 19), .string SF] w fun e w' => e = .returned (.bool true) ∧ Below w.heap.size w w' := fun w => by
    have := hasShape_any (t.extract 0 19) SF w (by rw [ByteArray.size_extract]; omega)
    rwa [shape_of H] at this
  have dd := H.dg
  have n0 := num4 t 0 (by omega) (dd 0 (by simp)) (dd 1 (by simp)) (dd 2 (by simp)) (dd 3 (by simp))
  have n1 := num2 t 5 (by omega) (dd 5 (by simp)) (dd 6 (by simp))
  have n2 := num2 t 8 (by omega) (dd 8 (by simp)) (dd 9 (by simp))
  have n3 := num2 t 11 (by omega) (dd 11 (by simp)) (dd 12 (by simp))
  have n4 := num2 t 14 (by omega) (dd 14 (by simp)) (dd 15 (by simp))
  have n5 := num2 t 17 (by omega) (dd 17 (by simp)) (dd 18 (by simp))
  rw [show d2 t 0 * 100 + d2 t (0 + 2) = (Y : Int) from H.y] at n0
  rw [H.m] at n1
  rw [H.d] at n2
  rw [H.hh] at n3
  rw [H.mm] at n4
  rw [H.ss] at n5
  have c0 : (0 : Int) ≤ (Y : Int) ∧ (Y : Int) ≤ 9999 := by omega
  have c1 : (1 : Int) ≤ (M : Int) ∧ (M : Int) ≤ 12 := by omega
  have c2 : (1 : Int) ≤ (D : Int) ∧ (D : Int) ≤ md Y M := by omega
  have c3 : (0 : Int) ≤ (h : Int) ∧ (h : Int) ≤ 23 := by omega
  have c4 : (0 : Int) ≤ (mi : Int) ∧ (mi : Int) ≤ 59 := by omega
  have c5 : (0 : Int) ≤ (s : Int) ∧ (s : Int) ≤ 59 := by omega
  have c6 : (0 : Int) ≤ (0 : Int) ∧ (0 : Int) ≤ 999 := by omega
  have kM := fun w hU => moment_ok Y M D h mi s 0 0 0 0 w hU c0 c1 c2 c3 c4 c5 c6 (fun w => inRange_ok Y M D h mi s 0 0 0 0 w c0.1 c0.2 c1 c2 c3 c4 c5 c6)
  have hbd := momV_bd Y M D h mi s 0 c0 c1 c2 c3 c4 c5 c6
  have kD := fun w hU => date_ok t part _ _ _ _ _ _ _ (momV Y M D h mi s 0) ahead (ml : Int) (-1) w hU (by omega) hbd.1 hbd.2 a0 a1 (by omega) (by omega) (by omega) k1 n0 n1 n2 n3 n4 n5 kM kF kO
    (fun w => by
      have := thousandths_any part w t4 t3
      rwa [t1, t2] at this)
  rw [if_neg (by omega)] at kD
  rw [momV_lin]
  exact stamp_date t _ w (by omega) (fun w => seconds_no t w (by omega) (not_okS H)) kD hU
end Go.Proofs.YtmfeckpcnofkhabDoor
