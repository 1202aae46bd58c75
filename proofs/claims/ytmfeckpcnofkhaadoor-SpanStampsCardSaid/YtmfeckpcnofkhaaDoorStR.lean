/- The reference's date. -/
import Derived.Test.YtmfeckpcnofkhaaDoorStF
import Derived.Test.YtmfeckpcnofkhaaDoorStI
import Derived.Test.YtmfeckpcnofkhaaDoorMomA
namespace Go.Proofs.YtmfeckpcnofkhaaDoor
open Go.RowKit

/-- The reference's form of a date. -/
abbrev RF : ByteArray := ⟨#[100, 100, 100, 100, 45, 100, 100, 45, 100, 100, 84, 100, 100, 58, 100, 100, 58, 100, 100]⟩
/-- One byte of it. -/
abbrev rB (s : ByteArray) (j : Nat) : Prop := if bt RF j = 100 then isD s j else bt s j = bt RF j
/-- Has it the form? -/
abbrev gdF (s : ByteArray) : Prop := ∀ j, j < 19 → rB s j

/-- What is told of the fraction's end. -/
def upV (hf : Int) : Int := if 0 ≤ hf then 1 else 0
/-- What the reference's date answers. -/
def rdV (s : ByteArray) (n e : Int) (off : Nat → Int) (okz : Nat → Bool) : Int × Bool :=
  if ¬ gdF s then (0, false) else if e ≠ 0 then (0, false) else
  if 19 < s.size ∧ bt s 19 = 46 then (if rn s 20 = 20 then (0, false) else (n + thV (s.extract 20 (rn s 20)) + upV (hfV (s.extract 20 (rn s 20))) - off (rn s 20), okz (rn s 20)))
  else (n - off 19, okz 19)

set_option maxHeartbeats 8000000 in
set_option maxRecDepth 100000 in
theorem rdate_any (s : ByteArray) (n e : Int) (off : Nat → Int) (okz : Nat → Bool) (w : World) (hl : ¬ s.size < 19) (hs : s.size ≤ 64) (n0' : -400000000000000 ≤ n) (n1' : n ≤ 400000000000000) (hoff : ∀ p, -100000000 ≤ off p ∧ off p ≤ 100000000)
    (htw : gdF s → ∀ i, i = 0 ∨ i = 2 ∨ i = 5 ∨ i = 8 ∨ i = 11 ∨ i = 14 ∨ i = 17 → (0 ≤ d2 s i ∧ d2 s i ≤ 99) ∧ ∀ w, Calls Tryd.prog 56 #[.string s, .int .i64 (i : Nat)] w fun e w' => e = .returned (.int .i64 (d2 s i)) ∧ Below w.heap.size w w')
    (hth : 0 ≤ thV (s.extract 20 (rn s 20)) ∧ thV (s.extract 20 (rn s 20)) ≤ 999)
    (kth : ∀ w, Calls Tryd.prog 55 #[.string (s.extract 20 (rn s 20))] w fun e w' => e = .returned (.tuple #[.int .i64 (thV (s.extract 20 (rn s 20))), .int .i64 (hfV (s.extract 20 (rn s 20)))]) ∧ Below w.heap.size w w')
    (km : ∀ w, Calls Tryd.prog 10 #[ag (d2 s 0 * 100 + d2 s 2) (d2 s 5) (d2 s 8) (d2 s 11) (d2 s 14) (d2 s 17) 0 0 0 0] w fun r w' => r = .returned (.tuple #[.int .i64 n, .int .i64 e]) ∧ Below w.heap.size w w')
    (ko : ∀ p, p ≤ s.size → ∀ w, Calls Tryd.prog 57 #[.string (s.extract p s.size)] w fun r w' => r = .returned (.tuple #[.int .i64 (off p), .bool (okz p)]) ∧ Below w.heap.size w w') :
    Calls Tryd.prog 40 #[.string s] w fun r w' => r = .returned (.tuple #[.int .i64 (rdV s n e off okz).1, .bool (rdV s n e off okz).2]) ∧ Below w.heap.size w w' := by
  have hli : ¬ (s.size : Int) < 19 := by omega
  have hl19 : (19 : Int) ≤ s.size := by omega
  have hsi : (s.size : Int) ≤ 64 := by omega
  have HTW : Hid (gdF s → ∀ i, i = 0 ∨ i = 2 ∨ i = 5 ∨ i = 8 ∨ i = 11 ∨ i = 14 ∨ i = 17 → (0 ≤ d2 s i ∧ d2 s i ≤ 99) ∧ ∀ w, Calls Tryd.prog 56 #[.string s, .int .i64 (i : Nat)] w fun e w' => e = .returned (.int .i64 (d2 s i)) ∧ Below w.heap.size w w') := htw
  have HTH : Hid (0 ≤ thV (s.extract 20 (rn s 20)) ∧ thV (s.extract 20 (rn s 20)) ≤ 999) := hth
  have HKT : Hid (∀ w, Calls Tryd.prog 55 #[.string (s.extract 20 (rn s 20))] w fun e w' => e = .returned (.tuple #[.int .i64 (thV (s.extract 20 (rn s 20))), .int .i64 (hfV (s.extract 20 (rn s 20)))]) ∧ Below w.heap.size w w') := kth
  have HKM : Hid (∀ w, Calls Tryd.prog 10 #[ag (d2 s 0 * 100 + d2 s 2) (d2 s 5) (d2 s 8) (d2 s 11) (d2 s 14) (d2 s 17) 0 0 0 0] w fun r w' => r = .returned (.tuple #[.int .i64 n, .int .i64 e]) ∧ Below w.heap.size w w') := km
  have HKO : Hid (∀ p, p ≤ s.size → ∀ w, Calls Tryd.prog 57 #[.string (s.extract p s.size)] w fun r w' => r = .returned (.tuple #[.int .i64 (off p), .bool (okz p)]) ∧ Below w.heap.size w w') := ko
  have HOF : Hid (∀ p, -100000000 ≤ off p ∧ off p ≤ 100000000) := hoff
  have HV : Hid (rdV s n e off okz = if ¬ gdF s then (0, false) else if e ≠ 0 then (0, false) else
    if 19 < s.size ∧ bt s 19 = 46 then (if rn s 20 = 20 then (0, false) else (n + thV (s.extract 20 (rn s 20)) + upV (hfV (s.extract 20 (rn s 20))) - off (rn s 20), okz (rn s 20)))
    else (n - off 19, okz 19)) := rfl
  have HBD : Hid (-400000000000000 ≤ n ∧ n ≤ 400000000000000) := ⟨n0', n1'⟩
  generalize rdV s n e off okz = V at *
  clear htw hth kth km ko hoff n0' n1' hs hl
  go_enter Tryd.func40, Tryd.ntmps40
  go_wp2_with fail
  go_loopw [5] (fun t w' => ∃ j : Nat, t = .int .i64 (j : Int) ∧ j ≤ 19 ∧ Hid (∀ i, i < j → rB s i) ∧ Below w.heap.size w w') (fun t _ => 19 - (RowKit.intOf t).toNat)
  case atStart => exact ⟨0, rfl, by omega, fun i hi => absurd hi (by omega), Below.refl _ _⟩
  case round =>
    obtain ⟨j, rfl, hj, HF, hbw⟩ := hrel
    by_cases hlt : j < 19
    · have hli : (j : Int) < 19 := by omega
      have hls : (j : Int) < s.size := by omega
      have hltN : j < s.size := by omega
      have hxH := bt_at RF j (by show j < 19; exact hlt)
      have hxs := bt_at s j hltN
      have kd := fun w => rdigit_any (bt s j) w
      by_cases c : bt RF j = 100
      · have cb : (bt RF j == 100) = true := by simpa using c
        have cn : (bt RF j != 100) = false := by simpa using c
        by_cases q : isD s j
        · have HE : Hid (rB s j) := by show rB s j; unfold rB; rw [if_pos c]; exact q
          have HN : Hid (∀ i, i < j + 1 → rB s i) := fun i hi => by
            by_cases e : i = j
            · subst e; exact HE.out
            · exact HF.out i (by omega)
          rw [decide_eq_true q.2] at kd
          clear c q
          generalize bt RF j = bH at *
          generalize bt s j = bs at *
          go_wp2_with fail
          go_quiet (first | (go_at_call 46; exact Calls.quiet_of_same (kd _)))
          go_wp2
          exact ⟨⟨j + 1, by go_num, by omega, HN.out, hbw.trans ⟨rfl, rfl, rfl, Nat.le_refl _, fun _ _ => rfl⟩⟩, by simp [RowKit.intOf]; omega⟩
        · have hno : ¬ rB s j := by unfold rB; rw [if_pos c]; exact q
          have HE : Hid (V = (0, false)) := by
            show _ = _
            rw [HV.out, if_pos (fun h => hno (h j hlt))]
          have hq2 : ¬ (48 ≤ bt s j ∧ bt s j ≤ 57) := fun h => q ⟨hltN, h⟩
          rw [decide_eq_false hq2] at kd
          clear c q hno hq2
          generalize bt RF j = bH at *
          generalize bt s j = bs at *
          go_wp2_with fail
          go_quiet (first | (go_at_call 46; exact Calls.quiet_of_same (kd _)))
          go_wp2
          go_ret2
          exact ⟨by rw [HE.out]; rfl, hbw.trans ⟨rfl, rfl, rfl, Nat.le_refl _, fun _ _ => rfl⟩⟩
      · have cb : (bt RF j == 100) = false := by simpa using c
        have cn : (bt RF j != 100) = true := by simpa using c
        clear kd
        by_cases q : bt s j = bt RF j
        · have HE : Hid (rB s j) := by show rB s j; unfold rB; rw [if_neg c]; exact q
          have HN : Hid (∀ i, i < j + 1 → rB s i) := fun i hi => by
            by_cases e : i = j
            · subst e; exact HE.out
            · exact HF.out i (by omega)
          have qn : (bt s j != bt RF j) = false := by simpa using q
          clear c q
          generalize bt RF j = bH at *
          generalize bt s j = bs at *
          go_wp2_with fail
          go_quiet (fail)
          go_wp2
          exact ⟨⟨j + 1, by go_num, by omega, HN.out, hbw.trans ⟨rfl, rfl, rfl, Nat.le_refl _, fun _ _ => rfl⟩⟩, by simp [RowKit.intOf]; omega⟩
        · have hno : ¬ rB s j := by unfold rB; rw [if_neg c]; exact q
          have HE : Hid (V = (0, false)) := by
            show _ = _
            rw [HV.out, if_pos (fun h => hno (h j hlt))]
          have qn : (bt s j != bt RF j) = true := by simpa using q
          clear c q hno
          generalize bt RF j = bH at *
          generalize bt s j = bs at *
          go_wp2_with fail
          go_quiet (fail)
          go_wp2
          go_ret2
          exact ⟨by rw [HE.out]; rfl, hbw.trans ⟨rfl, rfl, rfl, Nat.le_refl _, fun _ _ => rfl⟩⟩
    · have hli : ¬ (j : Int) < 19 := by omega
      obtain rfl : j = 19 := by omega
      have HG : gdF s := HF.out
      obtain ⟨⟨a0, b0⟩, t0⟩ := HTW.out HG 0 (by simp)
      obtain ⟨⟨a2, b2⟩, t2⟩ := HTW.out HG 2 (by simp)
      obtain ⟨⟨a5, b5⟩, t5⟩ := HTW.out HG 5 (by simp)
      obtain ⟨⟨a8, b8⟩, t8⟩ := HTW.out HG 8 (by simp)
      obtain ⟨⟨a11, b11⟩, t11⟩ := HTW.out HG 11 (by simp)
      obtain ⟨⟨a14, b14⟩, t14⟩ := HTW.out HG 14 (by simp)
      obtain ⟨⟨a17, b17⟩, t17⟩ := HTW.out HG 17 (by simp)
      have HVG : Hid (V = if e ≠ 0 then (0, false) else
        if 19 < s.size ∧ bt s 19 = 46 then (if rn s 20 = 20 then (0, false) else (n + thV (s.extract 20 (rn s 20)) + upV (hfV (s.extract 20 (rn s 20))) - off (rn s 20), okz (rn s 20)))
        else (n - off 19, okz 19)) := by
        show _ = _
        rw [HV.out, if_neg (by simpa using HG)]
      clear HG
      have km := HKM.out
      generalize d2 s 0 = y0 at *
      generalize d2 s 2 = y2 at *
      generalize d2 s 5 = y5 at *
      generalize d2 s 8 = y8 at *
      generalize d2 s 11 = y11 at *
      generalize d2 s 14 = y14 at *
      generalize d2 s 17 = y17 at *
      go_wp2_with fail
      go_fit (t0 _)
      rintro r w1 ⟨rfl, h1⟩
      go_wp2_with fail
      go_fit (t2 _)
      rintro r w2 ⟨rfl, h2⟩
      go_wp2_with fail
      go_fit (t5 _)
      rintro r w3 ⟨rfl, h3⟩
      go_wp2_with fail
      go_fit (t8 _)
      rintro r w4 ⟨rfl, h4⟩
      go_wp2_with fail
      go_fit (t11 _)
      rintro r w5 ⟨rfl, h5⟩
      go_wp2_with fail
      go_fit (t14 _)
      rintro r w6 ⟨rfl, h6⟩
      go_wp2_with fail
      go_fit (t17 _)
      rintro r w7 ⟨rfl, h7⟩
      clear t0 t2 t5 t8 t11 t14 t17
      have B7 : Below w.heap.size w w7 := hbw.trans ((((((((h1.trans (h2.mono h1.size)).trans (h3.mono (h1.trans (h2.mono h1.size)).size)))).trans (h4.mono (by have z1 := h1.size; have z2 := h2.size; have z3 := h3.size; omega))).trans (h5.mono (by have z1 := h1.size; have z2 := h2.size; have z3 := h3.size; have z4 := h4.size; omega))).trans (h6.mono (by have z1 := h1.size; have z2 := h2.size; have z3 := h3.size; have z4 := h4.size; have z5 := h5.size; omega))).trans (h7.mono (by have z1 := h1.size; have z2 := h2.size; have z3 := h3.size; have z4 := h4.size; have z5 := h5.size; have z6 := h6.size; omega)) |>.mono hbw.size)
      have HB7 : Hid (Below w.heap.size w w7) := B7
      clear h1 h2 h3 h4 h5 h6 h7 B7
      go_wp2_with fail
      go_fit (km _)
      rintro r w8 ⟨rfl, h8⟩
      have B8 : Below w.heap.size w w8 := (HB7.out.alloc HB7.out.size _).trans (h8.mono (by have z := HB7.out.size; simp; omega))
      have HB8 : Hid (Below w.heap.size w w8) := B8
      obtain ⟨n0', n1'⟩ := HBD.out
      clear h8 km B8
      by_cases he : e = 0
      · subst he
        have HVG2 : Hid (V = if 19 < s.size ∧ bt s 19 = 46 then (if rn s 20 = 20 then (0, false) else (n + thV (s.extract 20 (rn s 20)) + upV (hfV (s.extract 20 (rn s 20))) - off (rn s 20), okz (rn s 20)))
          else (n - off 19, okz 19)) := by
          show _ = _
          rw [HVG.out, if_neg (by simp)]
        by_cases hz : 19 < s.size
        · have hzi : (19 : Int) < s.size := by omega
          have hx19 := bt_at s 19 hz
          by_cases hd : bt s 19 = 46
          · have hdb : (bt s 19 == 46) = true := by simpa using hd
            have kr := fun w => rrun_any s 20 w (by omega) (by omega)
            have hbd := runF_bd s (s.size - 20) 20 (by omega)
            have hbd' : 20 ≤ rn s 20 ∧ rn s 20 ≤ s.size := hbd
            obtain ⟨r0, r1⟩ := hbd'
            clear hbd
            by_cases hr : rn s 20 = 20
            · have HE : Hid (V = (0, false)) := by
                show _ = _
                rw [HVG2.out, if_pos ⟨hz, hd⟩, if_pos hr]
              rw [hr] at kr
              clear hd
              generalize bt s 19 = bs at *
              go_wp2_with fail
              go_fit (kr _)
              rintro r w9 ⟨rfl, rfl⟩
              go_wp2
              go_ret2
              exact ⟨by rw [HE.out]; rfl, HB8.out⟩
            · have HE : Hid (V = (n + thV (s.extract 20 (rn s 20)) + upV (hfV (s.extract 20 (rn s 20))) - off (rn s 20), okz (rn s 20))) := by
                show _ = _
                rw [HVG2.out, if_pos ⟨hz, hd⟩, if_neg hr]
              have kt := HKT.out
              have ko := HKO.out (rn s 20) r1
              obtain ⟨o0, o1⟩ := HOF.out (rn s 20)
              obtain ⟨t0, t1⟩ := HTH.out
              have hrb : ((rn s 20 : Int) == 20) = false := by
                rw [beq_eq_false_iff_ne]
                omega
              have r1i : (rn s 20 : Int) ≤ s.size := by omega
              have r0i : (20 : Int) ≤ rn s 20 := by omega
              clear hd HVG HVG2 HV
              generalize bt s 19 = bs at *
              generalize off (rn s 20) = o at *
              generalize okz (rn s 20) = ok at *
              generalize thV (s.extract 20 (rn s 20)) = th at *
              generalize hfV (s.extract 20 (rn s 20)) = hf at *
              generalize rn s 20 = r20 at *
              go_wp2_with fail
              go_fit (kr _)
              rintro r w9 ⟨rfl, rfl⟩
              go_wp2_with fail
              go_fit (kt _)
              rintro r w10 ⟨rfl, h10⟩
              by_cases hh : 0 ≤ hf
              · have hu : upV hf = 1 := by unfold upV; rw [if_pos hh]
                rw [hu] at HE
                go_wp2_with fail
                go_fit (ko _)
                rintro r w11 ⟨rfl, h11⟩
                have B10 := HB8.out.trans (h10.mono HB8.out.size)
                go_wp2
                go_ret2
                exact ⟨by rw [HE.out]; go_num, B10.trans (h11.mono B10.size)⟩
              · have hu : upV hf = 0 := by unfold upV; rw [if_neg hh]
                rw [hu, Int.add_zero] at HE
                go_wp2_with fail
                go_fit (ko _)
                rintro r w11 ⟨rfl, h11⟩
                have B10 := HB8.out.trans (h10.mono HB8.out.size)
                go_wp2
                go_ret2
                exact ⟨by rw [HE.out]; rfl, B10.trans (h11.mono B10.size)⟩
          · have HE : Hid (V = (n - off 19, okz 19)) := by
              show _ = _
              rw [HVG2.out, if_neg (fun h => hd h.2)]
            have hdb : (bt s 19 == 46) = false := by simpa using hd
            have ko := HKO.out 19 (by omega)
            obtain ⟨o0, o1⟩ := HOF.out 19
            clear hd HVG HVG2 HV
            generalize bt s 19 = bs at *
            generalize off 19 = o at *
            generalize okz 19 = ok at *
            go_wp2_with fail
            go_fit (ko _)
            rintro r w9 ⟨rfl, h9⟩
            go_wp2
            go_ret2
            exact ⟨by rw [HE.out]; rfl, HB8.out.trans (h9.mono HB8.out.size)⟩
        · have HE : Hid (V = (n - off 19, okz 19)) := by
            show _ = _
            rw [HVG2.out, if_neg (fun h => hz h.1)]
          have hzi : ¬ (19 : Int) < s.size := by omega
          have ko := HKO.out 19 (by omega)
          obtain ⟨o0, o1⟩ := HOF.out 19
          clear HVG HVG2 HV
          generalize off 19 = o at *
          generalize okz 19 = ok at *
          go_wp2_with fail
          go_fit (ko _)
          rintro r w9 ⟨rfl, h9⟩
          go_wp2
          go_ret2
          exact ⟨by rw [HE.out]; rfl, HB8.out.trans (h9.mono HB8.out.size)⟩
      · have HE : Hid (V = (0, false)) := by
          show _ = _
          rw [HVG.out, if_pos he]
        have heb : (e != 0) = true := by simpa using he
        go_wp2
        go_ret2
        exact ⟨by rw [HE.out]; rfl, HB8.out⟩
end Go.Proofs.YtmfeckpcnofkhaaDoor
