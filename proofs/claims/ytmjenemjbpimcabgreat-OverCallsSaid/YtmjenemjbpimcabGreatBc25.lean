/- A bundle of texts. -/
import Derived.Test.YtmjenemjbpimcabGreatBc24
import Derived.Test.YtmjenemjbpimcabGreatBc09
import Derived.Test.YtmjenemjbpimcabGreatBc10
import Derived.Test.YtmjenemjbpimcabGreatBc12
/- Reference functions (from stage 6). -/
namespace Go.Proofs.YtmjenemjbpimcabGreat
open Go.RowKit

set_option maxHeartbeats 400000 in
theorem endless_any (x : Nat) (hx : x < 18446744073709551616) (w : World) : Calls Tryz.prog 34 #[.float .f64 x] w fun r w' => r = .returned (.bool (infB (cl x))) ∧ w' = w := by
  have k1 := isInf_any x hx w
  generalize infB (cl x) = B at *
  go_enter Tryz.func34, Tryz.ntmps34
  go_wp2_with fail
  go_fit k1
  rintro r w' ⟨rfl, rfl⟩
  go_wp2
  go_ret
  exact ⟨rfl, rfl⟩

set_option maxHeartbeats 400000 in
theorem rnan_any (w : World) : Calls Tryz.prog 33 #[] w fun r w' => r = .returned (.float .f64 9221120237041090561) ∧ w' = w := by
  have k1 := nan_any w
  go_enter Tryz.func33, Tryz.ntmps33
  go_wp2_with fail
  go_fit k1
  rintro r w' ⟨rfl, rfl⟩
  go_wp2
  go_ret
  exact ⟨rfl, rfl⟩
set_option maxHeartbeats 2000000 in
set_option maxRecDepth 100000 in
theorem rsum_any (a : Option Addr) (c : Nat) (xs : List Nat) (w : World) (hf : Fm w a xs) (hw : Wd xs) (hl : xs.length ≤ 9223372036854775807) :
    Calls Tryz.prog 35 #[.slice a xs.length c] w (RF w (sumF (cs xs))) := by
  have ha := @run_fadd Tryz.prog
  have hs := @run_fsub Tryz.prog
  have HN : Hid (∀ i, i < xs.length → sumS ((cs xs).take (i + 1)) = smStep (sumS ((cs xs).take i)) (cl (xs.getD i 0))) := sumS_next xs
  have HA : Hid (sumS ((cs xs).take xs.length) = sumS (cs xs)) := sumS_all xs
  have HF : Hid (Fm w a xs) := hf
  have HW : Hid (Wd xs) := hw
  clear hf hw
  go_enter Tryz.func35, Tryz.ntmps35
  go_wp2
  go_loopw [3, 4, 5] (fun sv cv iv w' => ∃ (i s d k : Nat), iv = .int .i64 (i : Int) ∧ i ≤ xs.length ∧ sv = .float .f64 s ∧ cv = .float .f64 d ∧ s < 18446744073709551616 ∧ d < 18446744073709551616 ∧ Hid ((cl s, cl d) = sumS ((cs xs).take i)) ∧ w' = w.drewN k) (fun _ _ iv _ => xs.length - (RowKit.intOf iv).toNat)
  case atStart => exact ⟨0, 0, 0, 0, rfl, by omega, rfl, rfl, by omega, by omega, (by simp [sumS, cl_lit 0 (by decide)] : _ = _), rfl⟩
  case round =>
    obtain ⟨i, s, d, k, rfl, hi, rfl, rfl, hs1, hd1, hst, rfl⟩ := hrel
    by_cases hlt : i < xs.length
    · have hii : (i : Int) < xs.length := by omega
      rcases HF.out with h0 | ⟨g, o, rfl, hg, hat⟩
      · rw [h0] at hlt; simp at hlt
      have hcell := hat i hlt
      have hv := HW.out i hlt
      have hn := HN.out i hlt
      rw [← hst.out] at hn
      have HI : Hid (i + 1 ≤ xs.length) := hlt
      clear hat
      generalize xs.getD i 0 = v at *
      have hn' : Hid (sumS ((cs xs).take (i + 1)) = smStep (cl s, cl d) (cl v)) := hn
      clear hn hst
      have kI := fun w => endless_any (fz .add s v (w)) (fz_lt _ _ _ _) 
      have kA := fun w => abs_any s hs1 w
      have kB := fun w => abs_any v hv w
      go_wp2_with fail
      go_fit (kI _ _)
      rintro r w1 ⟨rfl, rfl⟩
      rw [cl_fz]
      by_cases hinf : infB (fb .add (cl s) (cl v)) = true
      · rw [hinf]
        go_wp2
        refine ⟨⟨i + 1, _, 0, _, by go_num, HI, rfl, rfl, fz_lt _ _ _ _, by omega, ?_, rfl⟩, by simp [RowKit.intOf]; omega⟩
        show _ = _
        rw [hn'.out, cl_fz]
        unfold smStep
        rw [if_pos hinf, cl_lit 0 (by decide)]
      · rw [Bool.not_eq_true] at hinf
        rw [hinf]
        go_wp2_with fail
        go_fit (kA _)
        rintro r w2 ⟨rfl, rfl⟩
        go_wp2_with fail
        go_fit (kB _)
        rintro r w3 ⟨rfl, rfl⟩
        have hge := geB_cl s v
        cases hg2 : geB (ab (cl s)) (ab (cl v))
        · rw [hg2] at hge
          have hge' := hge.symm
          clear hge
          go_wp2
          refine ⟨⟨i + 1, _, _, _, by go_num, HI, rfl, rfl, fz_lt _ _ _ _, fz_lt _ _ _ _, ?_, rfl⟩, by simp [RowKit.intOf]; omega⟩
          show _ = _
          rw [hn'.out]
          simp only [cl_fz]
          unfold smStep
          rw [if_neg (by rw [hinf]; decide), if_neg (by rw [hg2]; decide)]
        · rw [hg2] at hge
          have hge' := hge.symm
          clear hge
          go_wp2
          refine ⟨⟨i + 1, _, _, _, by go_num, HI, rfl, rfl, fz_lt _ _ _ _, fz_lt _ _ _ _, ?_, rfl⟩, by simp [RowKit.intOf]; omega⟩
          show _ = _
          rw [hn'.out]
          simp only [cl_fz]
          unfold smStep
          rw [if_neg (by rw [hinf]; decide), if_pos hg2]
    · have hii : ¬ (i : Int) < xs.length := by omega
      obtain rfl : i = xs.length := by omega
      go_wp2
      go_ret
      refine ⟨_, _, rfl, rfl, fz_lt _ _ _ _, ?_⟩
      rw [cl_fz]
      unfold sumF
      rw [← HA.out, ← hst.out]
set_option maxHeartbeats 4000000 in
set_option maxRecDepth 100000 in
theorem rmean_any (a : Option Addr) (c : Nat) (xs : List Nat) (w : World) (hf : Fm w a xs) (hw : Wd xs) (hl : 8 * xs.length ≤ 140737488355328) :
    Calls Tryz.prog 36 #[.slice a xs.length c] w (RB w (meanF xs)) := by
  have hq := @run_fquo Tryz.prog
  have hcv := cvn xs.length
  have kN := rnan_any w
  have kS := rsum_any a c xs w hf hw (by omega)
  have hb0 := Below.refl w.heap.size w
  have HF : Hid (Fm w a xs) := hf
  have HW : Hid (Wd xs) := hw
  clear hf hw
  by_cases h0 : xs.length = 0
  · have HM : Hid (meanF xs = none) := mean0 h0
    have h0' : (xs.length : Int) = 0 := by omega
    go_enter Tryz.func36, Tryz.ntmps36
    go_wp2_with fail
    go_fit kN
    rintro r w ⟨rfl, rfl⟩
    go_wp2
    go_ret
    exact ⟨_, rfl, hb0, by decide, by rw [HM.out]; exact cl_theNaN⟩
  · have h0' : ¬ (xs.length : Int) = 0 := by omega
    have M1 : Hid (infB (sumF (cs xs)) = false → meanF xs = fb .quo (sumF (cs xs)) (some (nW xs.length))) := mean1 h0
    have M2 : Hid (infB (sumF (cs xs)) = true → anyI xs xs.length = true → meanF xs = fb .quo (sumF (cs xs)) (some (nW xs.length))) := mean2 h0
    have M3 : Hid (infB (sumF (cs xs)) = true → anyI xs xs.length = false → meanF xs = sumF ((List.range xs.length).map (ptF xs (some (nW xs.length))))) := mean3 h0
    have HP : Hid (∀ j, ptF xs (some (nW xs.length)) j = fb .quo (cl (xs.getD j 0)) (some (nW xs.length))) := fun j => rfl
    have HS : Hid (∀ i, anyI xs (i + 1) = (anyI xs i || infB (cl (xs.getD i 0)))) := anyI_succ xs
    have A0 : Hid (anyI xs 0 = false) := (rfl : anyI xs 0 = false)
    generalize ptF xs (some (nW xs.length)) = F at *
    obtain ⟨G, hG⟩ : ∃ G, G = w.heap.size := ⟨_, rfl⟩
    have HG : Hid (G = w.heap.size) := hG
    rw [← hG] at hb0
    clear hG
    go_enter Tryz.func36, Tryz.ntmps36
    go_wp2_with fail
    go_fit kS
    rintro r w1 ⟨z, k, rfl, rfl, hz, hcz⟩
    have kI := fun w => endless_any z hz w
    have HC : Hid (cl z = sumF (cs xs)) := hcz
    have hb1 := below_drewN hb0 k
    clear hcz
    go_wp2
    go_loopw [5, 6, 7] (fun fv pv iv w' => ∃ (i : Nat) (ys : List Nat) (A : Option Addr) (C : Nat), iv = .int .i64 (i : Int) ∧ i ≤ xs.length ∧ fv = .bool (!anyI xs i) ∧ pv = .slice A i C ∧ Hid (ys.length = i) ∧ Hid (Fr w' G (.slice A i C) ys) ∧ Hid (Ls ys i F) ∧ Below G w w') (fun _ _ iv _ => xs.length - (RowKit.intOf iv).toNat)
    case atStart => exact ⟨0, [], none, 0, rfl, by omega, by rw [A0.out]; rfl, rfl, rfl, Fr.nil _ _, Ls.nil _ _, hb1⟩
    case round =>
      obtain ⟨i, ys, A, C, rfl, hi, rfl, rfl, hyl, o, hls, hb⟩ := hrel
      by_cases hlt : i < xs.length
      · have hii : (i : Int) < xs.length := by omega
        rcases HF.out with h0 | ⟨g, o', rfl, hg, hat⟩
        · rw [h0] at hlt; simp at hlt
        have hcell := (hb.cell (p := ⟨g, o' + i, none⟩) (by rw [HG.out]; exact hg)).trans (hat i hlt)
        have HI : Hid (i + 1 ≤ xs.length) := hlt
        have hv := HW.out i hlt
        have hfi := HP.out i
        have hsi := HS.out i
        clear hat
        generalize xs.getD i 0 = v at *
        have hGw : G ≤ wr.heap.size := by rw [HG.out]; exact hb.size
        obtain ⟨v', w', r1, o2, b2⟩ := append_f (wr.drewN (fk .quo v (nW xs.length))) G (.slice A i C) ys (fz .quo v (nW xs.length) wr) hGw (by have := hyl.out; omega) (o.out.drew _)
        have hl2 : Ls (ys ++ [fz .quo v (nW xs.length) wr]) (i + 1) F := by
          have := hls.out
          rw [← hyl.out] at this ⊢
          exact this.push _ (by rw [cl_fz, hyl.out, hfi, nW_num]) (fz_lt _ _ _ _)
        have Y2 : Hid ((ys ++ [fz .quo v (nW xs.length) wr]).length = i + 1) := by show _ = _; rw [List.length_append, hyl.out]; rfl
        obtain ⟨A2, C2, rfl, _⟩ := o2.fm
        rw [Y2.out] at o2 r1
        have O2 : Hid _ := o2
        have L2 : Hid _ := hl2
        have HB2 : Hid (Below G w w') := (below_drewN hb _).trans b2
        have SI : Hid _ := hsi
        have kE := fun w => endless_any v hv w
        clear o2 hl2 b2 hsi hfi
        cases hany : anyI xs i
        · have SI2 : Hid (anyI xs (i + 1) = infB (cl v)) := by show _ = _; rw [SI.out, hany]; rfl
          go_wp2_with fail
          go_fit (kE _)
          rintro r w2 ⟨rfl, rfl⟩
          rw [← SI2.out]
          go_wp2_with (at_builtin; refine wpList_append_run rfl (.tmp 32) (.tmp 39) 33 33 rfl _ _ rfl rfl r1 ?_)
          exact ⟨⟨i + 1, _, A2, C2, by go_num, HI, rfl, rfl, Y2, O2, L2, HB2.out⟩, by simp [RowKit.intOf]; omega⟩
        · have SI2 : Hid (anyI xs (i + 1) = true) := by show _ = _; rw [SI.out, hany]; rfl
          go_wp2_with (at_builtin; refine wpList_append_run rfl (.tmp 32) (.tmp 39) 33 33 rfl _ _ rfl rfl r1 ?_)
          exact ⟨⟨i + 1, _, A2, C2, by go_num, HI, by rw [SI2.out]; rfl, rfl, Y2, O2, L2, HB2.out⟩, by simp [RowKit.intOf]; omega⟩
      · have hii : ¬ (i : Int) < xs.length := by omega
        obtain rfl : i = xs.length := by omega
        obtain ⟨a2, c2, e2, hf2⟩ := o.out.fm
        rw [hyl.out] at e2
        cases e2
        have kS2 := fun k => rsum_any A C ys (wr.drewN k) (hf2.drew k) (by have := hls.out; rw [← hyl.out] at this; exact this.wd) (by have := hyl.out; omega)
        rw [hyl.out] at kS2
        have HE : Hid (sumF (cs ys) = sumF ((List.range xs.length).map F)) := by
          have := hls.out
          rw [← hyl.out] at this ⊢
          show _ = _
          rw [this.cs]
        clear hf2
        cases hinf : infB (cl z)
        · go_wp2_with fail
          go_fit (kI _)
          rintro r w2 ⟨rfl, rfl⟩
          rw [hinf]
          go_wp2
          go_ret
          exact ⟨_, rfl, by rw [← HG.out]; exact below_drewN hb _, fz_lt _ _ _ _, by rw [cl_fz, M1.out (by rw [← HC.out]; exact hinf), HC.out, nW_num]⟩
        · cases hany : anyI xs xs.length
          · go_wp2_with fail
            go_fit (kI _)
            rintro r w2 ⟨rfl, rfl⟩
            rw [hinf]
            go_wp2_with fail
            go_fit (kS2 0)
            rintro r w3 ⟨z2, k2, rfl, rfl, hz2, hcz2⟩
            have HZ : Hid (cl z2 = meanF xs) := by
              show _ = _
              rw [M3.out (by rw [← HC.out]; exact hinf) hany, hcz2, HE.out]
            clear hcz2
            go_wp2
            go_ret
            exact ⟨_, rfl, by rw [← HG.out]; exact below_drewN hb _, hz2, HZ.out⟩
          · go_wp2_with fail
            go_fit (kI _)
            rintro r w2 ⟨rfl, rfl⟩
            rw [hinf]
            go_wp2
            go_ret
            exact ⟨_, rfl, by rw [← HG.out]; exact below_drewN hb _, fz_lt _ _ _ _, by rw [cl_fz, M2.out (by rw [← HC.out]; exact hinf) hany, HC.out, nW_num]⟩
set_option maxHeartbeats 2000000 in
set_option maxRecDepth 100000 in
theorem rvariance_any (a : Option Addr) (c : Nat) (xs : List Nat) (w : World) (hf : Fm w a xs) (hw : Wd xs) (hl : 8 * xs.length ≤ 140737488355328) :
    Calls Tryz.prog 38 #[.slice a xs.length c] w (RB w (varF xs)) := by
  have hq := @run_fquo Tryz.prog
  have hs := @run_fsub Tryz.prog
  have hm := @run_fmul Tryz.prog
  have hcv := cvn xs.length
  have kN := rnan_any w
  have kM := rmean_any a c xs w hf hw hl
  have hb0 := Below.refl w.heap.size w
  have HF : Hid (Fm w a xs) := hf
  clear hf hw
  by_cases h0 : xs.length = 0
  · have HM : Hid (varF xs = none) := var0 h0
    have h0' : (xs.length : Int) = 0 := by omega
    go_enter Tryz.func38, Tryz.ntmps38
    go_wp2_with fail
    go_fit kN
    rintro r w ⟨rfl, rfl⟩
    go_wp2
    go_ret
    exact ⟨_, rfl, hb0, by decide, by rw [HM.out]; exact cl_theNaN⟩
  · have h0' : ¬ (xs.length : Int) = 0 := by omega
    have HV : Hid (varF xs = fb .quo (sumF ((List.range xs.length).map (sqF xs (meanF xs)))) (some (nW xs.length))) := var1 h0
    have HP : Hid (∀ j, sqF xs (meanF xs) j = fb .mul (fb .sub (cl (xs.getD j 0)) (meanF xs)) (fb .sub (cl (xs.getD j 0)) (meanF xs))) := fun j => rfl
    generalize sqF xs (meanF xs) = F at *
    go_enter Tryz.func38, Tryz.ntmps38
    go_wp2_with fail
    go_fit kM
    rintro r w0 ⟨m, rfl, hbm, hml, hcm⟩
    have HF0 : Hid (Fm w0 a xs) := HF.out.below hbm
    have HCM : Hid (cl m = meanF xs) := hcm
    have HBM : Hid (Below w.heap.size w w0) := hbm
    obtain ⟨G, hG⟩ : ∃ G, G = w0.heap.size := ⟨_, rfl⟩
    have HG : Hid (G = w0.heap.size) := hG
    have b1 : Below G w0 w0 := Below.refl _ _
    clear hG hcm hbm kM kN
    go_wp2
    go_loopw [4, 5] (fun pv iv w' => ∃ (i : Nat) (ys : List Nat) (A : Option Addr) (C : Nat), iv = .int .i64 (i : Int) ∧ i ≤ xs.length ∧ pv = .slice A i C ∧ Hid (ys.length = i) ∧ Hid (Fr w' G (.slice A i C) ys) ∧ Hid (Ls ys i F) ∧ Below G w0 w') (fun _ iv _ => xs.length - (RowKit.intOf iv).toNat)
    case atStart => exact ⟨0, [], none, 0, rfl, by omega, rfl, rfl, Fr.nil _ _, Ls.nil _ _, b1⟩
    case round =>
      obtain ⟨i, ys, A, C, rfl, hi, rfl, hyl, o, hls, hb⟩ := hrel
      by_cases hlt : i < xs.length
      · have hii : (i : Int) < xs.length := by omega
        rcases HF0.out with h0 | ⟨g, o', rfl, hg, hat⟩
        · rw [h0] at hlt; simp at hlt
        have hcell := (hb.cell (p := ⟨g, o' + i, none⟩) (by rw [HG.out]; exact hg)).trans (hat i hlt)
        have HI : Hid (i + 1 ≤ xs.length) := hlt
        have hfi := HP.out i
        clear hat
        generalize xs.getD i 0 = v at *
        obtain ⟨d, hd⟩ : ∃ d, d = fz .sub v m wr := ⟨_, rfl⟩
        have hcd : cl d = fb .sub (cl v) (meanF xs) := by rw [hd, cl_fz, HCM.out]
        rw [← hcd] at hfi
        have e1 : ∀ t, (binOp .sub t (.float .f64 v) (.float .f64 m)).run Tryz.prog wr = .ok (.float .f64 d) (wr.drewN (fk .sub v m)) := fun t => by rw [run_fsub, hd]
        have hGw : G ≤ wr.heap.size := by rw [HG.out]; exact hb.size
        obtain ⟨v', w', r1, o2, b2⟩ := append_f (wr.drewN (fk .sub v m + fk .mul d d)) G (.slice A i C) ys (fz .mul d d (wr.drewN (fk .sub v m))) hGw (by have := hyl.out; omega) (o.out.drew _)
        have hl2 : Ls (ys ++ [fz .mul d d (wr.drewN (fk .sub v m))]) (i + 1) F := by
          have := hls.out
          rw [← hyl.out] at this ⊢
          exact this.push _ (by rw [cl_fz, hyl.out, hfi]) (fz_lt _ _ _ _)
        have Y2 : Hid ((ys ++ [fz .mul d d (wr.drewN (fk .sub v m))]).length = i + 1) := by show _ = _; rw [List.length_append, hyl.out]; rfl
        obtain ⟨A2, C2, rfl, _⟩ := o2.fm
        rw [Y2.out] at o2 r1
        have O2 : Hid _ := o2
        have L2 : Hid _ := hl2
        have HB2 : Hid (Below G w0 w') := (below_drewN hb _).trans b2
        clear o2 hl2 b2 hfi hd hcd hs
        go_wp2_with (at_builtin; refine wpList_append_run rfl (.tmp 25) (.tmp 29) 33 33 rfl _ _ rfl rfl r1 ?_)
        exact ⟨⟨i + 1, _, A2, C2, by go_num, HI, rfl, Y2, O2, L2, HB2.out⟩, by simp [RowKit.intOf]; omega⟩
      · have hii : ¬ (i : Int) < xs.length := by omega
        obtain rfl : i = xs.length := by omega
        obtain ⟨a2, c2, e2, hf2⟩ := o.out.fm
        rw [hyl.out] at e2
        cases e2
        have kS2 := rsum_any A C ys wr hf2 (by have := hls.out; rw [← hyl.out] at this; exact this.wd) (by have := hyl.out; omega)
        rw [hyl.out] at kS2
        have HE : Hid (sumF (cs ys) = sumF ((List.range xs.length).map F)) := by
          have := hls.out
          rw [← hyl.out] at this ⊢
          show _ = _
          rw [this.cs]
        have HB : Hid (Below w.heap.size w wr) := HBM.out.trans (hb.mono (by rw [HG.out]; exact HBM.out.size))
        clear hf2
        go_wp2_with fail
        go_fit kS2
        rintro r w3 ⟨z2, k2, rfl, rfl, hz2, hcz2⟩
        have HZ : Hid (cl z2 = sumF ((List.range xs.length).map F)) := hcz2.trans HE.out
        clear hcz2
        go_wp2
        go_ret
        exact ⟨_, rfl, below_drewN HB.out _, fz_lt _ _ _ _, by rw [cl_fz, HV.out, HZ.out, nW_num]⟩
set_option maxHeartbeats 400000 in
theorem rspread_any (a : Option Addr) (c : Nat) (xs : List Nat) (w : World) (hf : Fm w a xs) (hw : Wd xs) (hl : 8 * xs.length ≤ 140737488355328) :
    Calls Tryz.prog 37 #[.slice a xs.length c] w (RB w (sprF xs)) := by
  have kV := rvariance_any a c xs w hf hw hl
  go_enter Tryz.func37, Tryz.ntmps37
  go_wp2_with fail
  go_fit kV
  rintro r w1 ⟨z, rfl, hb, hz, hc⟩
  have kQ := sqrt_any z w1
  go_wp2_with fail
  go_fit kQ
  rintro r w2 ⟨z2, k2, rfl, rfl, hz2, hc2⟩
  have HC : Hid (cl z2 = sprF xs) := by
    show _ = _
    rw [hc2, hc]; rfl
  clear hc hc2
  go_wp2
  go_ret
  exact ⟨_, rfl, below_drewN hb _, hz2, HC.out⟩
theorem ins_eq (x : Nat) : insB (cl x) = ((FloatKind.f64.format.order x 0 == some .gt) && (FloatKind.f64.format.order x 4607182418800017408 == some .lt)) := by
  unfold insB
  rw [fo_cl, fo_cl, cl_lit 0 (by decide), cl_lit 4607182418800017408 (by decide)]
theorem ins_true {x : Nat} (h : insB (cl x) = true) : (FloatKind.f64.format.order x 0 == some .gt) = true ∧ (FloatKind.f64.format.order x 4607182418800017408 == some .lt) = true := by
  rw [ins_eq] at h
  simpa using h
theorem ins_false {x : Nat} (h : insB (cl x) = false) : (FloatKind.f64.format.order x 0 == some .gt) = false ∨ ((FloatKind.f64.format.order x 0 == some .gt) = true ∧ (FloatKind.f64.format.order x 4607182418800017408 == some .lt) = false) := by
  rw [ins_eq] at h
  cases h1 : (FloatKind.f64.format.order x 0 == some .gt)
  · exact .inl rfl
  · rw [h1] at h
    exact .inr ⟨rfl, by simpa using h⟩

set_option maxHeartbeats 4000000 in
set_option maxRecDepth 100000 in
theorem rsmooth_any (a : Option Addr) (c : Nat) (xs : List Nat) (sf tf : Nat) (w : World) (hf : Fm w a xs) (hw : Wd xs) (hl : xs.length ≤ 9223372036854775807) :
    Calls Tryz.prog 43 #[.slice a xs.length c, .float .f64 sf, .float .f64 tf] w (RF w (smoF (cl sf) (cl tf) xs)) := by
  have ha := @run_fadd Tryz.prog
  have hs := @run_fsub Tryz.prog
  have hm := @run_fmul Tryz.prog
  have kN := rnan_any
  have HF : Hid (Fm w a xs) := hf
  have HW : Hid (Wd xs) := hw
  clear hf hw
  by_cases h2 : xs.length < 2
  · have e : smoF (cl sf) (cl tf) xs = none := if_pos h2
    have h2' : (xs.length : Int) < 2 := by omega
    rw [e]
    go_enter Tryz.func43, Tryz.ntmps43
    go_wp2_with fail
    go_fit (kN _)
    rintro r w ⟨rfl, rfl⟩
    go_wp2
    go_ret
    exact ⟨_, 0, rfl, rfl, by decide, cl_theNaN⟩
  have h2' : ¬ (xs.length : Int) < 2 := by omega
  by_cases hs1 : insB (cl sf) = false
  · have e : smoF (cl sf) (cl tf) xs = none := by unfold smoF; rw [if_neg h2, if_pos hs1]
    rw [e]
    rcases ins_false hs1 with A1 | ⟨A1, A2⟩
    · go_enter Tryz.func43, Tryz.ntmps43
      go_wp2_with fail
      go_fit (kN _)
      rintro r w ⟨rfl, rfl⟩
      go_wp2
      go_ret
      exact ⟨_, 0, rfl, rfl, by decide, cl_theNaN⟩
    · go_enter Tryz.func43, Tryz.ntmps43
      go_wp2_with fail
      go_fit (kN _)
      rintro r w ⟨rfl, rfl⟩
      go_wp2
      go_ret
      exact ⟨_, 0, rfl, rfl, by decide, cl_theNaN⟩
  obtain ⟨A1, A2⟩ := ins_true (show insB (cl sf) = true by simpa using hs1)
  by_cases ht1 : insB (cl tf) = false
  · have e : smoF (cl sf) (cl tf) xs = none := by unfold smoF; rw [if_neg h2, if_neg hs1, if_pos ht1]
    rw [e]
    rcases ins_false ht1 with B1 | ⟨B1, B2⟩
    · go_enter Tryz.func43, Tryz.ntmps43
      go_wp2_with fail
      go_fit (kN _)
      rintro r w ⟨rfl, rfl⟩
      go_wp2
      go_ret
      exact ⟨_, 0, rfl, rfl, by decide, cl_theNaN⟩
    · go_enter Tryz.func43, Tryz.ntmps43
      go_wp2_with fail
      go_fit (kN _)
      rintro r w ⟨rfl, rfl⟩
      go_wp2
      go_ret
      exact ⟨_, 0, rfl, rfl, by decide, cl_theNaN⟩
  obtain ⟨B1, B2⟩ := ins_true (show insB (cl tf) = true by simpa using ht1)
  obtain ⟨m, hmm⟩ : ∃ m, m + 1 = xs.length := ⟨xs.length - 1, by omega⟩
  have HM : Hid (m + 1 = xs.length) := hmm
  have e : smoF (cl sf) (cl tf) xs = (smoS (cl sf) (cl tf) (fun i => cl (xs.getD i 0)) m).2.1 := by
    unfold smoF; rw [if_neg h2, if_neg hs1, if_neg ht1]
    rw [show xs.length - 1 = m by omega]
  clear hmm
  obtain ⟨X, hX⟩ : ∃ X : Nat → Option Nat, X = fun i => cl (xs.getD i 0) := ⟨_, rfl⟩
  rw [← hX] at e
  have HX : Hid (X = fun i => cl (xs.getD i 0)) := hX
  clear hX
  rw [e]
  rcases HF.out with h0 | ⟨g, o, rfl, hg, hat⟩
  · rw [h0] at h2; simp at h2
  have hc0 := hat 0 (by omega)
  have hc1 := hat 1 (by omega)
  rw [Nat.add_zero] at hc0
  have HAT : Hid (FAt w g o xs) := hat
  clear hat
  obtain ⟨x0, hx0⟩ : ∃ x, x = xs.getD 0 0 := ⟨_, rfl⟩
  obtain ⟨x1, hx1⟩ : ∃ x, x = xs.getD 1 0 := ⟨_, rfl⟩
  rw [← hx0] at hc0
  rw [← hx1] at hc1
  have HX0 : Hid (x0 = xs.getD 0 0) := hx0
  have HX1 : Hid (x1 = xs.getD 1 0) := hx1
  clear hx0 hx1
  go_enter Tryz.func43, Tryz.ntmps43
  go_wp2_with fail
  refine wp_region_loose (by kernel_rfl) (by kernel_rfl) ?_
  iterate 9 (refine wpLoose_quiet rfl rfl ?_; intro K hK; go_big_quiet_op; go_big_quiet_on)
  refine wpLoose_float .sub (.inr (.inl rfl)) 25 25 _ _ rfl rfl _ _ rfl rfl (by rintro _ k' ⟨n', rfl⟩; first | exact ⟨n' + k', World.drewN_drewN _ _ _⟩ | exact ⟨n' + k', by simp [Nat.add_assoc]⟩) ?_
  intro z hzl hz
  go_simp
  iterate 3 (refine wpLoose_quiet rfl rfl ?_; intro K hK; go_big_quiet_op; go_big_quiet_on)
  refine wpLoose_nil ?_
  intro n
  have H0 : Hid ((cl 0, cl x0, cl z) = smoS (cl sf) (cl tf) X 0) := by
    show _ = _
    rw [hz, HX0.out, HX1.out, cl_lit 0 (by decide), smoS, HX.out]
  have HL0 : Hid (x0 < 18446744073709551616) := by
    show _
    rw [HX0.out]
    exact HW.out 0 (by omega)
  have HNX : Hid (∀ n p s b, (cl p, cl s, cl b) = smoS (cl sf) (cl tf) X n → smoS (cl sf) (cl tf) X (n + 1) =
      (cl s, fb .add (fb .mul (cl sf) (X (n + 1))) (fb .mul (fb .sub one (cl sf)) (fb .add (cl s) (if n = 0 then cl b else fb .add (fb .mul (cl tf) (fb .sub (cl s) (cl p))) (fb .mul (fb .sub one (cl tf)) (cl b))))),
        if n = 0 then cl b else fb .add (fb .mul (cl tf) (fb .sub (cl s) (cl p))) (fb .mul (fb .sub one (cl tf)) (cl b)))) := by
    intro n p s b h
    rw [smoS, ← h]
  clear hz kN e hc0 hc1 A1 A2 B1 B2
  go_wp2
  go_loopw [7, 8, 9, 10] (fun pv sv bv iv w' => ∃ (i p s b k : Nat), iv = .int .i64 ((i + 1 : Nat) : Int) ∧ i + 1 ≤ xs.length ∧ pv = .float .f64 p ∧ sv = .float .f64 s ∧ bv = .float .f64 b ∧ s < 18446744073709551616 ∧
      Hid ((cl p, cl s, cl b) = smoS (cl sf) (cl tf) X i) ∧ w' = w.drewN k) (fun _ _ _ iv _ => xs.length - (RowKit.intOf iv).toNat)
  case atStart => exact ⟨0, 0, x0, z, _, rfl, by omega, rfl, rfl, rfl, HL0, H0, rfl⟩
  case round =>
    obtain ⟨i, p, s, b, k, rfl, hi, rfl, rfl, rfl, hs1, hst, rfl⟩ := hrel
    by_cases hlt : i + 1 < xs.length
    · have hii : (i : Int) + 1 < xs.length := by omega
      have hcell := HAT.out (i + 1) hlt
      have hn := HNX.out i p s b hst.out
      have HI : Hid (i + 1 + 1 ≤ xs.length) := hlt
      obtain ⟨v, hv⟩ : ∃ v, v = xs.getD (i + 1) 0 := ⟨_, rfl⟩
      have hXv : X (i + 1) = cl v := by rw [HX.out, hv]
      rw [hXv] at hn
      rw [← hv] at hcell
      have HN : Hid _ := hn
      clear hn hv hst hXv
      by_cases hi0 : i = 0
      · subst hi0
        rw [Nat.zero_add] at hcell
        go_wp2
        refine ⟨⟨1, _, _, _, _, by go_num, HI, rfl, rfl, rfl, fz_lt _ _ _ _, ?_, rfl⟩, by simp [RowKit.intOf]; omega⟩
        show _ = _
        rw [HN.out]
        simp only [if_true, cl_fz]
        rw [cl_lit 4607182418800017408 (by decide)]
      · have hi1 : (1 : Int) < (i : Int) + 1 := by omega
        go_wp2
        refine ⟨⟨i + 1, _, _, _, _, by go_num, HI, rfl, rfl, rfl, fz_lt _ _ _ _, ?_, rfl⟩, by simp [RowKit.intOf]; omega⟩
        show _ = _
        rw [HN.out, if_neg hi0]
        simp only [cl_fz]
        rw [cl_lit 4607182418800017408 (by decide)]
    · have hii : ¬ (i : Int) + 1 < xs.length := by omega
      have HIM : Hid (i = m) := by
        have := HM.out
        show i = m
        omega
      go_wp2
      go_ret
      refine ⟨_, _, rfl, rfl, hs1, ?_⟩
      rw [← HIM.out, ← hst.out]
set_option maxHeartbeats 400000 in
theorem bad_any (x : Nat) (w : World) : Calls Tryz.prog 92 #[.float .f64 x] w fun r w' => r = .returned (.bool (nanB x)) ∧ w' = w := by
  have e := fo_self x
  cases h : nanB x
  · rw [h, if_neg (by decide)] at e
    go_enter Tryz.func92, Tryz.ntmps92
    go_wp2
    go_ret
    exact ⟨rfl, rfl⟩
  · rw [h, if_pos rfl] at e
    go_enter Tryz.func92, Tryz.ntmps92
    go_wp2
    go_ret
    exact ⟨rfl, rfl⟩
set_option maxHeartbeats 400000 in
theorem rinf1_any (w : World) : Calls Tryz.prog 93 #[.int .i64 1] w fun r w' => r = .returned (.float .f64 9218868437227405312) ∧ w' = w := by
  have k1 := inf1_any
  go_enter Tryz.func93, Tryz.ntmps93
  go_wp2_with fail
  go_fit (k1 _)
  rintro r w ⟨rfl, rfl⟩
  go_wp2
  go_ret
  exact ⟨rfl, rfl⟩
set_option maxHeartbeats 400000 in
theorem rinfm_any (w : World) : Calls Tryz.prog 93 #[.int .i64 (-1)] w fun r w' => r = .returned (.float .f64 18442240474082181120) ∧ w' = w := by
  have k1 := infm_any
  go_enter Tryz.func93, Tryz.ntmps93
  go_wp2_with fail
  go_fit (k1 _)
  rintro r w ⟨rfl, rfl⟩
  go_wp2
  go_ret
  exact ⟨rfl, rfl⟩
end Go.Proofs.YtmjenemjbpimcabGreat
