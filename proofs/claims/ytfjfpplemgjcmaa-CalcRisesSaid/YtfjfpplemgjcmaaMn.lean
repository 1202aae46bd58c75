/- Mean on both sides: the walks. -/
import Derived.Test.YtfjfpplemgjcmaaMe
namespace Go.Proofs.Ytfjfpplemgjcmaa
open Go.RowKit

theorem mean0 {xs : List Nat} (h : xs.length = 0) : meanF xs = none := if_pos h
theorem mean1 {xs : List Nat} (h : ¬ xs.length = 0) (h1 : infB (sumF (cs xs)) = false) : meanF xs = fb .quo (sumF (cs xs)) (some (nW xs.length)) := by
  unfold meanF; rw [if_neg h, if_neg (by rw [h1]; decide)]
theorem mean2 {xs : List Nat} (h : ¬ xs.length = 0) (h1 : infB (sumF (cs xs)) = true) (h2 : anyI xs xs.length = true) : meanF xs = fb .quo (sumF (cs xs)) (some (nW xs.length)) := by
  unfold meanF; rw [if_neg h, if_pos h1, if_pos h2]
theorem mean3 {xs : List Nat} (h : ¬ xs.length = 0) (h1 : infB (sumF (cs xs)) = true) (h2 : anyI xs xs.length = false) : meanF xs = sumF ((List.range xs.length).map (ptF xs (some (nW xs.length)))) := by
  unfold meanF; rw [if_neg h, if_pos h1, if_neg (by rw [h2]; decide)]

set_option maxHeartbeats 2000000 in
set_option maxRecDepth 100000 in
theorem mean_any (a : Option Addr) (c : Nat) (xs : List Nat) (w : World) (hf : Fm w a xs) (hw : Wd xs) (hl : 8 * xs.length ≤ 140737488355328) :
    Calls Try.prog 13 #[.slice a xs.length c] w (RB w (meanF xs)) := by
  have hq := @run_fquo Try.prog
  have hcv := cvn xs.length
  have kN := nan_any w
  have kS := sum_any a c xs w hf hw (by omega)
  have kC := fun k => contains_any a c xs (w.drewN k) (hf.drew k) hw (by omega)
  have kP := fun k => parted_any a c xs (nW xs.length) (w.drewN k) (hf.drew k) hl
  have hb0 := Below.refl w.heap.size w
  have HF : Hid (Fm w a xs) := hf
  have HW : Hid (Wd xs) := hw
  clear hf hw
  by_cases h0 : xs.length = 0
  · have HM : Hid (meanF xs = none) := mean0 h0
    have h0' : (xs.length : Int) = 0 := by omega
    go_enter Try.func13, Try.ntmps13
    go_wp2_with fail
    go_fit kN
    rintro r w ⟨rfl, rfl⟩
    go_wp2
    go_ret
    exact ⟨_, rfl, hb0, by decide, by rw [HM.out]; exact cl_theNaN⟩
  · have h0' : ¬ (xs.length : Int) = 0 := by omega
    have M1 : Hid (infB (sumF (cs xs)) = false → meanF xs = fb .quo (sumF (cs xs)) (some (nW xs.length))) := mean1 h0
    have M2 : Hid (infB (sumF (cs xs)) = true → anyI xs xs.length = true → meanF xs = fb .quo (sumF (cs xs)) (some (nW xs.length))) := mean2 h0
    have M3 : Hid (infB (sumF (cs xs)) = true → anyI xs xs.length = false → meanF xs = sumF ((List.range xs.length).map (ptF xs (some (nW xs.length))))) := mean3 h0
    go_enter Try.func13, Try.ntmps13
    go_wp2_with fail
    go_fit kS
    rintro r w1 ⟨z, k, rfl, rfl, hz, hcz⟩
    have kI := fun w => isInf_any z hz w
    have HC : Hid (cl z = sumF (cs xs)) := hcz
    clear hcz
    go_wp2_with fail
    go_fit (kI _)
    rintro r w2 ⟨rfl, rfl⟩
    cases hinf : infB (cl z)
    · go_wp2
      go_ret
      exact ⟨_, rfl, below_drewN hb0 _, fz_lt _ _ _ _, by rw [cl_fz, M1.out (by rw [← HC.out]; exact hinf), HC.out, nW_num]⟩
    · go_wp2_with fail
      go_fit (kC k)
      rintro r w3 ⟨rfl, rfl⟩
      cases hany : anyI xs xs.length
      · go_wp2_with fail
        go_fit (kP k)
        rintro r w4 ⟨v, ys, rfl, o, hyl, hls, hb⟩
        rw [← hyl] at hls
        obtain ⟨a2, c2, rfl, hf2⟩ := o.fm
        have kS2 := sum_any a2 c2 ys w4 hf2 hls.wd (by omega)
        have HB : Hid (Below w.heap.size w w4) := (below_drewN hb0 k).trans hb
        have HE : Hid (sumF (cs ys) = meanF xs) := by
          show _ = _
          rw [M3.out (by rw [← HC.out]; exact hinf) hany, hls.cs, hyl, nW_num]
        clear o hb hls hf2 kS kC kP hyl
        go_wp2_with fail
        go_fit kS2
        rintro r w5 ⟨z2, k2, rfl, rfl, hz2, hcz2⟩
        have HZ : Hid (cl z2 = meanF xs) := hcz2.trans HE.out
        clear hcz2
        go_wp2
        go_ret
        exact ⟨_, rfl, below_drewN HB.out _, hz2, HZ.out⟩
      · go_wp2
        go_ret
        exact ⟨_, rfl, below_drewN hb0 _, fz_lt _ _ _ _, by rw [cl_fz, M2.out (by rw [← HC.out]; exact hinf) hany, HC.out, nW_num]⟩

set_option maxHeartbeats 4000000 in
set_option maxRecDepth 100000 in
theorem rmean_any (a : Option Addr) (c : Nat) (xs : List Nat) (w : World) (hf : Fm w a xs) (hw : Wd xs) (hl : 8 * xs.length ≤ 140737488355328) :
    Calls Try.prog 21 #[.slice a xs.length c] w (RB w (meanF xs)) := by
  have hq := @run_fquo Try.prog
  have hcv := cvn xs.length
  have kN := rnan_any w
  have kS := rsum_any a c xs w hf hw (by omega)
  have hb0 := Below.refl w.heap.size w
  have HF : Hid (Fm w a xs) := hf
  have HW : Hid (Wd xs) := hw
  clear hf hw
  by_cases h0 : xs.length = 0
  · have HM : Hid (meanF xs = none) := mean0 h0
    have h0' : (xs.length : Int) = 0 := by omega
    go_enter Try.func21, Try.ntmps21
    go_wp2_with fail
    go_fit kN
    rintro r w ⟨rfl, rfl⟩
    go_wp2
    go_ret
    exact ⟨_, rfl, hb0, by decide, by rw [HM.out]; exact cl_theNaN⟩
  · have h0' : ¬ (xs.length : Int) = 0 := by omega
    have M1 : Hid (infB (sumF (cs xs)) = false → meanF xs = fb .quo (sumF (cs xs)) (some (nW xs.length))) := mean1 h0
    have M2 : Hid (infB (sumF (cs xs)) = true → anyI xs xs.length = true → meanF xs = fb .quo (sumF (cs xs)) (some (nW xs.length))) := mean2 h0
    have M3 : Hid (infB (sumF (cs xs)) = true → anyI xs xs.length = false → meanF xs = sumF ((List.range xs.length).map (ptF xs (some (nW xs.length))))) := mean3 h0
    have HP : Hid (∀ j, ptF xs (some (nW xs.length)) j = fb .quo (cl (xs.getD j 0)) (some (nW xs.length))) := fun j => rfl
    have HS : Hid (∀ i, anyI xs (i + 1) = (anyI xs i || infB (cl (xs.getD i 0)))) := anyI_succ xs
    have A0 : Hid (anyI xs 0 = false) := (rfl : anyI xs 0 = false)
    generalize ptF xs (some (nW xs.length)) = F at *
    obtain ⟨G, hG⟩ : ∃ G, G = w.heap.size := ⟨_, rfl⟩
    have HG : Hid (G = w.heap.size) := hG
    rw [← hG] at hb0
    clear hG
    go_enter Try.func21, Try.ntmps21
    go_wp2_with fail
    go_fit kS
    rintro r w1 ⟨z, k, rfl, rfl, hz, hcz⟩
    have kI := fun w => endless_any z hz w
    have HC : Hid (cl z = sumF (cs xs)) := hcz
    have hb1 := below_drewN hb0 k
    clear hcz
    go_wp2
    go_loopw [5, 6, 7] (fun fv pv iv w' => ∃ (i : Nat) (ys : List Nat) (A : Option Addr) (C : Nat), iv = .int .i64 (i : Int) ∧ i ≤ xs.length ∧ fv = .bool (!anyI xs i) ∧ pv = .slice A i C ∧ Hid (ys.length = i) ∧ Hid (Fr w' G (.slice A i C) ys) ∧ Hid (Ls ys i F) ∧ Below G w w') (fun _ _ iv _ => xs.length - (RowKit.intOf iv).toNat)
    case atStart => exact ⟨0, [], none, 0, rfl, by omega, by rw [A0.out]; rfl, rfl, rfl, Fr.nil _ _, Ls.nil _ _, hb1⟩
    case round =>
      obtain ⟨i, ys, A, C, rfl, hi, rfl, rfl, hyl, o, hls, hb⟩ := hrel
      by_cases hlt : i < xs.length
      · have hii : (i : Int) < xs.length := by omega
        rcases HF.out with h0 | ⟨g, o', rfl, hg, hat⟩
        · rw [h0] at hlt; simp at hlt
        have hcell := (hb.cell (p := ⟨g, o' + i, none⟩) (by rw [HG.out]; exact hg)).trans (hat i hlt)
        have HI : Hid (i + 1 ≤ xs.length) := hlt
        have hv := HW.out i hlt
        have hfi := HP.out i
        have hsi := HS.out i
        clear hat
        generalize xs.getD i 0 = v at *
        have hGw : G ≤ wr.heap.size := by rw [HG.out]; exact hb.size
        obtain ⟨v', w', r1, o2, b2⟩ := append_f (wr.drewN (fk .quo v (nW xs.length))) G (.slice A i C) ys (fz .quo v (nW xs.length) wr) hGw (by have := hyl.out; omega) (o.out.drew _)
        have hl2 : Ls (ys ++ [fz .quo v (nW xs.length) wr]) (i + 1) F := by
          have := hls.out
          rw [← hyl.out] at this ⊢
          exact this.push _ (by rw [cl_fz, hyl.out, hfi, nW_num]) (fz_lt _ _ _ _)
        have Y2 : Hid ((ys ++ [fz .quo v (nW xs.length) wr]).length = i + 1) := by show _ = _; rw [List.length_append, hyl.out]; rfl
        obtain ⟨A2, C2, rfl, _⟩ := o2.fm
        rw [Y2.out] at o2 r1
        have O2 : Hid _ := o2
        have L2 : Hid _ := hl2
        have HB2 : Hid (Below G w w') := (below_drewN hb _).trans b2
        have SI : Hid _ := hsi
        have kE := fun w => endless_any v hv w
        clear o2 hl2 b2 hsi hfi
        cases hany : anyI xs i
        · have SI2 : Hid (anyI xs (i + 1) = infB (cl v)) := by show _ = _; rw [SI.out, hany]; rfl
          go_wp2_with fail
          go_fit (kE _)
          rintro r w2 ⟨rfl, rfl⟩
          rw [← SI2.out]
          go_wp2_with (at_builtin; refine wpList_append_run rfl (.tmp 32) (.tmp 39) 22 22 rfl _ _ rfl rfl r1 ?_)
          exact ⟨⟨i + 1, _, A2, C2, by go_num, HI, rfl, rfl, Y2, O2, L2, HB2.out⟩, by simp [RowKit.intOf]; omega⟩
        · have SI2 : Hid (anyI xs (i + 1) = true) := by show _ = _; rw [SI.out, hany]; rfl
          go_wp2_with (at_builtin; refine wpList_append_run rfl (.tmp 32) (.tmp 39) 22 22 rfl _ _ rfl rfl r1 ?_)
          exact ⟨⟨i + 1, _, A2, C2, by go_num, HI, by rw [SI2.out]; rfl, rfl, Y2, O2, L2, HB2.out⟩, by simp [RowKit.intOf]; omega⟩
      · have hii : ¬ (i : Int) < xs.length := by omega
        obtain rfl : i = xs.length := by omega
        obtain ⟨a2, c2, e2, hf2⟩ := o.out.fm
        rw [hyl.out] at e2
        cases e2
        have kS2 := fun k => rsum_any A C ys (wr.drewN k) (hf2.drew k) (by have := hls.out; rw [← hyl.out] at this; exact this.wd) (by have := hyl.out; omega)
        rw [hyl.out] at kS2
        have HE : Hid (sumF (cs ys) = sumF ((List.range xs.length).map F)) := by
          have := hls.out
          rw [← hyl.out] at this ⊢
          show _ = _
          rw [this.cs]
        clear hf2
        cases hinf : infB (cl z)
        · go_wp2_with fail
          go_fit (kI _)
          rintro r w2 ⟨rfl, rfl⟩
          rw [hinf]
          go_wp2
          go_ret
          exact ⟨_, rfl, by rw [← HG.out]; exact below_drewN hb _, fz_lt _ _ _ _, by rw [cl_fz, M1.out (by rw [← HC.out]; exact hinf), HC.out, nW_num]⟩
        · cases hany : anyI xs xs.length
          · go_wp2_with fail
            go_fit (kI _)
            rintro r w2 ⟨rfl, rfl⟩
            rw [hinf]
            go_wp2_with fail
            go_fit (kS2 0)
            rintro r w3 ⟨z2, k2, rfl, rfl, hz2, hcz2⟩
            have HZ : Hid (cl z2 = meanF xs) := by
              show _ = _
              rw [M3.out (by rw [← HC.out]; exact hinf) hany, hcz2, HE.out]
            clear hcz2
            go_wp2
            go_ret
            exact ⟨_, rfl, by rw [← HG.out]; exact below_drewN hb _, hz2, HZ.out⟩
          · go_wp2_with fail
            go_fit (kI _)
            rintro r w2 ⟨rfl, rfl⟩
            rw [hinf]
            go_wp2
            go_ret
            exact ⟨_, rfl, by rw [← HG.out]; exact below_drewN hb _, fz_lt _ _ _ _, by rw [cl_fz, M2.out (by rw [← HC.out]; exact hinf) hany, HC.out, nW_num]⟩
end Go.Proofs.Ytfjfpplemgjcmaa
