/- Variance and Spread on both sides. -/
import Derived.Test.YtfjfpplemgjcmaaMn
namespace Go.Proofs.Ytfjfpplemgjcmaa
open Go.RowKit

/-- The squares. -/
def sqF (xs : List Nat) (m : Option Nat) (j : Nat) : Option Nat := fb .mul (fb .sub (cl (xs.getD j 0)) m) (fb .sub (cl (xs.getD j 0)) m)
def varF (xs : List Nat) : Option Nat := if xs.length = 0 then none else fb .quo (sumF ((List.range xs.length).map (sqF xs (meanF xs)))) (some (nW xs.length))
theorem var0 {xs : List Nat} (h : xs.length = 0) : varF xs = none := if_pos h
theorem var1 {xs : List Nat} (h : ¬ xs.length = 0) : varF xs = fb .quo (sumF ((List.range xs.length).map (sqF xs (meanF xs)))) (some (nW xs.length)) := if_neg h

set_option maxHeartbeats 2000000 in
set_option maxRecDepth 100000 in
theorem variance_any (a : Option Addr) (c : Nat) (xs : List Nat) (w : World) (hf : Fm w a xs) (hw : Wd xs) (hl : 8 * xs.length ≤ 140737488355328) :
    Calls Try.prog 24 #[.slice a xs.length c] w (RB w (varF xs)) := by
  have hq := @run_fquo Try.prog
  have hs := @run_fsub Try.prog
  have hm := @run_fmul Try.prog
  have hsf := @run_store_float Try.prog
  have hcv := cvn xs.length
  have kN := nan_any w
  have kM := mean_any a c xs w hf hw hl
  have hb0 := Below.refl w.heap.size w
  have HF : Hid (Fm w a xs) := hf
  clear hf hw
  by_cases h0 : xs.length = 0
  · have HM : Hid (varF xs = none) := var0 h0
    have h0' : (xs.length : Int) = 0 := by omega
    go_enter Try.func24, Try.ntmps24
    go_wp2_with fail
    go_fit kN
    rintro r w ⟨rfl, rfl⟩
    go_wp2
    go_ret
    exact ⟨_, rfl, hb0, by decide, by rw [HM.out]; exact cl_theNaN⟩
  · have h0' : ¬ (xs.length : Int) = 0 := by omega
    have HV : Hid (varF xs = fb .quo (sumF ((List.range xs.length).map (sqF xs (meanF xs)))) (some (nW xs.length))) := var1 h0
    have HP : Hid (∀ j, sqF xs (meanF xs) j = fb .mul (fb .sub (cl (xs.getD j 0)) (meanF xs)) (fb .sub (cl (xs.getD j 0)) (meanF xs))) := fun j => rfl
    generalize sqF xs (meanF xs) = F at *
    go_enter Try.func24, Try.ntmps24
    go_wp2_with fail
    go_fit kM
    rintro r w0 ⟨m, rfl, hbm, hml, hcm⟩
    obtain ⟨w1, r1, o1, b1⟩ := make_f w0 xs.length (by omega)
    have O1 : Hid (Fr w1 w0.heap.size (.slice (some ⟨w0.heap.size, 0, none⟩) xs.length xs.length) (List.replicate xs.length 0)) := o1
    have HF0 : Hid (Fm w0 a xs) := HF.out.below hbm
    have HCM : Hid (cl m = meanF xs) := hcm
    have HBM : Hid (Below w.heap.size w w0) := hbm
    obtain ⟨G, hG⟩ : ∃ G, G = w0.heap.size := ⟨_, rfl⟩
    have HG : Hid (G = w0.heap.size) := hG
    rw [← hG] at r1 O1 b1
    clear hG o1 hcm hbm kM kN
    go_wp2
    go_loopw [19] (fun iv w' => ∃ (i : Nat) (ys : List Nat), iv = .int .i64 (i : Int) ∧ i ≤ xs.length ∧ Hid (ys.length = xs.length) ∧ Hid (Fr w' G (.slice (some ⟨G, 0, none⟩) xs.length xs.length) ys) ∧ Hid (Ls ys i F) ∧ Below G w0 w') (fun iv _ => xs.length - (RowKit.intOf iv).toNat)
    case atStart => exact ⟨0, _, rfl, by omega, (by simp : _ = _), O1, Ls.nil _ _, b1⟩
    case round =>
      obtain ⟨i, ys, rfl, hi, hyl, o, hls, hb⟩ := hrel
      by_cases hlt : i < xs.length
      · have hii : (i : Int) < xs.length := by omega
        rcases HF0.out with h0 | ⟨g, o', rfl, hg, hat⟩
        · rw [h0] at hlt; simp at hlt
        have hcell := (hb.cell (p := ⟨g, o' + i, none⟩) (by rw [HG.out]; exact hg)).trans (hat i hlt)
        have HI : Hid (i + 1 ≤ xs.length) := hlt
        have hfi := HP.out i
        clear hat
        generalize xs.getD i 0 = v at *
        obtain ⟨d, hd⟩ : ∃ d, d = fz .sub v m wr := ⟨_, rfl⟩
        have hcd : cl d = fb .sub (cl v) (meanF xs) := by rw [hd, cl_fz, HCM.out]
        rw [← hcd] at hfi
        have e1 : ∀ t, (binOp .sub t (.float .f64 v) (.float .f64 m)).run Try.prog wr = .ok (.float .f64 d) (wr.drewN (fk .sub v m)) := fun t => by rw [run_fsub, hd]
        have o2 := o.out
        rw [← hyl.out] at o2
        have hc2 := o2.cell i (by rw [hyl.out]; exact hlt)
        have hf2 := o2.froz i
        have o3 := (o2.drew (fk .sub v m + fk .mul d d)).set i (fz .mul d d (wr.drewN (fk .sub v m)))
        have hl3 := hls.out.set (by rw [hyl.out]; exact hlt) (fz .mul d d (wr.drewN (fk .sub v m))) (by rw [cl_fz, hfi]) (fz_lt _ _ _ _)
        rw [hyl.out] at o3
        have O3 : Hid _ := o3
        have L3 : Hid _ := hl3
        have Y3 : Hid ((ys.set i (fz .mul d d (wr.drewN (fk .sub v m)))).length = xs.length) := by show _ = _; rw [List.length_set, hyl.out]
        have hb3 : Below G w0 ((wr.drewN (fk .sub v m + fk .mul d d)).setCell ⟨G, i, none⟩ (.float .f64 (fz .mul d d (wr.drewN (fk .sub v m))))) := (below_drewN hb _).setCell (p := ⟨G, i, none⟩) (Nat.le_refl _) _
        generalize ys.getD i 0 = old at *
        clear o2 o3 hl3 hfi hd hcd hs
        go_wp2
        exact ⟨⟨i + 1, _, by go_num, HI, Y3, O3, L3, hb3⟩, by simp [RowKit.intOf]; omega⟩
      · have hii : ¬ (i : Int) < xs.length := by omega
        obtain rfl : i = xs.length := by omega
        obtain ⟨a2, c2, e2, hf2⟩ := o.out.fm
        rw [hyl.out] at e2
        cases e2
        have kS2 := sum_any (some ⟨G, 0, none⟩) xs.length ys wr hf2 (by have := hls.out; rw [← hyl.out] at this; exact this.wd) (by have := hyl.out; omega)
        rw [hyl.out] at kS2
        have HE : Hid (sumF (cs ys) = sumF ((List.range xs.length).map F)) := by
          have := hls.out
          rw [← hyl.out] at this ⊢
          show _ = _
          rw [this.cs]
        have HB : Hid (Below w.heap.size w wr) := HBM.out.trans (hb.mono (by rw [HG.out]; exact HBM.out.size))
        clear hf2
        go_wp2_with fail
        go_fit kS2
        rintro r w3 ⟨z2, k2, rfl, rfl, hz2, hcz2⟩
        have HZ : Hid (cl z2 = sumF ((List.range xs.length).map F)) := hcz2.trans HE.out
        clear hcz2
        go_wp2
        go_ret
        exact ⟨_, rfl, below_drewN HB.out _, fz_lt _ _ _ _, by rw [cl_fz, HV.out, HZ.out, nW_num]⟩

set_option maxHeartbeats 2000000 in
set_option maxRecDepth 100000 in
theorem rvariance_any (a : Option Addr) (c : Nat) (xs : List Nat) (w : World) (hf : Fm w a xs) (hw : Wd xs) (hl : 8 * xs.length ≤ 140737488355328) :
    Calls Try.prog 22 #[.slice a xs.length c] w (RB w (varF xs)) := by
  have hq := @run_fquo Try.prog
  have hs := @run_fsub Try.prog
  have hm := @run_fmul Try.prog
  have hcv := cvn xs.length
  have kN := rnan_any w
  have kM := rmean_any a c xs w hf hw hl
  have hb0 := Below.refl w.heap.size w
  have HF : Hid (Fm w a xs) := hf
  clear hf hw
  by_cases h0 : xs.length = 0
  · have HM : Hid (varF xs = none) := var0 h0
    have h0' : (xs.length : Int) = 0 := by omega
    go_enter Try.func22, Try.ntmps22
    go_wp2_with fail
    go_fit kN
    rintro r w ⟨rfl, rfl⟩
    go_wp2
    go_ret
    exact ⟨_, rfl, hb0, by decide, by rw [HM.out]; exact cl_theNaN⟩
  · have h0' : ¬ (xs.length : Int) = 0 := by omega
    have HV : Hid (varF xs = fb .quo (sumF ((List.range xs.length).map (sqF xs (meanF xs)))) (some (nW xs.length))) := var1 h0
    have HP : Hid (∀ j, sqF xs (meanF xs) j = fb .mul (fb .sub (cl (xs.getD j 0)) (meanF xs)) (fb .sub (cl (xs.getD j 0)) (meanF xs))) := fun j => rfl
    generalize sqF xs (meanF xs) = F at *
    go_enter Try.func22, Try.ntmps22
    go_wp2_with fail
    go_fit kM
    rintro r w0 ⟨m, rfl, hbm, hml, hcm⟩
    have HF0 : Hid (Fm w0 a xs) := HF.out.below hbm
    have HCM : Hid (cl m = meanF xs) := hcm
    have HBM : Hid (Below w.heap.size w w0) := hbm
    obtain ⟨G, hG⟩ : ∃ G, G = w0.heap.size := ⟨_, rfl⟩
    have HG : Hid (G = w0.heap.size) := hG
    have b1 : Below G w0 w0 := Below.refl _ _
    clear hG hcm hbm kM kN
    go_wp2
    go_loopw [4, 5] (fun pv iv w' => ∃ (i : Nat) (ys : List Nat) (A : Option Addr) (C : Nat), iv = .int .i64 (i : Int) ∧ i ≤ xs.length ∧ pv = .slice A i C ∧ Hid (ys.length = i) ∧ Hid (Fr w' G (.slice A i C) ys) ∧ Hid (Ls ys i F) ∧ Below G w0 w') (fun _ iv _ => xs.length - (RowKit.intOf iv).toNat)
    case atStart => exact ⟨0, [], none, 0, rfl, by omega, rfl, rfl, Fr.nil _ _, Ls.nil _ _, b1⟩
    case round =>
      obtain ⟨i, ys, A, C, rfl, hi, rfl, hyl, o, hls, hb⟩ := hrel
      by_cases hlt : i < xs.length
      · have hii : (i : Int) < xs.length := by omega
        rcases HF0.out with h0 | ⟨g, o', rfl, hg, hat⟩
        · rw [h0] at hlt; simp at hlt
        have hcell := (hb.cell (p := ⟨g, o' + i, none⟩) (by rw [HG.out]; exact hg)).trans (hat i hlt)
        have HI : Hid (i + 1 ≤ xs.length) := hlt
        have hfi := HP.out i
        clear hat
        generalize xs.getD i 0 = v at *
        obtain ⟨d, hd⟩ : ∃ d, d = fz .sub v m wr := ⟨_, rfl⟩
        have hcd : cl d = fb .sub (cl v) (meanF xs) := by rw [hd, cl_fz, HCM.out]
        rw [← hcd] at hfi
        have e1 : ∀ t, (binOp .sub t (.float .f64 v) (.float .f64 m)).run Try.prog wr = .ok (.float .f64 d) (wr.drewN (fk .sub v m)) := fun t => by rw [run_fsub, hd]
        have hGw : G ≤ wr.heap.size := by rw [HG.out]; exact hb.size
        obtain ⟨v', w', r1, o2, b2⟩ := append_f (wr.drewN (fk .sub v m + fk .mul d d)) G (.slice A i C) ys (fz .mul d d (wr.drewN (fk .sub v m))) hGw (by have := hyl.out; omega) (o.out.drew _)
        have hl2 : Ls (ys ++ [fz .mul d d (wr.drewN (fk .sub v m))]) (i + 1) F := by
          have := hls.out
          rw [← hyl.out] at this ⊢
          exact this.push _ (by rw [cl_fz, hyl.out, hfi]) (fz_lt _ _ _ _)
        have Y2 : Hid ((ys ++ [fz .mul d d (wr.drewN (fk .sub v m))]).length = i + 1) := by show _ = _; rw [List.length_append, hyl.out]; rfl
        obtain ⟨A2, C2, rfl, _⟩ := o2.fm
        rw [Y2.out] at o2 r1
        have O2 : Hid _ := o2
        have L2 : Hid _ := hl2
        have HB2 : Hid (Below G w0 w') := (below_drewN hb _).trans b2
        clear o2 hl2 b2 hfi hd hcd hs
        go_wp2_with (at_builtin; refine wpList_append_run rfl (.tmp 25) (.tmp 29) 22 22 rfl _ _ rfl rfl r1 ?_)
        exact ⟨⟨i + 1, _, A2, C2, by go_num, HI, rfl, Y2, O2, L2, HB2.out⟩, by simp [RowKit.intOf]; omega⟩
      · have hii : ¬ (i : Int) < xs.length := by omega
        obtain rfl : i = xs.length := by omega
        obtain ⟨a2, c2, e2, hf2⟩ := o.out.fm
        rw [hyl.out] at e2
        cases e2
        have kS2 := rsum_any A C ys wr hf2 (by have := hls.out; rw [← hyl.out] at this; exact this.wd) (by have := hyl.out; omega)
        rw [hyl.out] at kS2
        have HE : Hid (sumF (cs ys) = sumF ((List.range xs.length).map F)) := by
          have := hls.out
          rw [← hyl.out] at this ⊢
          show _ = _
          rw [this.cs]
        have HB : Hid (Below w.heap.size w wr) := HBM.out.trans (hb.mono (by rw [HG.out]; exact HBM.out.size))
        clear hf2
        go_wp2_with fail
        go_fit kS2
        rintro r w3 ⟨z2, k2, rfl, rfl, hz2, hcz2⟩
        have HZ : Hid (cl z2 = sumF ((List.range xs.length).map F)) := hcz2.trans HE.out
        clear hcz2
        go_wp2
        go_ret
        exact ⟨_, rfl, below_drewN HB.out _, fz_lt _ _ _ _, by rw [cl_fz, HV.out, HZ.out, nW_num]⟩
end Go.Proofs.Ytfjfpplemgjcmaa
