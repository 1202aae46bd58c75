/- Smooth on both sides. -/
import Derived.Test.YtfjfpplemgjcmabSu
namespace Go.Proofs.Ytfjfpplemgjcmab
open Go.RowKit

abbrev one : Option Nat := some 4607182418800017408
/-- Smooth's state behind n + 1 numbers: p, s, b. -/
def smoS (sf tf : Option Nat) (X : Nat → Option Nat) : Nat → Option Nat × Option Nat × Option Nat
  | 0 => (some 0, X 0, fb .sub (X 1) (X 0))
  | n + 1 =>
    let st := smoS sf tf X n
    let b := if n = 0 then st.2.2 else fb .add (fb .mul tf (fb .sub st.2.1 st.1)) (fb .mul (fb .sub one tf) st.2.2)
    (st.2.1, fb .add (fb .mul sf (X (n + 1))) (fb .mul (fb .sub one sf) (fb .add st.2.1 b)), b)
def smoF (sf tf : Option Nat) (xs : List Nat) : Option Nat :=
  if xs.length < 2 then none else if insB sf = false then none else if insB tf = false then none else (smoS sf tf (fun i => cl (xs.getD i 0)) (xs.length - 1)).2.1

set_option maxHeartbeats 4000000 in
set_option maxRecDepth 100000 in
theorem smooth_any (a : Option Addr) (c : Nat) (xs : List Nat) (sf tf : Nat) (w : World) (hf : Fm w a xs) (hw : Wd xs) (hl : xs.length ≤ 9223372036854775807) :
    Calls Try.prog 26 #[.slice a xs.length c, .float .f64 sf, .float .f64 tf] w (RF w (smoF (cl sf) (cl tf) xs)) := by
  have ha := @run_fadd Try.prog
  have hs := @run_fsub Try.prog
  have hm := @run_fmul Try.prog
  have kN := nan_any
  have k1 := inside_any sf
  have k2 := inside_any tf
  have HF : Hid (Fm w a xs) := hf
  have HW : Hid (Wd xs) := hw
  clear hf hw
  by_cases h2 : xs.length < 2
  · have e : smoF (cl sf) (cl tf) xs = none := if_pos h2
    have h2' : (xs.length : Int) < 2 := by omega
    rw [e]
    go_enter Try.func26, Try.ntmps26
    go_wp2_with fail
    go_fit (kN _)
    rintro r w ⟨rfl, rfl⟩
    go_wp2
    go_ret
    exact ⟨_, 0, rfl, rfl, by decide, cl_theNaN⟩
  have h2' : ¬ (xs.length : Int) < 2 := by omega
  by_cases hs1 : insB (cl sf) = false
  · have e : smoF (cl sf) (cl tf) xs = none := by unfold smoF; rw [if_neg h2, if_pos hs1]
    rw [e]
    go_enter Try.func26, Try.ntmps26
    go_wp2_with fail
    go_fit (k1 _)
    rintro r w ⟨rfl, rfl⟩
    rw [hs1]
    go_wp2_with fail
    go_fit (kN _)
    rintro r w ⟨rfl, rfl⟩
    go_wp2
    go_ret
    exact ⟨_, 0, rfl, rfl, by decide, cl_theNaN⟩
  have hs1' : insB (cl sf) = true := by simpa using hs1
  by_cases ht1 : insB (cl tf) = false
  · have e : smoF (cl sf) (cl tf) xs = none := by unfold smoF; rw [if_neg h2, if_neg hs1, if_pos ht1]
    rw [e]
    go_enter Try.func26, Try.ntmps26
    go_wp2_with fail
    go_fit (k1 _)
    rintro r w ⟨rfl, rfl⟩
    rw [hs1']
    go_wp2_with fail
    go_fit (k2 _)
    rintro r w ⟨rfl, rfl⟩
    rw [ht1]
    go_wp2_with fail
    go_fit (kN _)
    rintro r w ⟨rfl, rfl⟩
    go_wp2
    go_ret
    exact ⟨_, 0, rfl, rfl, by decide, cl_theNaN⟩
  have ht1' : insB (cl tf) = true := by simpa using ht1
  obtain ⟨m, hmm⟩ : ∃ m, m + 1 = xs.length := ⟨xs.length - 1, by omega⟩
  have HM : Hid (m + 1 = xs.length) := hmm
  have e : smoF (cl sf) (cl tf) xs = (smoS (cl sf) (cl tf) (fun i => cl (xs.getD i 0)) m).2.1 := by
    unfold smoF; rw [if_neg h2, if_neg hs1, if_neg ht1]
    rw [show xs.length - 1 = m by omega]
  clear hmm
  obtain ⟨X, hX⟩ : ∃ X : Nat → Option Nat, X = fun i => cl (xs.getD i 0) := ⟨_, rfl⟩
  rw [← hX] at e
  have HX : Hid (X = fun i => cl (xs.getD i 0)) := hX
  clear hX
  rw [e]
  rcases HF.out with h0 | ⟨g, o, rfl, hg, hat⟩
  · rw [h0] at h2; simp at h2
  have hc0 := hat 0 (by omega)
  have hc1 := hat 1 (by omega)
  rw [Nat.add_zero] at hc0
  have HAT : Hid (FAt w g o xs) := hat
  clear hat
  obtain ⟨x0, hx0⟩ : ∃ x, x = xs.getD 0 0 := ⟨_, rfl⟩
  obtain ⟨x1, hx1⟩ : ∃ x, x = xs.getD 1 0 := ⟨_, rfl⟩
  rw [← hx0] at hc0
  rw [← hx1] at hc1
  have HX0 : Hid (x0 = xs.getD 0 0) := hx0
  have HX1 : Hid (x1 = xs.getD 1 0) := hx1
  clear hx0 hx1
  go_enter Try.func26, Try.ntmps26
  go_wp2_with fail
  go_fit (k1 _)
  rintro r w ⟨rfl, rfl⟩
  rw [hs1']
  go_wp2_with fail
  go_fit (k2 _)
  rintro r w ⟨rfl, rfl⟩
  rw [ht1']
  go_wp2_with fail
  refine wp_region_loose (by kernel_rfl) (by kernel_rfl) ?_
  iterate 9 (refine wpLoose_quiet rfl rfl ?_; intro K hK; go_big_quiet_op; go_big_quiet_on)
  refine wpLoose_float .sub (.inr (.inl rfl)) 23 23 _ _ rfl rfl _ _ rfl rfl (by rintro _ k' ⟨n', rfl⟩; first | exact ⟨n' + k', World.drewN_drewN _ _ _⟩ | exact ⟨n' + k', by simp [Nat.add_assoc]⟩) ?_
  intro z hzl hz
  go_simp
  iterate 3 (refine wpLoose_quiet rfl rfl ?_; intro K hK; go_big_quiet_op; go_big_quiet_on)
  refine wpLoose_nil ?_
  intro n
  have H0 : Hid ((cl 0, cl x0, cl z) = smoS (cl sf) (cl tf) X 0) := by
    show _ = _
    rw [hz, HX0.out, HX1.out, cl_lit 0 (by decide), smoS, HX.out]
  have HL0 : Hid (x0 < 18446744073709551616) := by
    show _
    rw [HX0.out]
    exact HW.out 0 (by omega)
  have HNX : Hid (∀ n p s b, (cl p, cl s, cl b) = smoS (cl sf) (cl tf) X n → smoS (cl sf) (cl tf) X (n + 1) =
      (cl s, fb .add (fb .mul (cl sf) (X (n + 1))) (fb .mul (fb .sub one (cl sf)) (fb .add (cl s) (if n = 0 then cl b else fb .add (fb .mul (cl tf) (fb .sub (cl s) (cl p))) (fb .mul (fb .sub one (cl tf)) (cl b))))),
        if n = 0 then cl b else fb .add (fb .mul (cl tf) (fb .sub (cl s) (cl p))) (fb .mul (fb .sub one (cl tf)) (cl b)))) := by
    intro n p s b h
    rw [smoS, ← h]
  clear hz kN k1 k2 e hc0 hc1
  go_wp2
  go_loopw [7, 8, 9, 10] (fun pv sv bv iv w' => ∃ (i p s b k : Nat), iv = .int .i64 ((i + 1 : Nat) : Int) ∧ i + 1 ≤ xs.length ∧ pv = .float .f64 p ∧ sv = .float .f64 s ∧ bv = .float .f64 b ∧ s < 18446744073709551616 ∧
      Hid ((cl p, cl s, cl b) = smoS (cl sf) (cl tf) X i) ∧ w' = w.drewN k) (fun _ _ _ iv _ => xs.length - (RowKit.intOf iv).toNat)
  case atStart => exact ⟨0, 0, x0, z, _, rfl, by omega, rfl, rfl, rfl, HL0, H0, rfl⟩
  case round =>
    obtain ⟨i, p, s, b, k, rfl, hi, rfl, rfl, rfl, hs1, hst, rfl⟩ := hrel
    by_cases hlt : i + 1 < xs.length
    · have hii : (i : Int) + 1 < xs.length := by omega
      have hcell := HAT.out (i + 1) hlt
      have hn := HNX.out i p s b hst.out
      have HI : Hid (i + 1 + 1 ≤ xs.length) := hlt
      obtain ⟨v, hv⟩ : ∃ v, v = xs.getD (i + 1) 0 := ⟨_, rfl⟩
      have hXv : X (i + 1) = cl v := by rw [HX.out, hv]
      rw [hXv] at hn
      rw [← hv] at hcell
      have HN : Hid _ := hn
      clear hn hv hst hXv
      by_cases hi0 : i = 0
      · subst hi0
        rw [Nat.zero_add] at hcell
        go_wp2_with fail
        refine wp_region_loose (by kernel_rfl) (by kernel_rfl) ?_
        iterate 6 (refine wpLoose_quiet rfl rfl ?_; intro K hK; go_big_quiet_op; go_big_quiet_on)
        refine wpLoose_float .mul (.inr (.inr (.inl rfl))) 23 23 _ _ rfl rfl _ _ rfl rfl (by rintro _ k' ⟨n', rfl⟩; first | exact ⟨n' + k', World.drewN_drewN _ _ _⟩ | exact ⟨n' + k', by simp [Nat.add_assoc]⟩) ?_
        intro z1 h1l h1
        go_simp
        iterate 1 (refine wpLoose_quiet rfl rfl ?_; intro K hK; go_big_quiet_op; go_big_quiet_on)
        refine wpLoose_float .sub (.inr (.inl rfl)) 23 23 _ _ rfl rfl _ _ rfl rfl (by rintro _ k' ⟨n', rfl⟩; first | exact ⟨n' + k', World.drewN_drewN _ _ _⟩ | exact ⟨n' + k', by simp [Nat.add_assoc]⟩) ?_
        intro z2 h2l h2
        go_simp
        iterate 2 (refine wpLoose_quiet rfl rfl ?_; intro K hK; go_big_quiet_op; go_big_quiet_on)
        refine wpLoose_float .add (.inl rfl) 23 23 _ _ rfl rfl _ _ rfl rfl (by rintro _ k' ⟨n', rfl⟩; first | exact ⟨n' + k', World.drewN_drewN _ _ _⟩ | exact ⟨n' + k', by simp [Nat.add_assoc]⟩) ?_
        intro z3 h3l h3
        go_simp
        refine wpLoose_float .mul (.inr (.inr (.inl rfl))) 23 23 _ _ rfl rfl _ _ rfl rfl (by rintro _ k' ⟨n', rfl⟩; first | exact ⟨n' + k', World.drewN_drewN _ _ _⟩ | exact ⟨n' + k', by simp [Nat.add_assoc]⟩) ?_
        intro z4 h4l h4
        go_simp
        refine wpLoose_float .add (.inl rfl) 23 23 _ _ rfl rfl _ _ rfl rfl (by rintro _ k' ⟨n', rfl⟩; first | exact ⟨n' + k', World.drewN_drewN _ _ _⟩ | exact ⟨n' + k', by simp [Nat.add_assoc]⟩) ?_
        intro z5 h5l h5
        go_simp
        iterate 2 (refine wpLoose_quiet rfl rfl ?_; intro K hK; go_big_quiet_op; go_big_quiet_on)
        refine wpLoose_nil ?_
        intro n2
        go_wp2
        refine ⟨⟨1, _, _, _, _, by go_num, HI, rfl, rfl, rfl, h5l, ?_, rfl⟩, by simp [RowKit.intOf]; omega⟩
        show _ = _
        rw [HN.out]
        simp only [if_true]
        rw [h5, h4, h3, h2, h1, cl_lit 4607182418800017408 (by decide)]
      · have hi1 : (1 : Int) < (i : Int) + 1 := by omega
        go_wp2_with fail
        refine wp_region_loose (by kernel_rfl) (by kernel_rfl) ?_
        iterate 6 (refine wpLoose_quiet rfl rfl ?_; intro K hK; go_big_quiet_op; go_big_quiet_on)
        refine wpLoose_float .mul (.inr (.inr (.inl rfl))) 23 23 _ _ rfl rfl _ _ rfl rfl (by rintro _ k' ⟨n', rfl⟩; first | exact ⟨n' + k', World.drewN_drewN _ _ _⟩ | exact ⟨n' + k', by simp [Nat.add_assoc]⟩) ?_
        intro z1 h1l h1
        go_simp
        iterate 1 (refine wpLoose_quiet rfl rfl ?_; intro K hK; go_big_quiet_op; go_big_quiet_on)
        refine wpLoose_float .sub (.inr (.inl rfl)) 23 23 _ _ rfl rfl _ _ rfl rfl (by rintro _ k' ⟨n', rfl⟩; first | exact ⟨n' + k', World.drewN_drewN _ _ _⟩ | exact ⟨n' + k', by simp [Nat.add_assoc]⟩) ?_
        intro z2 h2l h2
        go_simp
        iterate 2 (refine wpLoose_quiet rfl rfl ?_; intro K hK; go_big_quiet_op; go_big_quiet_on)
        refine wpLoose_float .add (.inl rfl) 23 23 _ _ rfl rfl _ _ rfl rfl (by rintro _ k' ⟨n', rfl⟩; first | exact ⟨n' + k', World.drewN_drewN _ _ _⟩ | exact ⟨n' + k', by simp [Nat.add_assoc]⟩) ?_
        intro z3 h3l h3
        go_simp
        refine wpLoose_float .mul (.inr (.inr (.inl rfl))) 23 23 _ _ rfl rfl _ _ rfl rfl (by rintro _ k' ⟨n', rfl⟩; first | exact ⟨n' + k', World.drewN_drewN _ _ _⟩ | exact ⟨n' + k', by simp [Nat.add_assoc]⟩) ?_
        intro z4 h4l h4
        go_simp
        refine wpLoose_float .add (.inl rfl) 23 23 _ _ rfl rfl _ _ rfl rfl (by rintro _ k' ⟨n', rfl⟩; first | exact ⟨n' + k', World.drewN_drewN _ _ _⟩ | exact ⟨n' + k', by simp [Nat.add_assoc]⟩) ?_
        intro z5 h5l h5
        go_simp
        iterate 2 (refine wpLoose_quiet rfl rfl ?_; intro K hK; go_big_quiet_op; go_big_quiet_on)
        refine wpLoose_nil ?_
        intro n2
        go_wp2
        refine ⟨⟨i + 1, _, _, _, _, by go_num, HI, rfl, rfl, rfl, h5l, ?_, rfl⟩, by simp [RowKit.intOf]; omega⟩
        show _ = _
        rw [HN.out, if_neg hi0, h5, h4, h3, h2, h1]
        simp only [cl_fz]
        rw [cl_lit 4607182418800017408 (by decide)]
    · have hii : ¬ (i : Int) + 1 < xs.length := by omega
      have HIM : Hid (i = m) := by
        have := HM.out
        show i = m
        omega
      go_wp2
      go_ret
      refine ⟨_, _, rfl, rfl, hs1, ?_⟩
      rw [← HIM.out, ← hst.out]
end Go.Proofs.Ytfjfpplemgjcmab
