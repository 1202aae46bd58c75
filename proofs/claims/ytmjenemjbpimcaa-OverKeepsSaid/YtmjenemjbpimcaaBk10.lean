/- A bundle of texts. -/
import Derived.Test.YtmjenemjbpimcaaBk02
import Derived.Test.YtmjenemjbpimcaaBk09
import Derived.Test.YtmjenemjbpimcaaBk03
/- Smooth on both sides. -/
namespace Go.Proofs.Ytmjenemjbpimcaa
open Go.RowKit

abbrev one : Option Nat := some 4607182418800017408
/-- Smooth's state behind n + 1 numbers: p, s, b. -/
def smoS (sf tf : Option Nat) (X : Nat → Option Nat) : Nat → Option Nat × Option Nat × Option Nat
  | 0 => (some 0, X 0, fb .sub (X 1) (X 0))
  | n + 1 =>
    let st := smoS sf tf X n
    let b := if n = 0 then st.2.2 else fb .add (fb .mul tf (fb .sub st.2.1 st.1)) (fb .mul (fb .sub one tf) st.2.2)
    (st.2.1, fb .add (fb .mul sf (X (n + 1))) (fb .mul (fb .sub one sf) (fb .add st.2.1 b)), b)
def smoF (sf tf : Option Nat) (xs : List Nat) : Option Nat :=
  if xs.length < 2 then none else if insB sf = false then none else if insB tf = false then none else (smoS sf tf (fun i => cl (xs.getD i 0)) (xs.length - 1)).2.1

set_option maxHeartbeats 4000000 in
set_option maxRecDepth 100000 in
theorem smooth_any (a : Option Addr) (c : Nat) (xs : List Nat) (sf tf : Nat) (w : World) (hf : Fm w a xs) (hw : Wd xs) (hl : xs.length ≤ 9223372036854775807) :
    Calls Try.prog 65 #[.slice a xs.length c, .float .f64 sf, .float .f64 tf] w (RF w (smoF (cl sf) (cl tf) xs)) := by
  have ha := @run_fadd Try.prog
  have hs := @run_fsub Try.prog
  have hm := @run_fmul Try.prog
  have kN := nan_any
  have k1 := inside_any sf
  have k2 := inside_any tf
  have HF : Hid (Fm w a xs) := hf
  have HW : Hid (Wd xs) := hw
  clear hf hw
  by_cases h2 : xs.length < 2
  · have e : smoF (cl sf) (cl tf) xs = none := if_pos h2
    have h2' : (xs.length : Int) < 2 := by omega
    rw [e]
    go_enter Try.func65, Try.ntmps65
    go_wp2_with fail
    go_fit (kN _)
    rintro r w ⟨rfl, rfl⟩
    go_wp2
    go_ret
    exact ⟨_, 0, rfl, rfl, by decide, cl_theNaN⟩
  have h2' : ¬ (xs.length : Int) < 2 := by omega
  by_cases hs1 : insB (cl sf) = false
  · have e : smoF (cl sf) (cl tf) xs = none := by unfold smoF; rw [if_neg h2, if_pos hs1]
    rw [e]
    go_enter Try.func65, Try.ntmps65
    go_wp2_with fail
    go_fit (k1 _)
    rintro r w ⟨rfl, rfl⟩
    rw [hs1]
    go_wp2_with fail
    go_fit (kN _)
    rintro r w ⟨rfl, rfl⟩
    go_wp2
    go_ret
    exact ⟨_, 0, rfl, rfl, by decide, cl_theNaN⟩
  have hs1' : insB (cl sf) = true := by simpa using hs1
  by_cases ht1 : insB (cl tf) = false
  · have e : smoF (cl sf) (cl tf) xs = none := by unfold smoF; rw [if_neg h2, if_neg hs1, if_pos ht1]
    rw [e]
    go_enter Try.func65, Try.ntmps65
    go_wp2_with fail
    go_fit (k1 _)
    rintro r w ⟨rfl, rfl⟩
    rw [hs1']
    go_wp2_with fail
    go_fit (k2 _)
    rintro r w ⟨rfl, rfl⟩
    rw [ht1]
    go_wp2_with fail
    go_fit (kN _)
    rintro r w ⟨rfl, rfl⟩
    go_wp2
    go_ret
    exact ⟨_, 0, rfl, rfl, by decide, cl_theNaN⟩
  have ht1' : insB (cl tf) = true := by simpa using ht1
  obtain ⟨m, hmm⟩ : ∃ m, m + 1 = xs.length := ⟨xs.length - 1, by omega⟩
  have HM : Hid (m + 1 = xs.length) := hmm
  have e : smoF (cl sf) (cl tf) xs = (smoS (cl sf) (cl tf) (fun i => cl (xs.getD i 0)) m).2.1 := by
    unfold smoF; rw [if_neg h2, if_neg hs1, if_neg ht1]
    rw [show xs.length - 1 = m by omega]
  clear hmm
  obtain ⟨X, hX⟩ : ∃ X : Nat → Option Nat, X = fun i => cl (xs.getD i 0) := ⟨_, rfl⟩
  rw [← hX] at e
  have HX : Hid (X = fun i => cl (xs.getD i 0)) := hX
  clear hX
  rw [e]
  rcases HF.out with h0 | ⟨g, o, rfl, hg, hat⟩
  · rw [h0] at h2; simp at h2
  have hc0 := hat 0 (by omega)
  have hc1 := hat 1 (by omega)
  rw [Nat.add_zero] at hc0
  have HAT : Hid (FAt w g o xs) := hat
  clear hat
  obtain ⟨x0, hx0⟩ : ∃ x, x = xs.getD 0 0 := ⟨_, rfl⟩
  obtain ⟨x1, hx1⟩ : ∃ x, x = xs.getD 1 0 := ⟨_, rfl⟩
  rw [← hx0] at hc0
  rw [← hx1] at hc1
  have HX0 : Hid (x0 = xs.getD 0 0) := hx0
  have HX1 : Hid (x1 = xs.getD 1 0) := hx1
  clear hx0 hx1
  go_enter Try.func65, Try.ntmps65
  go_wp2_with fail
  go_fit (k1 _)
  rintro r w ⟨rfl, rfl⟩
  rw [hs1']
  go_wp2_with fail
  go_fit (k2 _)
  rintro r w ⟨rfl, rfl⟩
  rw [ht1']
  go_wp2_with fail
  refine wp_region_loose (by kernel_rfl) (by kernel_rfl) ?_
  iterate 9 (refine wpLoose_quiet rfl rfl ?_; intro K hK; go_big_quiet_op; go_big_quiet_on)
  refine wpLoose_float .sub (.inr (.inl rfl)) 25 25 _ _ rfl rfl _ _ rfl rfl (by rintro _ k' ⟨n', rfl⟩; first | exact ⟨n' + k', World.drewN_drewN _ _ _⟩ | exact ⟨n' + k', by simp [Nat.add_assoc]⟩) ?_
  intro z hzl hz
  go_simp
  iterate 3 (refine wpLoose_quiet rfl rfl ?_; intro K hK; go_big_quiet_op; go_big_quiet_on)
  refine wpLoose_nil ?_
  intro n
  have H0 : Hid ((cl 0, cl x0, cl z) = smoS (cl sf) (cl tf) X 0) := by
    show _ = _
    rw [hz, HX0.out, HX1.out, cl_lit 0 (by decide), smoS, HX.out]
  have HL0 : Hid (x0 < 18446744073709551616) := by
    show _
    rw [HX0.out]
    exact HW.out 0 (by omega)
  have HNX : Hid (∀ n p s b, (cl p, cl s, cl b) = smoS (cl sf) (cl tf) X n → smoS (cl sf) (cl tf) X (n + 1) =
      (cl s, fb .add (fb .mul (cl sf) (X (n + 1))) (fb .mul (fb .sub one (cl sf)) (fb .add (cl s) (if n = 0 then cl b else fb .add (fb .mul (cl tf) (fb .sub (cl s) (cl p))) (fb .mul (fb .sub one (cl tf)) (cl b))))),
        if n = 0 then cl b else fb .add (fb .mul (cl tf) (fb .sub (cl s) (cl p))) (fb .mul (fb .sub one (cl tf)) (cl b)))) := by
    intro n p s b h
    rw [smoS, ← h]
  clear hz kN k1 k2 e hc0 hc1
  go_wp2
  go_loopw [7, 8, 9, 10] (fun pv sv bv iv w' => ∃ (i p s b k : Nat), iv = .int .i64 ((i + 1 : Nat) : Int) ∧ i + 1 ≤ xs.length ∧ pv = .float .f64 p ∧ sv = .float .f64 s ∧ bv = .float .f64 b ∧ s < 18446744073709551616 ∧
      Hid ((cl p, cl s, cl b) = smoS (cl sf) (cl tf) X i) ∧ w' = w.drewN k) (fun _ _ _ iv _ => xs.length - (RowKit.intOf iv).toNat)
  case atStart => exact ⟨0, 0, x0, z, _, rfl, by omega, rfl, rfl, rfl, HL0, H0, rfl⟩
  case round =>
    obtain ⟨i, p, s, b, k, rfl, hi, rfl, rfl, rfl, hs1, hst, rfl⟩ := hrel
    by_cases hlt : i + 1 < xs.length
    · have hii : (i : Int) + 1 < xs.length := by omega
      have hcell := HAT.out (i + 1) hlt
      have hn := HNX.out i p s b hst.out
      have HI : Hid (i + 1 + 1 ≤ xs.length) := hlt
      obtain ⟨v, hv⟩ : ∃ v, v = xs.getD (i + 1) 0 := ⟨_, rfl⟩
      have hXv : X (i + 1) = cl v := by rw [HX.out, hv]
      rw [hXv] at hn
      rw [← hv] at hcell
      have HN : Hid _ := hn
      clear hn hv hst hXv
      by_cases hi0 : i = 0
      · subst hi0
        rw [Nat.zero_add] at hcell
        go_wp2_with fail
        refine wp_region_loose (by kernel_rfl) (by kernel_rfl) ?_
        iterate 6 (refine wpLoose_quiet rfl rfl ?_; intro K hK; go_big_quiet_op; go_big_quiet_on)
        refine wpLoose_float .mul (.inr (.inr (.inl rfl))) 25 25 _ _ rfl rfl _ _ rfl rfl (by rintro _ k' ⟨n', rfl⟩; first | exact ⟨n' + k', World.drewN_drewN _ _ _⟩ | exact ⟨n' + k', by simp [Nat.add_assoc]⟩) ?_
        intro z1 h1l h1
        go_simp
        iterate 1 (refine wpLoose_quiet rfl rfl ?_; intro K hK; go_big_quiet_op; go_big_quiet_on)
        refine wpLoose_float .sub (.inr (.inl rfl)) 25 25 _ _ rfl rfl _ _ rfl rfl (by rintro _ k' ⟨n', rfl⟩; first | exact ⟨n' + k', World.drewN_drewN _ _ _⟩ | exact ⟨n' + k', by simp [Nat.add_assoc]⟩) ?_
        intro z2 h2l h2
        go_simp
        iterate 2 (refine wpLoose_quiet rfl rfl ?_; intro K hK; go_big_quiet_op; go_big_quiet_on)
        refine wpLoose_float .add (.inl rfl) 25 25 _ _ rfl rfl _ _ rfl rfl (by rintro _ k' ⟨n', rfl⟩; first | exact ⟨n' + k', World.drewN_drewN _ _ _⟩ | exact ⟨n' + k', by simp [Nat.add_assoc]⟩) ?_
        intro z3 h3l h3
        go_simp
        refine wpLoose_float .mul (.inr (.inr (.inl rfl))) 25 25 _ _ rfl rfl _ _ rfl rfl (by rintro _ k' ⟨n', rfl⟩; first | exact ⟨n' + k', World.drewN_drewN _ _ _⟩ | exact ⟨n' + k', by simp [Nat.add_assoc]⟩) ?_
        intro z4 h4l h4
        go_simp
        refine wpLoose_float .add (.inl rfl) 25 25 _ _ rfl rfl _ _ rfl rfl (by rintro _ k' ⟨n', rfl⟩; first | exact ⟨n' + k', World.drewN_drewN _ _ _⟩ | exact ⟨n' + k', by simp [Nat.add_assoc]⟩) ?_
        intro z5 h5l h5
        go_simp
        iterate 2 (refine wpLoose_quiet rfl rfl ?_; intro K hK; go_big_quiet_op; go_big_quiet_on)
        refine wpLoose_nil ?_
        intro n2
        go_wp2
        refine ⟨⟨1, _, _, _, _, by go_num, HI, rfl, rfl, rfl, h5l, ?_, rfl⟩, by simp [RowKit.intOf]; omega⟩
        show _ = _
        rw [HN.out]
        simp only [if_true]
        rw [h5, h4, h3, h2, h1, cl_lit 4607182418800017408 (by decide)]
      · have hi1 : (1 : Int) < (i : Int) + 1 := by omega
        go_wp2_with fail
        refine wp_region_loose (by kernel_rfl) (by kernel_rfl) ?_
        iterate 6 (refine wpLoose_quiet rfl rfl ?_; intro K hK; go_big_quiet_op; go_big_quiet_on)
        refine wpLoose_float .mul (.inr (.inr (.inl rfl))) 25 25 _ _ rfl rfl _ _ rfl rfl (by rintro _ k' ⟨n', rfl⟩; first | exact ⟨n' + k', World.drewN_drewN _ _ _⟩ | exact ⟨n' + k', by simp [Nat.add_assoc]⟩) ?_
        intro z1 h1l h1
        go_simp
        iterate 1 (refine wpLoose_quiet rfl rfl ?_; intro K hK; go_big_quiet_op; go_big_quiet_on)
        refine wpLoose_float .sub (.inr (.inl rfl)) 25 25 _ _ rfl rfl _ _ rfl rfl (by rintro _ k' ⟨n', rfl⟩; first | exact ⟨n' + k', World.drewN_drewN _ _ _⟩ | exact ⟨n' + k', by simp [Nat.add_assoc]⟩) ?_
        intro z2 h2l h2
        go_simp
        iterate 2 (refine wpLoose_quiet rfl rfl ?_; intro K hK; go_big_quiet_op; go_big_quiet_on)
        refine wpLoose_float .add (.inl rfl) 25 25 _ _ rfl rfl _ _ rfl rfl (by rintro _ k' ⟨n', rfl⟩; first | exact ⟨n' + k', World.drewN_drewN _ _ _⟩ | exact ⟨n' + k', by simp [Nat.add_assoc]⟩) ?_
        intro z3 h3l h3
        go_simp
        refine wpLoose_float .mul (.inr (.inr (.inl rfl))) 25 25 _ _ rfl rfl _ _ rfl rfl (by rintro _ k' ⟨n', rfl⟩; first | exact ⟨n' + k', World.drewN_drewN _ _ _⟩ | exact ⟨n' + k', by simp [Nat.add_assoc]⟩) ?_
        intro z4 h4l h4
        go_simp
        refine wpLoose_float .add (.inl rfl) 25 25 _ _ rfl rfl _ _ rfl rfl (by rintro _ k' ⟨n', rfl⟩; first | exact ⟨n' + k', World.drewN_drewN _ _ _⟩ | exact ⟨n' + k', by simp [Nat.add_assoc]⟩) ?_
        intro z5 h5l h5
        go_simp
        iterate 2 (refine wpLoose_quiet rfl rfl ?_; intro K hK; go_big_quiet_op; go_big_quiet_on)
        refine wpLoose_nil ?_
        intro n2
        go_wp2
        refine ⟨⟨i + 1, _, _, _, _, by go_num, HI, rfl, rfl, rfl, h5l, ?_, rfl⟩, by simp [RowKit.intOf]; omega⟩
        show _ = _
        rw [HN.out, if_neg hi0, h5, h4, h3, h2, h1]
        simp only [cl_fz]
        rw [cl_lit 4607182418800017408 (by decide)]
    · have hii : ¬ (i : Int) + 1 < xs.length := by omega
      have HIM : Hid (i = m) := by
        have := HM.out
        show i = m
        omega
      go_wp2
      go_ret
      refine ⟨_, _, rfl, rfl, hs1, ?_⟩
      rw [← HIM.out, ← hst.out]
end Go.Proofs.Ytmjenemjbpimcaa
/- Over: the functions of the table, those over the list of the values. -/
namespace Go.Proofs.Ytmjenemjbpimcaa
open Go.RowKit

set_option maxHeartbeats 4000000 in
set_option maxRecDepth 100000 in
theorem mean_fn (a : Option Addr) (n c : Nat) (F T N : Int) (ss : Nat → Smp) (av : Value) (w : World) (h : HypW a n ss w) : Calls Try.prog 37 #[Wn a n c F T N, av] w (RB w (meanF (vls ss n))) := by
  have HB : Hid (Below w.heap.size w (w.alloc (wnX a n c F T N))) := (Below.refl _ w).alloc (Nat.le_refl _) _
  have k1 := values_any a n c ss (w.alloc (wnX a n c F T N)) (h.below HB.out).1 (by have := h.2.2; omega)
  have HS : Hid (∀ W v S, Fr W S v (vls ss n) → Calls Try.prog 38 #[v] W (RB W (meanF (vls ss n)))) := (show ∀ W v S, _ → _ from fun W v S hf => by
    obtain ⟨a', c', rfl, hm⟩ := hf.fm
    exact mean_any a' c' (vls ss n) W hm (vls_wd h.2.1) (by rw [vls_len]; have := h.2.2; omega))
  generalize meanF (vls ss n) = R at *
  clear h
  go_enter Try.func37, Try.ntmps37
  go_wp2_with fail
  go_fit k1
  rintro e w1 ⟨v, rfl, hf, b1⟩
  have k2 := HS.out w1 v _ hf
  have B1 : Hid (Below w.heap.size w w1) := HB.out.trans (b1.mono HB.out.size)
  clear hf b1 k1 HS HB
  go_wp2_with fail
  go_fit k2
  rintro e w2 ⟨z, rfl, b2, hl, hz⟩
  have B2 : Hid (Below w.heap.size w w2) := B1.out.trans (b2.mono B1.out.size)
  have HZ : Hid (cl z = R) := hz
  clear b2 hz k2
  go_wp2
  go_ret
  exact ⟨z, rfl, B2.out, hl, HZ.out⟩
set_option maxHeartbeats 4000000 in
set_option maxRecDepth 100000 in
theorem spread_fn (a : Option Addr) (n c : Nat) (F T N : Int) (ss : Nat → Smp) (av : Value) (w : World) (h : HypW a n ss w) : Calls Try.prog 39 #[Wn a n c F T N, av] w (RB w (sprF (vls ss n))) := by
  have HB : Hid (Below w.heap.size w (w.alloc (wnX a n c F T N))) := (Below.refl _ w).alloc (Nat.le_refl _) _
  have k1 := values_any a n c ss (w.alloc (wnX a n c F T N)) (h.below HB.out).1 (by have := h.2.2; omega)
  have HS : Hid (∀ W v S, Fr W S v (vls ss n) → Calls Try.prog 40 #[v] W (RB W (sprF (vls ss n)))) := (show ∀ W v S, _ → _ from fun W v S hf => by
    obtain ⟨a', c', rfl, hm⟩ := hf.fm
    exact spread_any a' c' (vls ss n) W hm (vls_wd h.2.1) (by rw [vls_len]; have := h.2.2; omega))
  generalize sprF (vls ss n) = R at *
  clear h
  go_enter Try.func39, Try.ntmps39
  go_wp2_with fail
  go_fit k1
  rintro e w1 ⟨v, rfl, hf, b1⟩
  have k2 := HS.out w1 v _ hf
  have B1 : Hid (Below w.heap.size w w1) := HB.out.trans (b1.mono HB.out.size)
  clear hf b1 k1 HS HB
  go_wp2_with fail
  go_fit k2
  rintro e w2 ⟨z, rfl, b2, hl, hz⟩
  have B2 : Hid (Below w.heap.size w w2) := B1.out.trans (b2.mono B1.out.size)
  have HZ : Hid (cl z = R) := hz
  clear b2 hz k2
  go_wp2
  go_ret
  exact ⟨z, rfl, B2.out, hl, HZ.out⟩
set_option maxHeartbeats 4000000 in
set_option maxRecDepth 100000 in
theorem variance_fn (a : Option Addr) (n c : Nat) (F T N : Int) (ss : Nat → Smp) (av : Value) (w : World) (h : HypW a n ss w) : Calls Try.prog 41 #[Wn a n c F T N, av] w (RB w (varF (vls ss n))) := by
  have HB : Hid (Below w.heap.size w (w.alloc (wnX a n c F T N))) := (Below.refl _ w).alloc (Nat.le_refl _) _
  have k1 := values_any a n c ss (w.alloc (wnX a n c F T N)) (h.below HB.out).1 (by have := h.2.2; omega)
  have HS : Hid (∀ W v S, Fr W S v (vls ss n) → Calls Try.prog 42 #[v] W (RB W (varF (vls ss n)))) := (show ∀ W v S, _ → _ from fun W v S hf => by
    obtain ⟨a', c', rfl, hm⟩ := hf.fm
    exact variance_any a' c' (vls ss n) W hm (vls_wd h.2.1) (by rw [vls_len]; have := h.2.2; omega))
  generalize varF (vls ss n) = R at *
  clear h
  go_enter Try.func41, Try.ntmps41
  go_wp2_with fail
  go_fit k1
  rintro e w1 ⟨v, rfl, hf, b1⟩
  have k2 := HS.out w1 v _ hf
  have B1 : Hid (Below w.heap.size w w1) := HB.out.trans (b1.mono HB.out.size)
  clear hf b1 k1 HS HB
  go_wp2_with fail
  go_fit k2
  rintro e w2 ⟨z, rfl, b2, hl, hz⟩
  have B2 : Hid (Below w.heap.size w w2) := B1.out.trans (b2.mono B1.out.size)
  have HZ : Hid (cl z = R) := hz
  clear b2 hz k2
  go_wp2
  go_ret
  exact ⟨z, rfl, B2.out, hl, HZ.out⟩

/-- The greatest or the least, from the left. -/
def outB (up : Bool) (v m : Option Nat) : Bool := (if up = true then gtB v m else ltB v m) || m.isNone
def outI (up : Bool) (V : Nat → Nat) : Nat → Option Nat
  | 0 => cl (V 0)
  | i + 1 => if outB up (cl (V (i + 1))) (outI up V i) = true then cl (V (i + 1)) else outI up V i
theorem nan_cl (x : Nat) : nanB x = (cl x).isNone := by
  unfold cl
  cases h : nanB x <;> simp
end Go.Proofs.Ytmjenemjbpimcaa
/- Rounding keeps order; exact steps by powers of two. -/
namespace Go.Proofs.Ytmjenemjbpimcaa
open Ieee

/-- Rounding n / 2 ^ d to the nearest, between two to the even one. -/
def rn (n d : Nat) : Nat := n / 2 ^ d + (if 2 ^ d < 2 * (n % 2 ^ d) ∨ (2 ^ d = 2 * (n % 2 ^ d) ∧ n / 2 ^ d % 2 = 1) then 1 else 0)
theorem cut_form (neg : Bool) (n d : Nat) : Toward.even.cut neg n d = n / (1 <<< min d (n.log2 + 2)) + (decide (1 <<< min d (n.log2 + 2) < 2 * (n % (1 <<< min d (n.log2 + 2)))) || ((1 <<< min d (n.log2 + 2) == 2 * (n % (1 <<< min d (n.log2 + 2)))) && (n / (1 <<< min d (n.log2 + 2)) % 2 == 1))).toNat := rfl
theorem cut_rn (neg : Bool) (n d : Nat) : Toward.even.cut neg n d = rn n d := by
  have hlog := Nat.lt_log2_self (n := n)
  rw [cut_form]
  unfold rn
  by_cases h : d ≤ n.log2 + 2
  · have e : (1 : Nat) <<< min d (n.log2 + 2) = 2 ^ d := by rw [Nat.min_eq_left h, Nat.shiftLeft_eq, Nat.one_mul]
    rw [e]
    generalize n / 2 ^ d = q
    generalize n % 2 ^ d = r
    generalize 2 ^ d = g
    by_cases h1 : g < 2 * r
    · rw [if_pos (.inl h1), decide_eq_true h1]
      rfl
    · rw [decide_eq_false h1]
      by_cases h3 : g = 2 * r
      · by_cases h4 : q % 2 = 1
        · rw [if_pos (.inr ⟨h3, h4⟩), beq_iff_eq.2 h3, beq_iff_eq.2 h4]
          rfl
        · rw [if_neg (by rintro (h | h); exact h1 h; exact h4 h.2), beq_eq_false_iff_ne.2 h4, Bool.and_false]
          rfl
      · rw [if_neg (by rintro (h | h); exact h1 h; exact h3 h.1), beq_eq_false_iff_ne.2 h3]
        rfl
  · have e : (1 : Nat) <<< min d (n.log2 + 2) = 2 ^ (n.log2 + 2) := by rw [Nat.min_eq_right (by omega), Nat.shiftLeft_eq, Nat.one_mul]
    rw [e]
    have h1 : n < 2 ^ (n.log2 + 1) := hlog
    have h2 : 2 ^ (n.log2 + 2) = 2 * 2 ^ (n.log2 + 1) := by rw [Nat.pow_succ]; omega
    have h3 : 2 ^ (n.log2 + 2) ≤ 2 ^ d := Nat.pow_le_pow_right (by decide) (by omega)
    have h4 : 2 ^ (n.log2 + 2 + 1) ≤ 2 ^ d := Nat.pow_le_pow_right (by decide) (by omega)
    have h5 : 2 ^ (n.log2 + 2 + 1) = 2 * 2 ^ (n.log2 + 2) := by rw [Nat.pow_succ]; omega
    rw [Nat.div_eq_of_lt (show n < 2 ^ (n.log2 + 2) by omega), Nat.mod_eq_of_lt (show n < 2 ^ (n.log2 + 2) by omega), Nat.div_eq_of_lt (show n < 2 ^ d by omega), Nat.mod_eq_of_lt (show n < 2 ^ d by omega)]
    rw [if_neg (by omega), decide_eq_false (show ¬ 2 ^ (n.log2 + 2) < 2 * n by omega), Bool.false_or, Nat.zero_mod]
    rw [show ((0 : Nat) == 1) = false from rfl, Bool.and_false]
    rfl
theorem rn_mono (a b d : Nat) (h : a ≤ b) : rn a d ≤ rn b d := by
  unfold rn
  have hp := Nat.two_pow_pos d
  have h1 : a / 2 ^ d ≤ b / 2 ^ d := Nat.div_le_div_right h
  have ha := Nat.div_add_mod a (2 ^ d)
  have hb := Nat.div_add_mod b (2 ^ d)
  by_cases he : a / 2 ^ d = b / 2 ^ d
  · rw [he] at ha ⊢
    generalize 2 ^ d * (b / 2 ^ d) = t at *
    generalize a % 2 ^ d = r at *
    generalize b % 2 ^ d = s at *
    generalize 2 ^ d = g at *
    split <;> split <;> omega
  · split <;> split <;> omega
theorem rn_le (n d : Nat) : rn n d ≤ n / 2 ^ d + 1 := by
  unfold rn
  split <;> omega
theorem rn_ge (n d : Nat) : n / 2 ^ d ≤ rn n d := by
  unfold rn
  omega

/-- The place of the last digit that is kept. -/
def lst (mag : Nat) (place : Int) : Int := max (place + (mag.log2 : Int) - (Ieee.double.fractionBits : Int)) Ieee.double.leastPlace
theorem lst_eq (mag : Nat) (place : Int) : lst mag place = max (place + (mag.log2 : Int) - 52) (-1074) := by
  have hl : Ieee.double.leastPlace = -1074 := by decide
  have hf : (Ieee.double.fractionBits : Int) = 52 := rfl
  unfold lst
  rw [hl, hf]
/-- The rung of a number. -/
def rung (mag : Nat) (place : Int) : Nat := min ((lst mag place - Ieee.double.leastPlace).toNat * Ieee.double.binade + Toward.even.cut false (mag <<< (place - lst mag place).toNat) (lst mag place - place).toNat) Ieee.double.infRung
theorem nearest_rung (s : Bool) (mag : Nat) (place : Int) (h : mag ≠ 0) : Ieee.double.nearest s mag place = Ieee.double.word s (rung mag place) := by
  unfold Format.nearest
  rw [if_neg h]
  have e : Toward.even.cut s (mag <<< (place - lst mag place).toNat) (lst mag place - place).toNat = Toward.even.cut false (mag <<< (place - lst mag place).toNat) (lst mag place - place).toNat := by rw [cut_rn, cut_rn]
  unfold rung
  rw [← e]
  rfl
theorem rung_eq (mag : Nat) (place : Int) : rung mag place = min ((lst mag place + 1074).toNat * 2 ^ 52 + rn (mag <<< (place - lst mag place).toNat) (lst mag place - place).toNat) 0x7ff0000000000000 := by
  have hb : Ieee.double.binade = 2 ^ 52 := rfl
  have hl : Ieee.double.leastPlace = -1074 := by decide
  have hi : Ieee.double.infRung = 0x7ff0000000000000 := by decide
  unfold rung
  rw [hb, hl, hi, cut_rn, Int.sub_neg]
theorem word_pos (r : Nat) : Ieee.double.word false r = r := if_neg (by decide)
theorem rung_shift (mag k : Nat) (place : Int) (h : mag ≠ 0) : rung (mag <<< k) place = rung mag (place + k) := by
  have hs : mag <<< k ≠ 0 := by
    rw [Nat.shiftLeft_eq]
    exact Nat.mul_ne_zero h (Nat.ne_of_gt (Nat.two_pow_pos k))
  have := nearest_shift false mag k place
  rw [nearest_rung _ _ _ h, nearest_rung _ _ _ hs, word_pos, word_pos] at this
  exact this

theorem nz_shl (n k : Nat) (hn : n ≠ 0) : n <<< k ≠ 0 := by
  rw [Nat.shiftLeft_eq]
  exact Nat.mul_ne_zero hn (Nat.ne_of_gt (Nat.two_pow_pos k))
theorem pow_le (a b : Nat) (h : a ≤ b) : 2 ^ a ≤ 2 ^ b := Nat.pow_le_pow_right (by decide) h
/-- What is kept has at most 53 digits. -/
theorem kept_lt (n : Nat) (place l : Int) (D : Nat) (hD : D = 53) (hl : place + (n.log2 : Int) - 52 ≤ l) : n <<< (place - l).toNat / 2 ^ (l - place).toNat < 2 ^ D := by
  have hnlt := Nat.lt_log2_self (n := n)
  refine Nat.div_lt_of_lt_mul ?_
  rw [Nat.shiftLeft_eq, ← Nat.pow_add]
  have h1 : n * 2 ^ (place - l).toNat < 2 ^ (n.log2 + 1) * 2 ^ (place - l).toNat := Nat.mul_lt_mul_of_pos_right hnlt (Nat.two_pow_pos _)
  rw [← Nat.pow_add] at h1
  exact Nat.lt_of_lt_of_le h1 (pow_le _ _ (by omega))
/-- .. and at least that many above the least ones. -/
theorem kept_ge (n : Nat) (place l : Int) (D : Nat) (hD : D = 52) (hn : n ≠ 0) (hl : l = place + (n.log2 : Int) - 52) : 2 ^ D ≤ n <<< (place - l).toNat / 2 ^ (l - place).toNat := by
  have hble := Nat.log2_self_le hn
  rw [Nat.le_div_iff_mul_le (Nat.two_pow_pos _), ← Nat.pow_add, Nat.shiftLeft_eq]
  have h1 : 2 ^ n.log2 * 2 ^ (place - l).toNat ≤ n * 2 ^ (place - l).toNat := Nat.mul_le_mul_right _ hble
  rw [← Nat.pow_add] at h1
  exact Nat.le_trans (pow_le _ _ (by omega)) h1

theorem rung_mono (a b : Nat) (place : Int) (ha : a ≠ 0) (h : a ≤ b) : rung a place ≤ rung b place := by
  have hb : b ≠ 0 := by omega
  have hlog : a.log2 ≤ b.log2 := (Nat.le_log2 hb).2 (Nat.le_trans (Nat.log2_self_le ha) h)
  have hla := lst_eq a place
  have hlb := lst_eq b place
  rw [rung_eq, rung_eq]
  generalize lst a place = la at *
  generalize lst b place = lb at *
  refine Nat.le_min.2 ⟨Nat.le_trans (Nat.min_le_left _ _) ?_, Nat.min_le_right _ _⟩
  by_cases he : la = lb
  · rw [he]
    refine Nat.add_le_add_left (rn_mono _ _ _ ?_) _
    rw [Nat.shiftLeft_eq, Nat.shiftLeft_eq]
    exact Nat.mul_le_mul_right _ h
  · have k1 := kept_lt a place la 53 rfl (by omega)
    have k2 := rn_le (a <<< (place - la).toNat) (la - place).toNat
    have k3 := rn_ge (b <<< (place - lb).toNat) (lb - place).toNat
    have k4 := kept_ge b place lb 52 rfl hb (by omega)
    have h3 : (la + 1074).toNat + 1 ≤ (lb + 1074).toNat := by omega
    clear hla hlb he hlog h
    generalize (la + 1074).toNat = ua at *
    generalize (lb + 1074).toNat = ub at *
    generalize rn (a <<< (place - la).toNat) (la - place).toNat = ra at *
    generalize rn (b <<< (place - lb).toNat) (lb - place).toNat = rb at *
    generalize a <<< (place - la).toNat / 2 ^ (la - place).toNat = qa at *
    generalize b <<< (place - lb).toNat / 2 ^ (lb - place).toNat = qb at *
    have h4 : (ua + 1) * 2 ^ 52 ≤ ub * 2 ^ 52 := Nat.mul_le_mul_right _ h3
    omega
end Go.Proofs.Ytmjenemjbpimcaa
