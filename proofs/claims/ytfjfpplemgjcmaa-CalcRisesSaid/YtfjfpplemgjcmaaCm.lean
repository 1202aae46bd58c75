/- The reference's Buckets. -/
import Derived.Test.YtfjfpplemgjcmaaCl
namespace Go.Proofs.Ytfjfpplemgjcmaa
open Go.RowKit

/-- The place that the loop from the end finds. -/
def bI (P : Nat → Bool) (L j : Nat) : Int := if fstI P (L - j) j = -1 then (L : Int) else fstI P (L - j) j
theorem bI_end (P : Nat → Bool) (L : Nat) : bI P L L = (L : Int) := by
  unfold bI
  rw [Nat.sub_self]; rfl
theorem bI_step (P : Nat → Bool) (L j : Nat) (h : j < L) : bI P L j = if P j = true then (j : Int) else bI P L (j + 1) := by
  unfold bI
  have e : fstI P (L - j) j = if P j = true then (j : Int) else fstI P (L - (j + 1)) (j + 1) := by
    rw [show L - j = (L - (j + 1)) + 1 by omega]; rfl
  rw [e]
  by_cases hp : P j = true
  · rw [if_pos hp, if_pos hp, if_neg (by omega)]
  · rw [if_neg hp, if_neg hp]
set_option maxHeartbeats 4000000 in
set_option maxRecDepth 100000 in
theorem rbuckets_part (q : Nat) (hq : Pt q) (v : Value) (n : Nat) (bs : Nat → Bk) (w : World) (hSt : Calls Try.prog 50 #[v] w (StP bs n w.heap.size w)) :
    Calls Try.prog 19 #[.float .f64 q, v] w fun r w' => ∃ d, BuV bs n (cl q) d ∧ RB w d r w' := by
  have kB := bad_any q
  rw [hq.1] at kB
  have kN := rnan_any
  have hm := @run_fmul Try.prog
  have hsu := @run_fsub Try.prog
  have had := @run_fadd Try.prog
  have hqu := @run_fquo Try.prog
  have h0 : (FloatKind.f64.format.order q 0 == some .lt) = false := by
    rw [ord0 q hq.1]
    refine beq_eq_false_iff_ne.2 fun h => ?_
    have := Int.compare_eq_lt.1 (Option.some.inj h)
    have := hq.2.1
    omega
  have h1 : (FloatKind.f64.format.order q 4607182418800017408 == some .gt) = false := by
    rw [ord1 q hq.1]
    refine beq_eq_false_iff_ne.2 fun h => ?_
    have := Int.compare_eq_gt.1 (Option.some.inj h)
    have := hq.2.2
    omega
  clear hq
  go_enter Try.func19, Try.ntmps19
  go_wp2_with fail
  go_fit (kB _)
  rintro r w ⟨rfl, rfl⟩
  go_wp2_with fail
  go_fit hSt
  rintro r w1 ⟨k, f, m, f', hs, hu, hX, hlb, hb1, hcase⟩
  have HS : Hid (∀ d, d = buC (cl q) (rsg f' m) → BuV bs n (cl q) d) := fun d hd => ⟨k, f, hs, hu, by rw [← hX]; exact hd⟩
  clear hs hu hX hSt
  rcases hcase with ⟨hm2, rfl⟩ | ⟨L, rfl, hL, ⟨hup, rfl⟩ | ⟨hup, g, c, f2, rfl, hc, hr, hbw, hz⟩⟩
  · have HD : Hid (BuV bs n (cl q) none) := HS.out none (buC_lt _ _ _ hm2).symm
    clear HS
    go_wp2_with fail
    go_fit (kN _)
    rintro r w ⟨rfl, rfl⟩
    go_wp2
    go_ret
    exact ⟨none, HD.out, _, rfl, hb1, by decide, cl_theNaN⟩
  · have HD : Hid (BuV bs n (cl q) none) := HS.out none (buC_fin _ _ _ hup).symm
    clear HS hup
    go_wp2_with fail
    go_fit (kN _)
    rintro r w ⟨rfl, rfl⟩
    go_wp2
    go_ret
    exact ⟨none, HD.out, _, rfl, hb1, by decide, cl_theNaN⟩
  · have HV : Hid (∀ d, d = (if fo (rzI (fun j => ab' (f' j)) L).2 (some 0) = some .gt then anC (rzI (fun j => ab' (f' j))) (L + 1) (fb .mul (cl q) (rzI (fun j => ab' (f' j)) L).2) else none) → BuV bs n (cl q) d) := fun d hd => HS.out d (by rw [buC_val _ _ _ hL hup]; exact hd)
    have hal : cl (f2 L).2 = (rzI (fun j => ab' (f' j)) L).2 := congrArg Prod.snd (hz L (by omega))
    have HAN : ∀ rk, anC (rzI (fun j => ab' (f' j))) (L + 1) rk = anC (fun j => ab' (f2 j)) (L + 1) rk := fun rk => (anC_congr _ _ (L + 1) rk (by omega) fun j hj => hz j hj).symm
    have hoz : FloatKind.f64.format.order (f2 L).2 0 = fo (rzI (fun j => ab' (f' j)) L).2 (some 0) := by rw [fo_cl, hal, cl_lit 0 (by decide)]
    rw [← hoz, ← hal, HAN] at HV
    clear HAN hoz hal hz hup HS
    have cc := hr.cellC L (by omega)
    have hlast : ((L + 1 : Nat) : Int) - 1 = (L : Int) := by omega
    obtain ⟨K, hK⟩ : ∃ K, L = K + 1 := ⟨L - 1, by omega⟩
    have hlast2 : ((L + 1 : Nat) : Int) - 2 = (K : Int) := by omega
    have hnz : (((L + 1 : Nat) : Int) == 0) = false := beq_eq_false_iff_ne.2 (by omega)
    have hLL : L < L + 1 := by omega
    have hwl : IntKind.i64.wrap (L : Int) = (L : Int) := by rw [IntKind.wrap_i64]; omega
    have HC : Hid (∀ j, j < L + 1 → w1.cell? ⟨g, j * 2, none⟩ = some (.float .f64 (f2 j).1) ∧ w1.cell? ⟨g, j * 2 + 1, none⟩ = some (.float .f64 (f2 j).2)) := fun j hj => ⟨hr.cellU j hj, hr.cellC j hj⟩
    have HW : Hid (BW f2 (L + 1)) := hbw
    obtain ⟨M, hM⟩ : ∃ M, L + 1 = M := ⟨_, rfl⟩
    have HM : Hid (L + 1 = M) := hM
    rw [hM] at hlast hlast2 hnz hLL hc HC HW ⊢
    have hnzn : (M == 0) = false := beq_eq_false_iff_ne.2 (by omega)
    have hnzp : ¬ M = 0 := by omega
    have HK : Hid (L = K + 1) := hK
    have hKL : K < L := by omega
    clear hM hr hbw hK
    obtain ⟨al, hal⟩ : ∃ al, (f2 L).2 = al := ⟨_, rfl⟩
    rw [hal] at cc HV
    clear hal
    by_cases hgt : FloatKind.f64.format.order al 0 = some .gt
    · rw [if_pos hgt] at HV
      have HD : Hid (BuV bs n (cl q) (anC (fun j => ab' (f2 j)) (L + 1) (fb .mul (cl q) (cl al)))) := HV.out _ rfl
      clear HV
      have hrc : Hid (cl (fz .mul q al w1) = fb .mul (cl q) (cl al)) := cl_fz _ _ _ _
      rw [← hrc.out] at HD
      obtain ⟨P, hP⟩ : ∃ P, P = fun j => nbB (cl (f2 j).2) (cl (fz .mul q al w1)) := ⟨_, rfl⟩
      have HP : Hid (∀ j, P j = ((FloatKind.f64.format.order (f2 j).2 (fz .mul q al w1) == some .gt) || (FloatKind.f64.format.order (f2 j).2 (fz .mul q al w1) == some .eq))) := fun j => by
        rw [hP]
        show nbB _ _ = _
        unfold nbB
        rw [← fo_cl]
      have hbd := fstI_bd P L 0
      have HAN : Hid (anC (fun j => ab' (f2 j)) (L + 1) (cl (fz .mul q al w1)) = match fstI P L 0 with
        | .negSucc _ => cl (f2 (L - 1)).1
        | .ofNat 0 => if fo (cl (f2 0).1) (some 0) = some .lt ∨ fo (cl (f2 0).1) (some 0) = some .eq then cl (f2 0).1 else lnK (cl (f2 0).1) (cl (f2 0).2) (cl (fz .mul q al w1)) (some 0) (some 0)
        | .ofNat (k + 1) => lnK (cl (f2 (k + 1)).1) (cl (f2 (k + 1)).2) (cl (fz .mul q al w1)) (cl (f2 k).1) (cl (f2 k).2)) := by rw [hP]; rfl
      have HE : Hid (bI P L L = (L : Int)) := bI_end P L
      have HST : Hid (∀ j, j < L → bI P L j = if P j = true then (j : Int) else bI P L (j + 1)) := bI_step P L
      have HB0 : Hid (bI P L 0 = if fstI P L 0 = -1 then (L : Int) else fstI P L 0) := rfl
      generalize fstI P L 0 = X at *
      obtain ⟨b, hb⟩ : ∃ b, b = bI P L := ⟨_, rfl⟩
      rw [← hb] at HE HST HB0
      clear hP hb
      have FB : Hid (∀ n, Below w.heap.size w (w1.drewN n)) := fun n => below_drewN hb1 n
      go_wp2
      generalize fz .mul q al w1 = rk at *
      go_loopw [8, 9] (fun bv iv w' => ∃ (j : Nat), j ≤ L ∧ iv = .int .i64 ((j : Int) - 1) ∧ bv = .int .i64 (b j) ∧ w' = w1.drewN (fk .mul q al)) (fun _ iv _ => (RowKit.intOf iv + 1).toNat)
      case atStart => exact ⟨L, Nat.le_refl _, by congr 1; have := HK.out; omega, by rw [HE.out], rfl⟩
      case round =>
        obtain ⟨j, hj, rfl, rfl, rfl⟩ := hrel
        by_cases hj0 : j = 0
        · subst hj0
          have hneg : ¬ (0 : Int) ≤ ((0 : Nat) : Int) - 1 := by decide
          have hneg2 : (((0 : Nat) : Int) - 1) = -1 := by decide
          rw [hneg2]
          have hbv := HB0.out
          generalize hbz : b 0 = bz at *
          rcases hbd with hX | ⟨hX1, hX2⟩
          · subst hX
            rw [if_pos rfl] at hbv
            subst hbv
            have HD2 : Hid (BuV bs n (cl q) (cl (f2 K).1)) := by
              have h1 := HD.out
              rw [HAN.out] at h1
              rw [show L - 1 = K by have := HK.out; omega] at h1
              exact h1
            obtain ⟨c1, _⟩ := HC.out K (by omega)
            have hul := (HW.out K (by omega)).1
            have hKM : K < M := by omega
            clear HAN HD hbz HB0 HE HST HP
            generalize (f2 K).1 = ku at *
            go_wp2
            go_ret
            exact ⟨_, HD2.out, _, rfl, FB.out _, hul, rfl⟩
          · obtain ⟨k, rfl⟩ : ∃ k : Nat, X = k := ⟨X.toNat, by omega⟩
            rw [if_neg (by omega)] at hbv
            subst hbv
            have hkM : k < M := by omega
            have hkl : ((k : Int) == (L : Int)) = false := beq_eq_false_iff_ne.2 (by omega)
            have hkl2 : (k == L) = false := beq_eq_false_iff_ne.2 (by omega)
            cases k with
            | zero =>
              obtain ⟨c1, c2⟩ := HC.out 0 hkM
              rw [Nat.zero_mul] at c1 c2
              rw [Nat.zero_add] at c2
              have hul := (HW.out 0 hkM).1
              have HD2 : Hid (BuV bs n (cl q) (if fo (cl (f2 0).1) (some 0) = some .lt ∨ fo (cl (f2 0).1) (some 0) = some .eq then cl (f2 0).1 else lnK (cl (f2 0).1) (cl (f2 0).2) (cl rk) (some 0) (some 0))) := by
                have h1 := HD.out
                rw [HAN.out] at h1
                exact h1
              have hoo : FloatKind.f64.format.order (f2 0).1 0 = fo (cl (f2 0).1) (some 0) := by rw [fo_cl, cl_lit 0 (by decide)]
              rw [← hoo] at HD2
              clear HAN HD hbz HB0 HE HST HP hoo
              generalize (f2 0).1 = ku at *
              generalize (f2 0).2 = kc at *
              have hz0 : ((0 : Nat) : Int) = 0 := rfl
              rw [hz0] at hkl ⊢
              by_cases ho : FloatKind.f64.format.order ku 0 = some .lt ∨ FloatKind.f64.format.order ku 0 = some .eq
              · rw [if_pos ho] at HD2
                rcases ho with ho | ho
                · go_wp2
                  go_ret
                  exact ⟨_, HD2.out, _, rfl, FB.out _, hul, rfl⟩
                · go_wp2
                  go_ret
                  exact ⟨_, HD2.out, _, rfl, FB.out _, hul, rfl⟩
              · rw [if_neg ho] at HD2
                have ho1 : (FloatKind.f64.format.order ku 0 == some .lt) = false := beq_eq_false_iff_ne.2 fun h => ho (.inl h)
                have ho2 : (FloatKind.f64.format.order ku 0 == some .eq) = false := beq_eq_false_iff_ne.2 fun h => ho (.inr h)
                clear ho
                go_wp2
                go_ret
                refine ⟨_, HD2.out, _, rfl, FB.out _, fz_lt _ _ _ _, ?_⟩
                simp only [cl_fz]
                rw [cl_lit 0 (by decide)]
                rfl
            | succ k =>
              obtain ⟨c1, c2⟩ := HC.out (k + 1) hkM
              obtain ⟨c3, c4⟩ := HC.out k (by omega)
              have HD2 : Hid (BuV bs n (cl q) (lnK (cl (f2 (k + 1)).1) (cl (f2 (k + 1)).2) (cl rk) (cl (f2 k).1) (cl (f2 k).2))) := by
                have h1 := HD.out
                rw [HAN.out] at h1
                exact h1
              clear HAN HD hbz HB0 HE HST HP
              obtain ⟨j, hj1⟩ : ∃ j, k + 1 = j := ⟨_, rfl⟩
              rw [hj1] at c1 c2 HD2 hkM hkl hkl2 ⊢
              have hjk : (j : Int) - 1 = (k : Int) := by omega
              have hj2 : ((j : Int) == 0) = false := beq_eq_false_iff_ne.2 (by omega)
              have hj3 : (0 : Int) < (j : Int) := by omega
              have hkM2 : k < M := by omega
              have hwk : IntKind.i64.wrap (k : Int) = (k : Int) := by rw [IntKind.wrap_i64]; omega
              generalize (f2 j).1 = ku at *
              generalize (f2 j).2 = kc at *
              generalize (f2 k).1 = pu at *
              generalize (f2 k).2 = pc at *
              clear hj1 hX1 hX2
              go_wp2_with fail
              go_quiet (fail)
              go_wp2
              go_ret
              refine ⟨_, HD2.out, _, rfl, FB.out _, fz_lt _ _ _ _, ?_⟩
              simp only [cl_fz]
              rfl
        · obtain ⟨i, rfl⟩ : ∃ i, j = i + 1 := ⟨j - 1, by omega⟩
          have hst := HST.out i (by omega)
          obtain ⟨_, c2⟩ := HC.out i (by omega)
          have hpi := HP.out i
          have hii : ((i + 1 : Nat) : Int) - 1 = (i : Int) := by omega
          have hige : (0 : Int) ≤ (i : Int) := by omega
          have hiM : i < M := by omega
          rw [hii]
          generalize (f2 i).2 = ic at *
          cases hp : P i
          · rw [hp] at hst hpi
            have hpi' := hpi.symm
            have HBI : Hid (b (i + 1) = b i) := by show _ = _; rw [hst]; rfl
            clear hpi hst
            go_wp2
            refine ⟨⟨i, by omega, rfl, by rw [HBI.out], trivial⟩, by simp only [RowKit.intOf]; omega⟩
          · rw [hp] at hst hpi
            have hpi' := hpi.symm
            have HBI : Hid (b i = (i : Int)) := by show _ = _; rw [hst]; rfl
            clear hpi hst
            go_wp2
            refine ⟨⟨i, by omega, rfl, by rw [HBI.out], trivial⟩, by simp only [RowKit.intOf]; omega⟩
    · have hgf : (FloatKind.f64.format.order al 0 == some .gt) = false := beq_eq_false_iff_ne.2 hgt
      rw [if_neg hgt] at HV
      have HD : Hid (BuV bs n (cl q) none) := HV.out _ rfl
      clear HV hgt
      go_wp2_with fail
      go_fit (kN _)
      rintro r w ⟨rfl, rfl⟩
      go_wp2
      go_ret
      exact ⟨none, HD.out, _, rfl, hb1, by decide, cl_theNaN⟩
set_option maxHeartbeats 1000000 in
theorem rbuckets_beyond (q : Nat) (d : Option Nat) (h : byP q d) (v : Value) (w : World) : Calls Try.prog 19 #[.float .f64 q, v] w (RF w d) := by
  have kB := bad_any q
  rcases h with ⟨hn, rfl⟩ | ⟨hn, h, rfl⟩ | ⟨hn, h, rfl⟩
  · rw [hn] at kB
    go_enter Try.func19, Try.ntmps19
    go_wp2_with fail
    go_fit (kB _)
    rintro r w ⟨rfl, rfl⟩
    go_wp2_with fail
    go_fit (rnan_any _)
    rintro r w ⟨rfl, rfl⟩
    go_wp2
    go_ret
    exact ⟨_, 0, rfl, rfl, by decide, cl_theNaN⟩
  · rw [hn] at kB
    have h0 := ord0 q hn
    rw [Int.compare_eq_lt.2 h] at h0
    clear h
    go_enter Try.func19, Try.ntmps19
    go_wp2_with fail
    go_fit (kB _)
    rintro r w ⟨rfl, rfl⟩
    go_wp2_with fail
    go_fit (rinfm_any _)
    rintro r w ⟨rfl, rfl⟩
    go_wp2
    go_ret
    exact ⟨_, 0, rfl, rfl, by decide, cl_lit _ (by decide)⟩
  · rw [hn] at kB
    have h0 := ord0 q hn
    have h1 := ord1 q hn
    rw [Int.compare_eq_gt.2 (show (0 : Int) < ky q by omega)] at h0
    rw [Int.compare_eq_gt.2 h] at h1
    clear h
    go_enter Try.func19, Try.ntmps19
    go_wp2_with fail
    go_fit (kB _)
    rintro r w ⟨rfl, rfl⟩
    go_wp2_with fail
    go_fit (rinf1_any _)
    rintro r w ⟨rfl, rfl⟩
    go_wp2
    go_ret
    exact ⟨_, 0, rfl, rfl, by decide, cl_lit _ (by decide)⟩
end Go.Proofs.Ytfjfpplemgjcmaa
