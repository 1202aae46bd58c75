/- CalcWholes: the law's walk. -/
import Derived.Test.YtfjfpplemgjcmaaWi
import Derived.Test.YtfjfpplemgjcmaaRw
import Derived.Test.YtfjfpplemgjcmaaMn
import Derived.Test.YtfjfpplemgjcmaaTl
namespace Go.Proofs.Ytfjfpplemgjcmaa
open Go.RowKit

/-- A slice's whole numbers. -/
def Zm (w : World) (a : Option Addr) (zs : List Int) : Prop := zs = [] ∨ ∃ g o, a = some ⟨g, o, none⟩ ∧ g < w.heap.size ∧ ∀ j, j < zs.length → w.cell? ⟨g, o + j, none⟩ = some (.int .i64 (zs.getD j 0))
def ZB (zs : List Int) : Prop := ∀ j, j < zs.length → -9223372036854775808 ≤ zs.getD j 0 ∧ zs.getD j 0 ≤ 9223372036854775807
theorem cvi (n : Int) (w : World) : (convert 2 23 (.int .i64 n)).run Try.prog w = .ok (.float .f64 (iw n)) w := run_convert_int_float w 2 23 .i64 .f64 n (by rw [Try.underlying2]; rfl) Try.underlying23
theorem iw_lt (n : Int) : iw n < 18446744073709551616 := by
  have := floatOfInt_wf .f64 n
  unfold iw
  simpa [Lit.wf] using this
theorem iw_num (n : Int) : cl (iw n) = some (iw n) := cl_num (nanB_write_number _ _ _)
theorem ord_self {x : Nat} (h : cl x = some x) : FloatKind.f64.format.order x x = some .eq := by
  rw [fo_self, if_neg]
  rw [(cl_some h).2]; decide

theorem quo_some (S : Int) (N : Nat) (hS : -9007199254740992 ≤ S) (hS' : S ≤ 9007199254740992) (hN : 0 < N) (hN' : N ≤ 65536) : ∃ Q, floatBits .quo .f64 (iw S) (nW N) = some Q := by
  obtain ⟨m, i, h1, _, _⟩ := iw_read S hS hS'
  obtain ⟨n, j, h2, h3, _⟩ := iw_read (N : Int) (by omega) (by omega)
  have hn : n ≠ 0 := by
    intro h
    subst h
    unfold un at h3
    rw [signed_eq, Nat.zero_mul] at h3
    have h4 : ((N : Int)) * ((2 ^ 1074 : Nat) : Int) ≠ 0 := Int.mul_ne_zero (by omega) (by have := Nat.two_pow_pos 1074; omega)
    apply h4
    rw [← h3]
    exact Int.mul_zero _
  have h2' : Ieee.double.read (nW N) = .number (decide ((N : Int) < 0)) n j := h2
  have e : floatBits .quo .f64 (iw S) (nW N) = ((Ieee.double.read (iw S)).quotient 54 (Ieee.double.read (nW N))).map Ieee.double.write := rfl
  rw [e, h1, h2']
  simp only [Ieee.Datum.quotient]
  rw [if_neg hn]
  exact ⟨_, rfl⟩

theorem sum27 : sumF (cs [4611686018427387904, 13842939354630062080]) = some 13840687554816376832 := by decide +kernel
theorem mean56 : meanF [4617315517961601024, 4618441417868443648] = some 4617878467915022336 := by decide +kernel

set_option maxHeartbeats 4000000 in
set_option maxRecDepth 100000 in
theorem wholes_walk (a : Option Addr) (c : Nat) (zs : List Int) (w : World) (hf : Zm w a zs) (hz : ZB zs) (hl : zs.length ≤ 9223372036854775807) :
    Calls Try.prog 4 #[.slice a zs.length c] w fun r w' => r = .returned (.bool true) ∧ Below w.heap.size w w' := by
  have hb0 := Below.refl w.heap.size w
  by_cases hbig : 65536 < zs.length
  · have hbig' : (65536 : Int) < zs.length := by omega
    go_enter Try.func4, Try.ntmps4
    go_wp2
    go_ret
    exact ⟨rfl, hb0⟩
  have hbig' : ¬ (65536 : Int) < zs.length := by omega
  have hcv := cvi
  have hcn := cvn zs.length
  have HF : Hid (Zm w a zs) := hf
  have HZ : Hid (ZB zs) := hz
  clear hf hz
  obtain ⟨f, hf⟩ : ∃ f : Nat → Int, f = fun j => zs.getD j 0 := ⟨_, rfl⟩
  have Hf : Hid (f = fun j => zs.getD j 0) := hf
  clear hf
  obtain ⟨G, hG⟩ : ∃ G, G = w.heap.size := ⟨_, rfl⟩
  have HG : Hid (G = w.heap.size) := hG
  rw [← hG] at hb0 ⊢
  clear hG
  have S0 : Hid (zsum f 0 = 0) := (rfl : zsum f 0 = 0)
  have T0 : Hid (zsize f 0 = 0) := (rfl : zsize f 0 = 0)
  have SS : Hid (∀ i, zsum f (i + 1) = zsum f i + f i) := fun i => rfl
  have TT : Hid (∀ i, zsize f (i + 1) = zsize f i + max (f i) (-f i)) := fun i => rfl
  have ZL : Hid (∀ i, zsum f i ≤ zsize f i ∧ -zsum f i ≤ zsize f i ∧ 0 ≤ zsize f i) := zsize_le f
  go_enter Try.func4, Try.ntmps4
  go_wp2
  go_loopw [3, 4, 5, 6, 7] (fun sv tv av bv iv w' => ∃ (i : Nat) (S T : Int) (ys us : List Nat) (A B : Option Addr) (C D : Nat) (col : Nat → Nat), iv = .int .i64 (i : Int) ∧ i ≤ zs.length ∧ sv = .int .i64 S ∧ tv = .int .i64 T ∧ av = .slice A i C ∧ bv = .slice B i D ∧
      Hid (S = zsum f i) ∧ Hid (T = zsize f i) ∧ T ≤ 9007199254740992 ∧ Hid (ys.length = i) ∧ Hid (us.length = i) ∧ Hid (Fr w' G (.slice A i C) ys) ∧ Hid (Fr w' G (.slice B i D) us) ∧ Hid (Co col 0 (.slice A i C)) ∧ Hid (Co col 1 (.slice B i D)) ∧
      Hid (Ls ys i fun j => some (iw (f j))) ∧ Hid (Ls us i fun j => some (iw (f (zs.length - 1 - j)))) ∧ Below G w w') (fun _ _ _ _ iv _ => zs.length - (RowKit.intOf iv).toNat)
  case atStart => exact ⟨0, 0, 0, [], [], none, none, 0, 0, fun _ => 0, rfl, by omega, rfl, rfl, rfl, rfl, S0.out.symm, T0.out.symm, by omega, rfl, rfl, Fr.nil _ _, Fr.nil _ _, Co.nil _ _, Co.nil _ _, Ls.nil _ _, Ls.nil _ _, hb0⟩
  case round =>
    obtain ⟨i, S, T, ys, us, A, B, C, D, col, rfl, hi, rfl, rfl, rfl, rfl, hS, hT, hTb, hyl, hul, oa, ob, ca, cb, la, lb, hb⟩ := hrel
    have hZL := ZL.out i
    rw [← hS.out, ← hT.out] at hZL
    by_cases hlt : i < zs.length
    · have hii : (i : Int) < zs.length := by omega
      rcases HF.out with h0 | ⟨g, o', rfl, hg, hat⟩
      · rw [h0] at hlt; simp at hlt
      have hgG : g < G := by rw [HG.out]; exact hg
      have hcell := (hb.cell (p := ⟨g, o' + i, none⟩) hgG).trans (hat i hlt)
      have hzb := HZ.out i hlt
      have hfi : f i = zs.getD i 0 := by rw [Hf.out]
      rw [← hfi] at hcell hzb
      have hSi := SS.out i
      have hTi := TT.out i
      obtain ⟨J, hJ⟩ : ∃ J : Nat, J = zs.length - 1 - i := ⟨_, rfl⟩
      have hJl : J < zs.length := by omega
      have hcell2 := (hb.cell (p := ⟨g, o' + J, none⟩) hgG).trans (hat J hJl)
      have hfJ : f J = zs.getD J 0 := by rw [Hf.out]
      rw [← hfJ] at hcell2
      have hJi : (zs.length : Int) - 1 - (i : Int) = (J : Int) := by omega
      have hGw : G ≤ wr.heap.size := by rw [HG.out]; exact hb.size
      have HFJ : Hid (f (zs.length - 1 - i) = f J) := by show _ = _; rw [← hJ]
      have HI : Hid (i + 1 ≤ zs.length) := hlt
      clear hfi hfJ hat hJ
      rw [← hS.out] at hSi
      rw [← hT.out] at hTi
      have HSi : Hid _ := hSi
      have HTi : Hid _ := hTi
      clear hSi hTi
      generalize hvv : f i = v at *
      have HVV : Hid (f i = v) := hvv
      generalize hxx : f J = x at *
      have HXX : Hid (f J = x) := hxx
      clear hvv hxx
      by_cases hv1 : v < -9007199254740992
      · go_wp2
        go_ret
        exact ⟨rfl, hb⟩
      by_cases hv2 : 9007199254740992 < v
      · go_wp2
        go_ret
        exact ⟨rfl, hb⟩
      by_cases hv0 : 0 ≤ v
      · by_cases hv3 : 9007199254740992 < T + v
        · clear HSi HTi
          go_wp2
          go_ret
          exact ⟨rfl, hb⟩
        · obtain ⟨va, w1, col1, r1, oa1, ca1, b1, kp1⟩ := append_c wr G col 0 (.slice A i C) ys (iw v) hGw (by have := hyl.out; omega) oa.out ca.out
          have Y1 : Hid ((ys ++ [iw v]).length = i + 1) := by show _ = _; rw [List.length_append, hyl.out]; rfl
          obtain ⟨A1, C1, rfl, _⟩ := oa1.fm
          rw [Y1.out] at oa1 r1 ca1
          obtain ⟨ob1, cb1⟩ := kp1 (.slice B i D) us 1 (by decide) ob.out cb.out
          have hGw1 : G ≤ w1.heap.size := Nat.le_trans hGw b1.size
          have hcell3 : w1.cell? ⟨g, o' + J, none⟩ = some (.int .i64 x) := (b1.cell (p := ⟨g, o' + J, none⟩) hgG).trans hcell2
          obtain ⟨vb, w2, col2, r2, ob2, cb2, b2, kp2⟩ := append_c w1 G col1 1 (.slice B i D) us (iw x) hGw1 (by have := hul.out; omega) ob1 cb1
          have U1 : Hid ((us ++ [iw x]).length = i + 1) := by show _ = _; rw [List.length_append, hul.out]; rfl
          obtain ⟨B1, D1, rfl, _⟩ := ob2.fm
          rw [U1.out] at ob2 r2 cb2
          obtain ⟨oa2, ca2⟩ := kp2 (.slice (A1) (i + 1) C1) (ys ++ [iw v]) 0 (by decide) oa1 ca1
          have OA : Hid _ := oa2
          have OB : Hid _ := ob2
          have CA : Hid _ := ca2
          have CB : Hid _ := cb2
          have LA : Hid (Ls (ys ++ [iw v]) (i + 1) fun j => some (iw (f j))) := by
            have := la.out
            rw [← hyl.out] at this ⊢
            exact this.push _ (by rw [iw_num, hyl.out, HVV.out]) (iw_lt _)
          have LB : Hid (Ls (us ++ [iw x]) (i + 1) fun j => some (iw (f (zs.length - 1 - j)))) := by
            have := lb.out
            rw [← hul.out] at this ⊢
            exact this.push _ (by rw [iw_num, hul.out, HFJ.out]) (iw_lt _)
          have HB2 : Hid (Below G w w2) := (hb.trans b1).trans b2
          have HS2 : Hid (S + v = zsum f (i + 1)) := HSi.out.symm
          have HT2 : Hid (T + v = zsize f (i + 1)) := by
            have h1 := HTi.out
            show _ = _
            rw [h1]
            omega
          have hsv : -9007199254740992 ≤ S + v ∧ S + v ≤ 9007199254740992 := by omega
          clear oa1 ca1 ob1 cb1 ob2 cb2 oa2 ca2 kp1 kp2 b1 b2 oa ob ca cb la lb HSi HTi hcell2
          go_wp2_with (first | (at_builtin; refine wpList_append_run rfl (.tmp 39) (.tmp 42) 22 22 rfl _ _ rfl rfl r1 ?_) | (at_builtin; refine wpList_append_run rfl (.tmp 44) (.tmp 54) 22 22 rfl _ _ rfl rfl r2 ?_))
          exact ⟨⟨i + 1, _, _, _, _, A1, B1, C1, D1, col2, by go_num, HI, rfl, rfl, rfl, rfl, HS2, HT2, by omega, Y1, U1, OA, OB, CA, CB, LA, LB, HB2.out⟩, by simp [RowKit.intOf]; omega⟩
      · by_cases hv3 : 9007199254740992 < T + -v
        · clear HSi HTi
          go_wp2
          go_ret
          exact ⟨rfl, hb⟩
        · obtain ⟨va, w1, col1, r1, oa1, ca1, b1, kp1⟩ := append_c wr G col 0 (.slice A i C) ys (iw v) hGw (by have := hyl.out; omega) oa.out ca.out
          have Y1 : Hid ((ys ++ [iw v]).length = i + 1) := by show _ = _; rw [List.length_append, hyl.out]; rfl
          obtain ⟨A1, C1, rfl, _⟩ := oa1.fm
          rw [Y1.out] at oa1 r1 ca1
          obtain ⟨ob1, cb1⟩ := kp1 (.slice B i D) us 1 (by decide) ob.out cb.out
          have hGw1 : G ≤ w1.heap.size := Nat.le_trans hGw b1.size
          have hcell3 : w1.cell? ⟨g, o' + J, none⟩ = some (.int .i64 x) := (b1.cell (p := ⟨g, o' + J, none⟩) hgG).trans hcell2
          obtain ⟨vb, w2, col2, r2, ob2, cb2, b2, kp2⟩ := append_c w1 G col1 1 (.slice B i D) us (iw x) hGw1 (by have := hul.out; omega) ob1 cb1
          have U1 : Hid ((us ++ [iw x]).length = i + 1) := by show _ = _; rw [List.length_append, hul.out]; rfl
          obtain ⟨B1, D1, rfl, _⟩ := ob2.fm
          rw [U1.out] at ob2 r2 cb2
          obtain ⟨oa2, ca2⟩ := kp2 (.slice (A1) (i + 1) C1) (ys ++ [iw v]) 0 (by decide) oa1 ca1
          have OA : Hid _ := oa2
          have OB : Hid _ := ob2
          have CA : Hid _ := ca2
          have CB : Hid _ := cb2
          have LA : Hid (Ls (ys ++ [iw v]) (i + 1) fun j => some (iw (f j))) := by
            have := la.out
            rw [← hyl.out] at this ⊢
            exact this.push _ (by rw [iw_num, hyl.out, HVV.out]) (iw_lt _)
          have LB : Hid (Ls (us ++ [iw x]) (i + 1) fun j => some (iw (f (zs.length - 1 - j)))) := by
            have := lb.out
            rw [← hul.out] at this ⊢
            exact this.push _ (by rw [iw_num, hul.out, HFJ.out]) (iw_lt _)
          have HB2 : Hid (Below G w w2) := (hb.trans b1).trans b2
          have HS2 : Hid (S + v = zsum f (i + 1)) := HSi.out.symm
          have HT2 : Hid (T + -v = zsize f (i + 1)) := by
            have h1 := HTi.out
            show _ = _
            rw [h1]
            omega
          have hsv : -9007199254740992 ≤ S + v ∧ S + v ≤ 9007199254740992 := by omega
          clear oa1 ca1 ob1 cb1 ob2 cb2 oa2 ca2 kp1 kp2 b1 b2 oa ob ca cb la lb HSi HTi hcell2
          go_wp2_with (first | (at_builtin; refine wpList_append_run rfl (.tmp 39) (.tmp 42) 22 22 rfl _ _ rfl rfl r1 ?_) | (at_builtin; refine wpList_append_run rfl (.tmp 44) (.tmp 54) 22 22 rfl _ _ rfl rfl r2 ?_))
          exact ⟨⟨i + 1, _, _, _, _, A1, B1, C1, D1, col2, by go_num, HI, rfl, rfl, rfl, rfl, HS2, HT2, by omega, Y1, U1, OA, OB, CA, CB, LA, LB, HB2.out⟩, by simp [RowKit.intOf]; omega⟩
    · have hii : ¬ (i : Int) < zs.length := by omega
      obtain rfl : i = zs.length := by omega
      have hbs : Hid (∀ w1 w2, Below G w w1 → Below w1.heap.size w1 w2 → Below G w w2) := fun w1 w2 h1 h2 => h1.trans (h2.mono (by rw [HG.out]; exact h1.size))
      by_cases h0 : zs.length = 0
      · have h0' : (zs.length : Int) = 0 := by omega
        have k0 := (sum_any (some ⟨wr.heap.size, 0, none⟩) 2 [4611686018427387904, 13842939354630062080] (wr.alloc (.cells #[.float .f64 4611686018427387904, .float .f64 13842939354630062080] 23)) (Fm.two wr 23 _ _) (fun j hj => by
          have : j < 2 := hj
          rcases (show j = 0 ∨ j = 1 by omega) with rfl | rfl <;> decide) (by decide)).mono fun _ _ => RF.rb
        rw [sum27] at k0
        have hb1 : Below G w (wr.alloc (.cells #[.float .f64 4611686018427387904, .float .f64 13842939354630062080] 23)) := hb.alloc (by rw [HG.out]; exact hb.size) _
        clear oa ob ca cb la lb hyl hul hS hT hZL hTb
        go_wp2_with fail
        go_fit k0
        rintro r w1 ⟨z, rfl, hb2, _, hz⟩
        obtain ⟨rfl, _⟩ := cl_some hz
        have b2 : Hid (Below G w w1) := hbs.out _ _ hb1 hb2
        clear hb2 hz
        go_wp2
        go_ret
        exact ⟨rfl, b2.out⟩
      · have h0' : ¬ (zs.length : Int) = 0 := by omega
        obtain ⟨aa, ac, e1, fa⟩ := oa.out.fm
        rw [hyl.out] at e1
        cases e1
        obtain ⟨ba, bc, e2, fb2⟩ := ob.out.fm
        rw [hul.out] at e2
        cases e2
        have hla := la.out
        rw [← hyl.out] at hla
        have hlb := lb.out
        rw [← hul.out] at hlb
        have hcsa := hla.cs
        have hcsb := hlb.cs
        have hyl' := hyl.out
        have hul' := hul.out
        have hSb : -9007199254740992 ≤ S ∧ S ≤ 9007199254740992 := by omega
        have hsa : sumF (cs ys) = some (iw S) := by
          rw [hcsa, hyl', sumF_iw f _ (by rw [← hT.out]; exact hTb), ← hS.out]
        have hsb : sumF (cs us) = some (iw S) := by
          obtain ⟨q1, q2⟩ := zsum_rev f zs.length
          rw [hcsb, hul']
          rw [sumF_iw (fun j => f (zs.length - 1 - j)) _ (by rw [q2, ← hT.out]; exact hTb), q1, ← hS.out]
        obtain ⟨Q, hQ⟩ := quo_some S zs.length hSb.1 hSb.2 (by omega) (by omega)
        have hQn : cl Q = some Q := cl_num (fb_num hQ)
        have hme : meanF ys = some Q := by
          obtain ⟨_, _, _, _, hi2⟩ := iw_read S hSb.1 hSb.2
          rw [mean1 (by omega) (by rw [hsa]; exact infB_of _ hi2), hsa, hyl']
          exact hQ
        have K1 : Hid (∀ w1, Below wr.heap.size wr w1 → Calls Try.prog 12 #[.slice A zs.length C] w1 (RB w1 (some (iw S)))) := fun w1 h => by
          have := (sum_any A C ys w1 (fa.below h) hla.wd (by omega)).mono fun _ _ => RF.rb
          rw [hsa, hyl'] at this
          exact this
        have K2 : Hid (∀ w1, Below wr.heap.size wr w1 → Calls Try.prog 12 #[.slice B zs.length D] w1 (RB w1 (some (iw S)))) := fun w1 h => by
          have := (sum_any B D us w1 (fb2.below h) hlb.wd (by omega)).mono fun _ _ => RF.rb
          rw [hsb, hul'] at this
          exact this
        have K3 : Hid (∀ w1, Below wr.heap.size wr w1 → Calls Try.prog 13 #[.slice A zs.length C] w1 (RB w1 (some Q))) := fun w1 h => by
          have := mean_any A C ys w1 (fa.below h) hla.wd (by omega)
          rw [hme, hyl'] at this
          exact this
        have K4 : Hid (∀ w1 : World, Calls Try.prog 13 #[.slice (some ⟨w1.heap.size, 0, none⟩) 2 2] (w1.alloc (.cells #[.float .f64 4617315517961601024, .float .f64 4618441417868443648] 23)) (RB (w1.alloc (.cells #[.float .f64 4617315517961601024, .float .f64 4618441417868443648] 23)) (some 4617878467915022336))) := fun w1 => by
          have := mean_any (some ⟨w1.heap.size, 0, none⟩) 2 [4617315517961601024, 4618441417868443648] (w1.alloc (.cells #[.float .f64 4617315517961601024, .float .f64 4618441417868443648] 23)) (Fm.two w1 23 _ _) (fun j hj => by
            have : j < 2 := hj
            rcases (show j = 0 ∨ j = 1 by omega) with rfl | rfl <;> decide) (by decide)
          rw [mean56] at this
          exact this
        have hso := ord_self (iw_num S)
        have hqo := ord_self hQn
        have hqr : ∀ t w, (binOp .quo t (.float .f64 (iw S)) (.float .f64 (nW zs.length))).run Try.prog w = .ok (.float .f64 Q) w := fun t w => run_float_arith w .quo t .f64 _ _ _ hQ
        have hstep : Hid (∀ w1 w2, Below wr.heap.size wr w1 → Below w1.heap.size w1 w2 → Below wr.heap.size wr w2) := fun w1 w2 h1 h2 => h1.trans (h2.mono h1.size)
        have b0 : Hid (Below wr.heap.size wr wr) := Below.refl _ _
        clear hla hlb hcsa hcsb hsa hsb hme fa fb2 oa ob ca cb la lb hyl' hul' hyl hul hS hT hZL hTb hQ hQn
        go_wp2_with fail
        go_fit (K1.out _ b0.out)
        rintro r w1 ⟨z1, rfl, hb1, _, hz1⟩
        obtain ⟨rfl, _⟩ := cl_some hz1
        have b1 : Hid (Below wr.heap.size wr w1) := hstep.out _ _ b0.out hb1
        clear hb1 hz1
        go_wp2_with fail
        go_fit (K2.out _ b1.out)
        rintro r w2 ⟨z2, rfl, hb2, _, hz2⟩
        obtain ⟨rfl, _⟩ := cl_some hz2
        have b2 : Hid (Below wr.heap.size wr w2) := hstep.out _ _ b1.out hb2
        clear hb2 hz2
        go_wp2_with fail
        go_fit (K3.out _ b2.out)
        rintro r w3 ⟨z3, rfl, hb3, _, hz3⟩
        obtain ⟨rfl, _⟩ := cl_some hz3
        have b3 : Hid (Below wr.heap.size wr w3) := hstep.out _ _ b2.out hb3
        clear hb3 hz3
        go_wp2_with fail
        go_fit (K4.out w3)
        rintro r w4 ⟨z4, rfl, hb4, _, hz4⟩
        obtain ⟨rfl, _⟩ := cl_some hz4
        have b4 : Hid (Below wr.heap.size wr w4) := hstep.out _ _ (b3.out.alloc b3.out.size _) hb4
        clear hb4 hz4
        go_wp2
        go_ret
        exact ⟨rfl, hbs.out _ _ hb b4.out⟩
end Go.Proofs.Ytfjfpplemgjcmaa
