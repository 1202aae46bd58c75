/- Quantile, on both sides. -/
import Derived.Test.YtfjfpplemgjcmabQg
namespace Go.Proofs.Ytfjfpplemgjcmab
open Go.RowKit Ieee

/-- The quantile out of the sorted list, the place and the rest. -/
def quV (S : List Nat) (K M z : Nat) : Option Nat := if FloatKind.f64.format.order z 0 = some .eq then cl (S.getD K 0) else fb .add (fb .mul (cl (S.getD K 0)) (fb .sub (some 4607182418800017408) (cl z))) (fb .mul (cl (S.getD M 0)) (cl z))
/-- How rank, floor and rest come out. -/
def Qp (q N y z K M : Nat) : Prop := floatBits .mul .f64 q (iw (N : Int)) = some y ∧ nanB y = false ∧ floatToIntVal .f64 (flr y) .i64 = some ((K : Nat) : Int) ∧ K ≤ N ∧ floatBits .sub .f64 y (flr y) = some z ∧ M = min (K + 1) N
theorem qp_ex (q N : Nat) (h : Pt q) (hN : N < 2 ^ 53) : ∃ y z K M, Qp q N y z K M := by
  obtain ⟨y, z, K, h1, h2, h3, h4, h5⟩ := quant_parts q N h.1 h.2.1 h.2.2 hN
  exact ⟨y, z, K, _, h1, h2, h3, h4, h5, rfl⟩
theorem seg_getD0 (xs : List Nat) : seg (fun j => xs.getD j 0) 0 xs.length = xs := by
  refine List.ext_getElem (seg_length _ _ _) fun j h1 h2 => ?_
  rw [seg_length] at h1
  have := seg_getD (fun j => xs.getD j 0) j xs.length 0 h1
  rw [Nat.zero_add] at this
  simp only [List.getD_eq_getElem?_getD, List.getElem?_eq_getElem h1, Option.getD_some] at this
  rw [← this, List.getElem?_eq_getElem (by rw [seg_length]; exact h1)]
  rfl
theorem isrt_wd (xs : List Nat) (h : Wd xs) : ∀ j, j < xs.length → (isrt xs).getD j 0 < 18446744073709551616 := fun j hj => by
  have hall : ∀ x ∈ xs, x < 18446744073709551616 := fun x hx => by
    obtain ⟨i, hi, rfl⟩ := List.mem_iff_getElem.1 hx
    have := h i hi
    simpa [List.getD, hi] using this
  by_cases hl : j < (isrt xs).length
  · have hm : (isrt xs).getD j 0 ∈ isrt xs := by
      simp only [List.getD_eq_getElem?_getD, List.getElem?_eq_getElem hl, Option.getD_some]
      exact List.getElem_mem hl
    exact hall _ ((isrt_ok xs).1.symm.mem _ hm)
  · simp only [List.getD_eq_getElem?_getD, List.getElem?_eq_none (by omega : (isrt xs).length ≤ j), Option.getD_none]
    decide

set_option maxHeartbeats 4000000 in
set_option maxRecDepth 100000 in
theorem quantile_part (q g o c : Nat) (xs : List Nat) (w0 : World) (N y z K M : Nat) (hp : Pt q) (hg : g < w0.heap.size) (hat : FAt w0 g o xs) (hw : Wd xs) (hl : xs.length * 8 ≤ 140737488355328) (hN : N + 1 = xs.length) (hq : Qp q N y z K M) :
    Calls Try.prog 19 #[.float .f64 q, .slice (some ⟨g, o, none⟩) xs.length c] w0 (RB w0 (quV (isrt xs) K M z)) := by
  obtain ⟨h1, h2, h3, h4, h5, h6⟩ := hq
  have r1 : ∀ t w, (binOp .mul t (.float .f64 q) (.float .f64 (iw (N : Int)))).run Try.prog w = .ok (.float .f64 y) w := fun t w => run_float_arith w .mul t .f64 _ _ _ h1
  have r2 : ∀ t w, (binOp .sub t (.float .f64 y) (.float .f64 (flr y))).run Try.prog w = .ok (.float .f64 z) w := fun t w => run_float_arith w .sub t .f64 _ _ _ h5
  have r3 : ∀ w, (convert 23 3 (.float .f64 (flr y))).run Try.prog w = .ok (.int .i64 (K : Int)) w := fun w => run_convert_float_int w 23 3 .f64 .i64 _ _ (by rw [Try.underlying23]; rfl) Try.underlying3 h3
  have kF := floor_num y h2
  have hcn := cvN
  have hKn : K < xs.length ∧ M < xs.length := by omega
  obtain ⟨hKn, hMn⟩ := hKn
  have hni : (xs.length : Int) - 1 = (N : Int) := by omega
  obtain ⟨K1, hK1⟩ : ∃ K1 : Nat, K1 = K + 1 := ⟨_, rfl⟩
  have hki : (K : Int) + 1 = (K1 : Int) := by omega
  have hif : (if (N : Int) < (K1 : Int) then (N : Int) else (K1 : Int)) = (M : Int) := by split <;> omega
  have hif2 : (if N < K1 then (N : Int) else (K1 : Int)) = (M : Int) := by split <;> omega
  have hKi : (K : Int) < (xs.length : Int) := by omega
  have hMi : (M : Int) < (xs.length : Int) := by omega
  clear hK1
  have HLK : Hid ((isrt xs).getD K 0 < 18446744073709551616) := isrt_wd xs hw K hKn
  clear h1 h2 h3 h5 h6
  generalize flr y = kw at *
  have hl8 : xs.length * 8 ≤ 140737488355328 := hl
  have k1 := isPart_yes q hp
  have k2 := clone_any g o c xs w0 hg hat hl
  have hne : xs ≠ [] := fun e => by rw [e] at hN; simp at hN
  have hne0 : ((xs.length : Int) == 0) = false := beq_eq_false_iff_ne.2 (by omega)
  have HW : Hid (Wd xs) := hw
  clear hat hg hw hp
  go_enter Try.func19, Try.ntmps19
  go_wp2_with fail
  go_fit (k1 _)
  rintro r w ⟨rfl, rfl⟩
  go_wp2_with fail
  go_fit k2
  rintro r w1 ⟨v, rfl, fr, b1⟩
  obtain ⟨g1, c1, rfl, rf1⟩ := fr.rf hne
  have k3 := sortStable_any w.heap.size g1 c1 xs.length _ w1 rf1 (by omega)
  clear fr rf1 k2
  go_wp2_with fail
  go_fit k3
  rintro r W2 ⟨rfl, ⟨f', rf2, st2, so2⟩, b2⟩
  have B2 : Hid (Below w.heap.size w W2) := b1.trans b2
  have hS : seg f' 0 xs.length = isrt xs := by
    refine isrt_one ?_ (Srt.up (by rw [Nat.zero_add]; exact so2))
    have := st2.2
    rw [Nat.sub_zero, seg_getD0] at this
    exact this
  have hget : ∀ j, j < xs.length → f' j = (isrt xs).getD j 0 := fun j hj => by
    rw [← hS, seg_getD f' j _ 0 hj, Nat.zero_add]
  obtain ⟨xK, hxK⟩ : ∃ xK, xK = (isrt xs).getD K 0 := ⟨_, rfl⟩
  obtain ⟨xM, hxM⟩ : ∃ xM, xM = (isrt xs).getD M 0 := ⟨_, rfl⟩
  have HK : Hid ((isrt xs).getD K 0 = xK) := hxK.symm
  have HM : Hid ((isrt xs).getD M 0 = xM) := hxM.symm
  have CK : Hid (W2.cell? ⟨g1, K, none⟩ = some (.float .f64 xK)) := by show _ = _; rw [rf2.cell K hKn, hget K hKn, ← hxK]
  have CM : Hid (W2.cell? ⟨g1, M, none⟩ = some (.float .f64 xM)) := by show _ = _; rw [rf2.cell M hMn, hget M hMn, ← hxM]
  rw [← hxK] at HLK
  clear rf2 st2 so2 b1 b2 hS hget hxK hxM k3 hne
  generalize xs.length = L at *
  have cK : W2.cell? ⟨g1, K, none⟩ = some (.float .f64 xK) := CK.out
  have cM : W2.cell? ⟨g1, M, none⟩ = some (.float .f64 xM) := CM.out
  by_cases hz : FloatKind.f64.format.order z 0 = some .eq
  · have HV : Hid (quV (isrt xs) K M z = cl xK) := by show _ = _; unfold quV; rw [if_pos hz, HK.out]
    go_wp2_with fail
    go_fit (kF _)
    rintro r w ⟨rfl, rfl⟩
    go_wp2
    go_ret
    exact ⟨_, rfl, B2.out, HLK.out, HV.out.symm⟩
  · have HV : Hid (quV (isrt xs) K M z = fb .add (fb .mul (cl xK) (fb .sub (some 4607182418800017408) (cl z))) (fb .mul (cl xM) (cl z))) := by show _ = _; unfold quV; rw [if_neg hz, HK.out, HM.out]
    have hz' : (FloatKind.f64.format.order z 0 == some .eq) = false := beq_eq_false_iff_ne.2 hz
    clear hz
    go_wp2_with fail
    go_fit (kF _)
    rintro r w ⟨rfl, rfl⟩
    clear r1
    go_wp2_with fail
    refine wp_region_loose (by kernel_rfl) (by kernel_rfl) ?_
    iterate 5 (refine wpLoose_quiet rfl rfl ?_; intro KK hKK; go_big_quiet_op; go_big_quiet_on)
    refine wpLoose_float .sub (.inr (.inl rfl)) 23 23 _ _ rfl rfl _ _ rfl rfl (by rintro _ k' ⟨n', rfl⟩; first | exact ⟨n' + k', World.drewN_drewN _ _ _⟩ | exact ⟨n' + k', by simp [Nat.add_assoc]⟩) ?_
    intro z1 hz1l hz1
    go_simp
    refine wpLoose_float .mul (.inr (.inr (.inl rfl))) 23 23 _ _ rfl rfl _ _ rfl rfl (by rintro _ k' ⟨n', rfl⟩; first | exact ⟨n' + k', World.drewN_drewN _ _ _⟩ | exact ⟨n' + k', by simp [Nat.add_assoc]⟩) ?_
    intro z2 hz2l hz2
    go_simp
    iterate 5 (refine wpLoose_quiet rfl rfl ?_; intro KK hKK; go_big_quiet_op; go_big_quiet_on)
    refine wpLoose_float .mul (.inr (.inr (.inl rfl))) 23 23 _ _ rfl rfl _ _ rfl rfl (by rintro _ k' ⟨n', rfl⟩; first | exact ⟨n' + k', World.drewN_drewN _ _ _⟩ | exact ⟨n' + k', by simp [Nat.add_assoc]⟩) ?_
    intro z3 hz3l hz3
    go_simp
    refine wpLoose_float .add (.inl rfl) 23 23 _ _ rfl rfl _ _ rfl rfl (by rintro _ k' ⟨n', rfl⟩; first | exact ⟨n' + k', World.drewN_drewN _ _ _⟩ | exact ⟨n' + k', by simp [Nat.add_assoc]⟩) ?_
    intro z4 hz4l hz4
    go_simp
    iterate 1 (refine wpLoose_quiet rfl rfl ?_; intro KK hKK; go_big_quiet_op; go_big_quiet_on)
    refine wpLoose_nil ?_
    intro n
    have HE : Hid (cl z4 = quV (isrt xs) K M z) := by
      show _ = _
      rw [HV.out, hz4, hz3, hz2, hz1, cl_lit 4607182418800017408 (by decide)]
    have B3 : Hid _ := below_drewN B2.out n
    clear hz4 hz3 hz2 hz1
    go_wp2
    go_ret
    exact ⟨_, rfl, B3.out, hz4l, HE.out⟩

set_option maxHeartbeats 4000000 in
set_option maxRecDepth 100000 in
theorem rquantile_part (q g o c : Nat) (xs : List Nat) (w0 : World) (N y z K M : Nat) (hp : Pt q) (hg : g < w0.heap.size) (hat : FAt w0 g o xs) (hw : Wd xs) (hl : xs.length * 8 ≤ 140737488355328) (hc : xs.length ≤ c) (hc2 : c ≤ 9223372036854775807) (hN : N + 1 = xs.length) (hq : Qp q N y z K M) :
    Calls Try.prog 20 #[.float .f64 q, .slice (some ⟨g, o, none⟩) xs.length c] w0 (RB w0 (quV (isrt xs) K M z)) := by
  obtain ⟨h1, h2, h3, h4, h5, h6⟩ := hq
  have r1 : ∀ t w, (binOp .mul t (.float .f64 q) (.float .f64 (iw (N : Int)))).run Try.prog w = .ok (.float .f64 y) w := fun t w => run_float_arith w .mul t .f64 _ _ _ h1
  have r2 : ∀ t w, (binOp .sub t (.float .f64 y) (.float .f64 (flr y))).run Try.prog w = .ok (.float .f64 z) w := fun t w => run_float_arith w .sub t .f64 _ _ _ h5
  have r3 : ∀ w, (convert 23 3 (.float .f64 (flr y))).run Try.prog w = .ok (.int .i64 (K : Int)) w := fun w => run_convert_float_int w 23 3 .f64 .i64 _ _ (by rw [Try.underlying23]; rfl) Try.underlying3 h3
  have kF := floor_num y h2
  have hcn := cvN
  have hKn : K < xs.length ∧ M < xs.length := by omega
  obtain ⟨hKn, hMn⟩ := hKn
  have hni : (xs.length : Int) - 1 = (N : Int) := by omega
  obtain ⟨K1, hK1⟩ : ∃ K1 : Nat, K1 = K + 1 := ⟨_, rfl⟩
  have hki : (K : Int) + 1 = (K1 : Int) := by omega
  have hif : (if (N : Int) < (K1 : Int) then (N : Int) else (K1 : Int)) = (M : Int) := by split <;> omega
  have hif2 : (if N < K1 then (N : Int) else (K1 : Int)) = (M : Int) := by split <;> omega
  have hKi : (K : Int) < (xs.length : Int) := by omega
  have hMi : (M : Int) < (xs.length : Int) := by omega
  clear hK1
  have HLK : Hid ((isrt xs).getD K 0 < 18446744073709551616) := isrt_wd xs hw K hKn
  clear h1 h2 h3 h5 h6
  generalize flr y = kw at *
  have hl8 : xs.length * 8 ≤ 140737488355328 := hl
  have k1 := bad_any q
  rw [hp.1] at k1
  have hne : xs ≠ [] := fun e => by rw [e] at hN; simp at hN
  have hne0 : ((xs.length : Int) == 0) = false := beq_eq_false_iff_ne.2 (by omega)
  have k2 := rsorted_any xs.length g o c xs w0 (Nat.le_refl _) hne hc hc2 hg hat hw hl
  have o0 : (FloatKind.f64.format.order q 0 == some .lt) = false := by
    rw [ord0 q hp.1]
    refine beq_eq_false_iff_ne.2 fun h => ?_
    have h1 := Int.compare_eq_lt.1 (Option.some.inj h)
    have := hp.2.1
    omega
  have o1 : (FloatKind.f64.format.order q 4607182418800017408 == some .gt) = false := by
    rw [ord1 q hp.1]
    refine beq_eq_false_iff_ne.2 fun h => ?_
    have h1 := Int.compare_eq_gt.1 (Option.some.inj h)
    have := hp.2.2
    omega
  clear hat hg hw hp
  go_enter Try.func20, Try.ntmps20
  go_wp2_with fail
  go_fit (k1 _)
  rintro r w ⟨rfl, rfl⟩
  go_wp2_with fail
  go_fit k2
  rintro r W2 ⟨v, ys, rfl, fr, s1, u1, d1, l1, b2⟩
  have hS : ys = isrt xs := isrt_one s1 u1
  have hne2 : ys ≠ [] := fun e => by rw [e] at l1; simp at l1; omega
  obtain ⟨g1, c1, rfl, rf2⟩ := fr.rf hne2
  rw [l1] at rf2
  rw [l1]
  have B2 : Hid (Below w.heap.size w W2) := b2
  have hget : ∀ j, j < xs.length → ys.getD j 0 = (isrt xs).getD j 0 := fun j hj => by rw [hS]
  obtain ⟨xK, hxK⟩ : ∃ xK, xK = (isrt xs).getD K 0 := ⟨_, rfl⟩
  obtain ⟨xM, hxM⟩ : ∃ xM, xM = (isrt xs).getD M 0 := ⟨_, rfl⟩
  have HK : Hid ((isrt xs).getD K 0 = xK) := hxK.symm
  have HM : Hid ((isrt xs).getD M 0 = xM) := hxM.symm
  have CK : Hid (W2.cell? ⟨g1, K, none⟩ = some (.float .f64 xK)) := by show _ = _; rw [rf2.cell K hKn, hget K hKn, ← hxK]
  have CM : Hid (W2.cell? ⟨g1, M, none⟩ = some (.float .f64 xM)) := by show _ = _; rw [rf2.cell M hMn, hget M hMn, ← hxM]
  rw [← hxK] at HLK
  clear rf2 s1 u1 d1 l1 fr b2 hS hget hxK hxM k2 hne hne2
  generalize xs.length = L at *
  have cK : W2.cell? ⟨g1, K, none⟩ = some (.float .f64 xK) := CK.out
  have cM : W2.cell? ⟨g1, M, none⟩ = some (.float .f64 xM) := CM.out
  by_cases hz : FloatKind.f64.format.order z 0 = some .eq
  · have HV : Hid (quV (isrt xs) K M z = cl xK) := by show _ = _; unfold quV; rw [if_pos hz, HK.out]
    go_wp2_with fail
    go_fit (kF _)
    rintro r w ⟨rfl, rfl⟩
    go_wp2
    go_ret
    exact ⟨_, rfl, B2.out, HLK.out, HV.out.symm⟩
  · have HV : Hid (quV (isrt xs) K M z = fb .add (fb .mul (cl xK) (fb .sub (some 4607182418800017408) (cl z))) (fb .mul (cl xM) (cl z))) := by show _ = _; unfold quV; rw [if_neg hz, HK.out, HM.out]
    have hz' : (FloatKind.f64.format.order z 0 == some .eq) = false := beq_eq_false_iff_ne.2 hz
    clear hz
    go_wp2_with fail
    go_fit (kF _)
    rintro r w ⟨rfl, rfl⟩
    clear r1
    go_wp2_with fail
    refine wp_region_loose (by kernel_rfl) (by kernel_rfl) ?_
    iterate 5 (refine wpLoose_quiet rfl rfl ?_; intro KK hKK; go_big_quiet_op; go_big_quiet_on)
    refine wpLoose_float .sub (.inr (.inl rfl)) 23 23 _ _ rfl rfl _ _ rfl rfl (by rintro _ k' ⟨n', rfl⟩; first | exact ⟨n' + k', World.drewN_drewN _ _ _⟩ | exact ⟨n' + k', by simp [Nat.add_assoc]⟩) ?_
    intro z1 hz1l hz1
    go_simp
    refine wpLoose_float .mul (.inr (.inr (.inl rfl))) 23 23 _ _ rfl rfl _ _ rfl rfl (by rintro _ k' ⟨n', rfl⟩; first | exact ⟨n' + k', World.drewN_drewN _ _ _⟩ | exact ⟨n' + k', by simp [Nat.add_assoc]⟩) ?_
    intro z2 hz2l hz2
    go_simp
    iterate 5 (refine wpLoose_quiet rfl rfl ?_; intro KK hKK; go_big_quiet_op; go_big_quiet_on)
    refine wpLoose_float .mul (.inr (.inr (.inl rfl))) 23 23 _ _ rfl rfl _ _ rfl rfl (by rintro _ k' ⟨n', rfl⟩; first | exact ⟨n' + k', World.drewN_drewN _ _ _⟩ | exact ⟨n' + k', by simp [Nat.add_assoc]⟩) ?_
    intro z3 hz3l hz3
    go_simp
    refine wpLoose_float .add (.inl rfl) 23 23 _ _ rfl rfl _ _ rfl rfl (by rintro _ k' ⟨n', rfl⟩; first | exact ⟨n' + k', World.drewN_drewN _ _ _⟩ | exact ⟨n' + k', by simp [Nat.add_assoc]⟩) ?_
    intro z4 hz4l hz4
    go_simp
    iterate 1 (refine wpLoose_quiet rfl rfl ?_; intro KK hKK; go_big_quiet_op; go_big_quiet_on)
    refine wpLoose_nil ?_
    intro n
    have HE : Hid (cl z4 = quV (isrt xs) K M z) := by
      show _ = _
      rw [HV.out, hz4, hz3, hz2, hz1, cl_lit 4607182418800017408 (by decide)]
    have B3 : Hid _ := below_drewN B2.out n
    clear hz4 hz3 hz2 hz1
    go_wp2
    go_ret
    exact ⟨_, rfl, B3.out, hz4l, HE.out⟩

set_option maxHeartbeats 1000000 in
theorem quantile_no (q : Nat) (cc : Option Nat) (h : byP q cc) (v : Value) (n : Nat) (a : Option Addr) (c : Nat) (hv : v = .slice a n c) (hn : n ≠ 0) (w : World) : Calls Try.prog 19 #[.float .f64 q, v] w (RB w cc) := by
  subst hv
  have hne0 : ((n : Int) == 0) = false := beq_eq_false_iff_ne.2 (by omega)
  go_enter Try.func19, Try.ntmps19
  go_wp2_with fail
  go_fit (isPart_no q cc h _)
  rintro r w ⟨rfl, rfl⟩
  go_wp2_with fail
  go_fit (beyond_any q cc h _)
  rintro r w2 ⟨z, k, rfl, rfl, hzl, hzc⟩
  have HZ : Hid (cl z = cc) := hzc
  clear hzc
  go_wp2
  go_ret
  exact ⟨_, rfl, below_drewN (Below.refl _ _) _, hzl, HZ.out⟩
set_option maxHeartbeats 1000000 in
theorem rquantile_no (q : Nat) (cc : Option Nat) (h : byP q cc) (v : Value) (n : Nat) (a : Option Addr) (c : Nat) (hv : v = .slice a n c) (hn : n ≠ 0) (w : World) : Calls Try.prog 20 #[.float .f64 q, v] w (RB w cc) := by
  subst hv
  have hne0 : ((n : Int) == 0) = false := beq_eq_false_iff_ne.2 (by omega)
  have k1 := bad_any q
  rcases h with ⟨hn, rfl⟩ | ⟨hn, h, rfl⟩ | ⟨hn, h, rfl⟩
  · rw [hn] at k1
    go_enter Try.func20, Try.ntmps20
    go_wp2_with fail
    go_fit (k1 _)
    rintro r w ⟨rfl, rfl⟩
    go_wp2_with fail
    go_fit (rnan_any _)
    rintro r w ⟨rfl, rfl⟩
    go_wp2
    go_ret
    exact ⟨_, rfl, Below.refl _ _, by decide, cl_theNaN⟩
  · rw [hn] at k1
    have h0 := ord0 q hn
    rw [Int.compare_eq_lt.2 h] at h0
    clear h
    go_enter Try.func20, Try.ntmps20
    go_wp2_with fail
    go_fit (k1 _)
    rintro r w ⟨rfl, rfl⟩
    go_wp2_with fail
    go_fit (rinfm_any _)
    rintro r w ⟨rfl, rfl⟩
    go_wp2
    go_ret
    exact ⟨_, rfl, Below.refl _ _, by decide, cl_lit _ (by decide)⟩
  · rw [hn] at k1
    have h0 := ord0 q hn
    have h1 := ord1 q hn
    rw [Int.compare_eq_gt.2 (show (0 : Int) < ky q by omega)] at h0
    rw [Int.compare_eq_gt.2 h] at h1
    clear h
    go_enter Try.func20, Try.ntmps20
    go_wp2_with fail
    go_fit (k1 _)
    rintro r w ⟨rfl, rfl⟩
    go_wp2_with fail
    go_fit (rinf1_any _)
    rintro r w ⟨rfl, rfl⟩
    go_wp2
    go_ret
    exact ⟨_, rfl, Below.refl _ _, by decide, cl_lit _ (by decide)⟩
set_option maxHeartbeats 1000000 in
theorem quantile_nil (q : Nat) (a : Option Addr) (c : Nat) (w : World) : Calls Try.prog 19 #[.float .f64 q, .slice a 0 c] w (RB w none) := by
  go_enter Try.func19, Try.ntmps19
  go_wp2_with fail
  go_fit (nan_any _)
  rintro r w ⟨rfl, rfl⟩
  go_wp2
  go_ret
  exact ⟨_, rfl, Below.refl _ _, by decide, cl_theNaN⟩
set_option maxHeartbeats 1000000 in
theorem rquantile_nil (q : Nat) (a : Option Addr) (c : Nat) (w : World) : Calls Try.prog 20 #[.float .f64 q, .slice a 0 c] w (RB w none) := by
  go_enter Try.func20, Try.ntmps20
  go_wp2_with fail
  go_fit (rnan_any _)
  rintro r w ⟨rfl, rfl⟩
  go_wp2
  go_ret
  exact ⟨_, rfl, Below.refl _ _, by decide, cl_theNaN⟩
/-- Both sides answer alike. -/
theorem quantile_both (q : Nat) (a : Option Addr) (c : Nat) (xs : List Nat) (w0 : World) (hf : Fm w0 a xs) (hw : Wd xs) (hl : xs.length * 8 ≤ 140737488355328) (hc : xs.length ≤ c) (hc2 : c ≤ 9223372036854775807) :
    ∃ C, (∀ w, Below w0.heap.size w0 w → Calls Try.prog 19 #[.float .f64 q, .slice a xs.length c] w (RB w C)) ∧ (∀ w, Below w0.heap.size w0 w → Calls Try.prog 20 #[.float .f64 q, .slice a xs.length c] w (RB w C)) := by
  rcases hf with rfl | ⟨g, o, rfl, hg, hat⟩
  · exact ⟨none, fun w _ => quantile_nil q a c w, fun w _ => rquantile_nil q a c w⟩
  · by_cases h0 : xs.length = 0
    · rw [h0]
      exact ⟨none, fun w _ => quantile_nil q _ c w, fun w _ => rquantile_nil q _ c w⟩
    · rcases part_or q with hp | ⟨cc, h⟩
      · obtain ⟨y, z, K, M, hq⟩ := qp_ex q (xs.length - 1) hp (by omega)
        refine ⟨_, fun w hb => quantile_part q g o c xs w (xs.length - 1) y z K M hp (Nat.lt_of_lt_of_le hg hb.size) (fun j hj => (hb.cell (p := ⟨g, o + j, none⟩) hg).trans (hat j hj)) hw hl (by omega) hq,
          fun w hb => rquantile_part q g o c xs w (xs.length - 1) y z K M hp (Nat.lt_of_lt_of_le hg hb.size) (fun j hj => (hb.cell (p := ⟨g, o + j, none⟩) hg).trans (hat j hj)) hw hl hc hc2 (by omega) hq⟩
      · exact ⟨cc, fun w _ => quantile_no q cc h _ xs.length _ c rfl h0 w, fun w _ => rquantile_no q cc h _ xs.length _ c rfl h0 w⟩
end Go.Proofs.Ytfjfpplemgjcmab
/- CalcQuantiles: the law's walk. -/
namespace Go.Proofs.Ytfjfpplemgjcmab
open Go.RowKit

abbrev l312 : List Nat := [4613937818241073152, 4607182418800017408, 4611686018427387904]
theorem qp312 : Qp 4602678819172646912 2 4607182418800017408 0 1 2 := ⟨by decide +kernel, by decide, by decide +kernel, by decide, by decide +kernel, by decide⟩
theorem q312 : quV (isrt l312) 1 2 0 = some 4611686018427387904 := by decide +kernel
theorem pt312 : Pt 4602678819172646912 := ⟨by decide, by decide, by decide⟩
theorem fat312 (w : World) : FAt (w.alloc (.cells #[.float .f64 4613937818241073152, .float .f64 4607182418800017408, .float .f64 4611686018427387904] 23)) w.heap.size 0 l312 := fun j hj => by
  unfold World.cell?
  rw [show (w.alloc (.cells #[.float .f64 4613937818241073152, .float .f64 4607182418800017408, .float .f64 4611686018427387904] 23)).heap[w.heap.size]? = some (.cells #[.float .f64 4613937818241073152, .float .f64 4607182418800017408, .float .f64 4611686018427387904] 23) from heap_alloc_new w _]
  have : j < 3 := hj
  rcases (show j = 0 ∨ j = 1 ∨ j = 2 by omega) with rfl | rfl | rfl <;> rfl
theorem wd312 : Wd l312 := fun j hj => by
  have : j < 3 := hj
  rcases (show j = 0 ∨ j = 1 ∨ j = 2 by omega) with rfl | rfl | rfl <;> decide

set_option maxHeartbeats 2000000 in
set_option maxRecDepth 100000 in
theorem quantiles_walk (q : Nat) (a : Option Addr) (c : Nat) (xs : List Nat) (w : World) (hf : Fm w a xs) (hw : Wd xs) (hl : xs.length * 8 ≤ 140737488355328) (hc : xs.length ≤ c) (hc2 : c ≤ 9223372036854775807) :
    Calls Try.prog 5 #[.float .f64 q, .slice a xs.length c] w fun r w' => r = .returned (.bool true) ∧ Below w.heap.size w w' := by
  have k0 := quantile_part 4602678819172646912 w.heap.size 0 3 l312 (w.alloc (.cells #[.float .f64 4613937818241073152, .float .f64 4607182418800017408, .float .f64 4611686018427387904] 23)) 2 _ _ _ _ pt312 (by simp) (fat312 w) wd312 (by decide) (by decide) qp312
  rw [q312, show l312.length = 3 from rfl] at k0
  have hb1 : Below w.heap.size w (w.alloc (.cells #[.float .f64 4613937818241073152, .float .f64 4607182418800017408, .float .f64 4611686018427387904] 23)) := (Below.refl _ _).alloc (Nat.le_refl _) _
  obtain ⟨C, k1, k2⟩ := quantile_both q a c xs w hf hw hl hc hc2
  have K1 : Hid (∀ w1, Below w.heap.size w w1 → Calls Try.prog 19 #[.float .f64 q, .slice a xs.length c] w1 (RB w1 C)) := k1
  have K2 : Hid (∀ w1, Below w.heap.size w w1 → Calls Try.prog 20 #[.float .f64 q, .slice a xs.length c] w1 (RB w1 C)) := k2
  have step : Hid (∀ w1 w2, Below w.heap.size w w1 → Below w1.heap.size w1 w2 → Below w.heap.size w w2) := fun w1 w2 h1 h2 => h1.trans (h2.mono h1.size)
  clear hf hw k1 k2
  go_enter Try.func5, Try.ntmps5
  go_wp2_with fail
  go_fit k0
  rintro r w1 ⟨z, rfl, hb, _, hz⟩
  obtain ⟨rfl, _⟩ := cl_some hz
  have b1 : Hid (Below w.heap.size w w1) := step.out _ _ hb1 hb
  clear hb hb1 hz k0
  go_wp2_with fail
  go_fit (K2.out _ b1.out)
  rintro r w2 ⟨z1, rfl, hb, _, c1⟩
  have b2 : Hid (Below w.heap.size w w2) := step.out _ _ b1.out hb
  have C1 : Hid _ := c1
  clear hb c1
  go_wp2_with fail
  go_fit (K1.out _ b2.out)
  rintro r w3 ⟨y1, rfl, hb, _, d1⟩
  have b3 : Hid (Below w.heap.size w w3) := step.out _ _ b2.out hb
  have k1 := fun w' => alike_any y1 z1 (d1.trans C1.out.symm) w'
  clear hb d1
  go_wp2_with fail
  go_fit (k1 _)
  rintro r _ ⟨rfl, rfl⟩
  go_wp2
  go_ret
  exact ⟨rfl, b3.out⟩
end Go.Proofs.Ytfjfpplemgjcmab
