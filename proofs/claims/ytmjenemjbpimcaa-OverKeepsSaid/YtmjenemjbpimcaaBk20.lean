/- A bundle of texts. -/
import Derived.Test.YtmjenemjbpimcaaBk19
import Derived.Test.YtmjenemjbpimcaaBk11
import Derived.Test.YtmjenemjbpimcaaBk15
/- A list sorted, as a function; parts of one. -/
namespace Go.Proofs.Ytmjenemjbpimcaa
open Go.RowKit

def ins (x : Nat) : List Nat → List Nat
  | [] => [x]
  | y :: l => if ky x ≤ ky y then x :: y :: l else y :: ins x l
/-- Sorted, those alike as they stood. -/
def isrt : List Nat → List Nat
  | [] => []
  | x :: l => ins x (isrt l)
theorem ins_sim (x : Nat) (l : List Nat) : Sim ky (x :: l) (ins x l) := by
  induction l with
  | nil => exact Sim.refl _
  | cons y l ih =>
    unfold ins
    split
    · exact Sim.refl _
    · rename_i h
      have h1 : Sim ky ([x] ++ [y]) ([y] ++ [x]) := Sim.swap _ _ fun a ha b hb => by
        rw [List.mem_singleton.1 ha, List.mem_singleton.1 hb]
        omega
      have h2 : Sim ky (x :: y :: l) (y :: x :: l) := by simpa using h1.append (Sim.refl l)
      have h3 : Sim ky (y :: x :: l) (y :: ins x l) := by simpa using (Sim.refl (k := ky) [y]).append ih
      exact h2.trans h3
theorem ins_up (x : Nat) (l : List Nat) (h : Up ky l) : Up ky (ins x l) := by
  induction l with
  | nil => exact List.pairwise_singleton _ _
  | cons y l ih =>
    unfold ins
    split
    · rename_i hxy
      refine List.pairwise_cons.2 ⟨fun z hz => ?_, h⟩
      rcases List.mem_cons.1 hz with rfl | hz
      · exact hxy
      · have := (List.pairwise_cons.1 h).1 z hz
        omega
    · rename_i hxy
      refine List.pairwise_cons.2 ⟨fun z hz => ?_, ih (List.pairwise_cons.1 h).2⟩
      rcases List.mem_cons.1 ((ins_sim x l).symm.mem z hz) with rfl | hz
      · omega
      · exact (List.pairwise_cons.1 h).1 z hz
theorem isrt_ok (l : List Nat) : Sim ky l (isrt l) ∧ Up ky (isrt l) := by
  induction l with
  | nil => exact ⟨Sim.refl _, List.Pairwise.nil⟩
  | cons x l ih =>
    refine ⟨?_, ins_up x _ ih.2⟩
    have h : Sim ky (x :: l) (x :: isrt l) := by simpa using (Sim.refl (k := ky) [x]).append ih.1
    exact h.trans (ins_sim x _)
theorem isrt_one {xs ys : List Nat} (h1 : Sim ky xs ys) (h2 : Up ky ys) : ys = isrt xs := sim_one (h1.symm.trans (isrt_ok xs).1) h2 (isrt_ok xs).2

/-- A part of one, or none. -/
def Pt (q : Nat) : Prop := nanB q = false ∧ 0 ≤ ky q ∧ ky q ≤ 4607182418800017408
theorem ky0 : ky 0 = 0 := by decide
theorem ky1 : ky 4607182418800017408 = 4607182418800017408 := by decide
/-- What a quantile of no part is. -/
def byP (q : Nat) (c : Option Nat) : Prop := (nanB q = true ∧ c = none) ∨ (nanB q = false ∧ ky q < 0 ∧ c = some 18442240474082181120) ∨ (nanB q = false ∧ 4607182418800017408 < ky q ∧ c = some 9218868437227405312)
theorem part_or (q : Nat) : Pt q ∨ ∃ c, byP q c := by
  cases hn : nanB q with
  | true => exact .inr ⟨none, .inl ⟨hn, rfl⟩⟩
  | false =>
    by_cases h0 : ky q < 0
    · exact .inr ⟨_, .inr (.inl ⟨hn, h0, rfl⟩)⟩
    · by_cases h1 : 4607182418800017408 < ky q
      · exact .inr ⟨_, .inr (.inr ⟨hn, h1, rfl⟩)⟩
      · exact .inl ⟨hn, by omega, by omega⟩
theorem ord0 (q : Nat) (hn : nanB q = false) : FloatKind.f64.format.order q 0 = some (compare (ky q) 0) := by rw [key_order q 0 hn (by decide), ky0]
theorem ord1 (q : Nat) (hn : nanB q = false) : FloatKind.f64.format.order q 4607182418800017408 = some (compare (ky q) 4607182418800017408) := by rw [key_order q _ hn (by decide), ky1]
theorem ordn (q y : Nat) (hn : nanB q = true) : FloatKind.f64.format.order q y = none := by rw [fo_cl, cl_nan hn]; rfl
theorem cmp_cases (a b : Int) : (a < b ∧ compare a b = .lt) ∨ (a = b ∧ compare a b = .eq) ∨ (b < a ∧ compare a b = .gt) := by
  rcases Int.lt_trichotomy a b with h | h | h
  · exact .inl ⟨h, Int.compare_eq_lt.2 h⟩
  · exact .inr (.inl ⟨h, Int.compare_eq_eq.2 h⟩)
  · exact .inr (.inr ⟨h, Int.compare_eq_gt.2 h⟩)

set_option maxHeartbeats 1000000 in
theorem isPart_yes (q : Nat) (h : Pt q) (w : World) : Calls Try.prog 76 #[.float .f64 q] w fun r w' => r = .returned (.bool true) ∧ w' = w := by
  have h0 := ord0 q h.1
  have h1 := ord1 q h.1
  rcases cmp_cases (ky q) 0 with ⟨c, e⟩ | ⟨c, e⟩ | ⟨c, e⟩
  · have := h.2.1; omega
  all_goals
    rw [e] at h0
    rcases cmp_cases (ky q) 4607182418800017408 with ⟨c2, e2⟩ | ⟨c2, e2⟩ | ⟨c2, e2⟩
    · rw [e2] at h1
      clear c c2 e e2
      go_enter Try.func76, Try.ntmps76
      go_wp2
      go_ret
      exact ⟨rfl, rfl⟩
    · rw [e2] at h1
      clear c c2 e e2
      go_enter Try.func76, Try.ntmps76
      go_wp2
      go_ret
      exact ⟨rfl, rfl⟩
    · have := h.2.2; omega
set_option maxHeartbeats 1000000 in
theorem isPart_no (q : Nat) (c : Option Nat) (h : byP q c) (w : World) : Calls Try.prog 76 #[.float .f64 q] w fun r w' => r = .returned (.bool false) ∧ w' = w := by
  rcases h with ⟨hn, -⟩ | ⟨hn, h, -⟩ | ⟨hn, h, -⟩
  · have h0 := ordn q 0 hn
    go_enter Try.func76, Try.ntmps76
    go_wp2
    go_ret
    exact ⟨rfl, rfl⟩
  · have h0 := ord0 q hn
    rw [Int.compare_eq_lt.2 h] at h0
    clear h
    go_enter Try.func76, Try.ntmps76
    go_wp2
    go_ret
    exact ⟨rfl, rfl⟩
  · have h0 := ord0 q hn
    have h1 := ord1 q hn
    rw [Int.compare_eq_gt.2 (show (0 : Int) < ky q by omega)] at h0
    rw [Int.compare_eq_gt.2 h] at h1
    clear h
    go_enter Try.func76, Try.ntmps76
    go_wp2
    go_ret
    exact ⟨rfl, rfl⟩
set_option maxHeartbeats 1000000 in
theorem beyond_any (q : Nat) (c : Option Nat) (h : byP q c) (w : World) : Calls Try.prog 77 #[.float .f64 q] w (RF w c) := by
  rcases h with ⟨hn, rfl⟩ | ⟨hn, h, rfl⟩ | ⟨hn, h, rfl⟩
  · have h0 := ordn q 0 hn
    have h1 := ordn q 4607182418800017408 hn
    go_enter Try.func77, Try.ntmps77
    go_wp2_with fail
    go_fit (nan_any _)
    rintro r w ⟨rfl, rfl⟩
    go_wp2
    go_ret
    exact ⟨_, 0, rfl, rfl, by decide, cl_theNaN⟩
  · have h0 := ord0 q hn
    rw [Int.compare_eq_lt.2 h] at h0
    clear h
    go_enter Try.func77, Try.ntmps77
    go_wp2_with fail
    go_fit (infm_any _)
    rintro r w ⟨rfl, rfl⟩
    go_wp2
    go_ret
    exact ⟨_, 0, rfl, rfl, by decide, cl_lit _ (by decide)⟩
  · have h0 := ord0 q hn
    have h1 := ord1 q hn
    rw [Int.compare_eq_gt.2 (show (0 : Int) < ky q by omega)] at h0
    rw [Int.compare_eq_gt.2 h] at h1
    clear h
    go_enter Try.func77, Try.ntmps77
    go_wp2_with fail
    go_fit (inf1_any _)
    rintro r w ⟨rfl, rfl⟩
    go_wp2
    go_ret
    exact ⟨_, 0, rfl, rfl, by decide, cl_lit _ (by decide)⟩
end Go.Proofs.Ytmjenemjbpimcaa
/- math.Floor. -/
namespace Go.Proofs.Ytmjenemjbpimcaa
open Go.RowKit Ieee

theorem cvN (n : Int) (w : World) : (convert 3 25 (.int .i64 n)).run Try.prog w = .ok (.float .f64 (iw n)) w := run_convert_int_float w 3 25 .i64 .f64 n (by rw [Try.underlying3]; rfl) Try.underlying25
theorem callFloor0 (args : Array Value) (w : World) : (callFunc 91 args).run Try.prog w = ((Extern.MathFloor.toIntegral "math.archFloor" .down args).run Try.prog w).andThen fun v w' => .ok (.value v) w' :=
  run_callFunc_extern Try.func91 (by kernel_rfl) (by kernel_rfl) (by kernel_rfl) (by kernel_rfl) args w
theorem callFloor (y : Nat) (h : nanB y = false) (w : World) : (callFunc 91 #[.float .f64 y]).run Try.prog w = .ok (.value (.float .f64 (flr y))) w := by
  rw [callFloor0, ti_num y _ h]; rfl
set_option maxHeartbeats 400000 in
theorem floor_num (y : Nat) (h : nanB y = false) (w : World) : Calls Try.prog 81 #[.float .f64 y] w fun e w' => e = .returned (.float .f64 (flr y)) ∧ w' = w := by
  have hc := callFloor y h
  go_enter Try.func81, Try.ntmps81
  go_wp2
  go_ret
  exact ⟨rfl, rfl⟩
end Go.Proofs.Ytmjenemjbpimcaa
/- Quantile, on both sides. -/
namespace Go.Proofs.Ytmjenemjbpimcaa
open Go.RowKit Ieee

/-- The quantile out of the sorted list, the place and the rest. -/
def quV (S : List Nat) (K M z : Nat) : Option Nat := if FloatKind.f64.format.order z 0 = some .eq then cl (S.getD K 0) else fb .add (fb .mul (cl (S.getD K 0)) (fb .sub (some 4607182418800017408) (cl z))) (fb .mul (cl (S.getD M 0)) (cl z))
/-- How rank, floor and rest come out. -/
def Qp (q N y z K M : Nat) : Prop := floatBits .mul .f64 q (iw (N : Int)) = some y ∧ nanB y = false ∧ floatToIntVal .f64 (flr y) .i64 = some ((K : Nat) : Int) ∧ K ≤ N ∧ floatBits .sub .f64 y (flr y) = some z ∧ M = min (K + 1) N
theorem qp_ex (q N : Nat) (h : Pt q) (hN : N < 2 ^ 53) : ∃ y z K M, Qp q N y z K M := by
  obtain ⟨y, z, K, h1, h2, h3, h4, h5⟩ := quant_parts q N h.1 h.2.1 h.2.2 hN
  exact ⟨y, z, K, _, h1, h2, h3, h4, h5, rfl⟩
theorem seg_getD0 (xs : List Nat) : seg (fun j => xs.getD j 0) 0 xs.length = xs := by
  refine List.ext_getElem (seg_length _ _ _) fun j h1 h2 => ?_
  rw [seg_length] at h1
  have := seg_getD (fun j => xs.getD j 0) j xs.length 0 h1
  rw [Nat.zero_add] at this
  simp only [List.getD_eq_getElem?_getD, List.getElem?_eq_getElem h1, Option.getD_some] at this
  rw [← this, List.getElem?_eq_getElem (by rw [seg_length]; exact h1)]
  rfl
theorem isrt_wd (xs : List Nat) (h : Wd xs) : ∀ j, j < xs.length → (isrt xs).getD j 0 < 18446744073709551616 := fun j hj => by
  have hall : ∀ x ∈ xs, x < 18446744073709551616 := fun x hx => by
    obtain ⟨i, hi, rfl⟩ := List.mem_iff_getElem.1 hx
    have := h i hi
    simpa [List.getD, hi] using this
  by_cases hl : j < (isrt xs).length
  · have hm : (isrt xs).getD j 0 ∈ isrt xs := by
      simp only [List.getD_eq_getElem?_getD, List.getElem?_eq_getElem hl, Option.getD_some]
      exact List.getElem_mem hl
    exact hall _ ((isrt_ok xs).1.symm.mem _ hm)
  · simp only [List.getD_eq_getElem?_getD, List.getElem?_eq_none (by omega : (isrt xs).length ≤ j), Option.getD_none]
    decide

set_option maxHeartbeats 4000000 in
set_option maxRecDepth 100000 in
theorem quantile_part (q g o c : Nat) (xs : List Nat) (w0 : World) (N y z K M : Nat) (hp : Pt q) (hg : g < w0.heap.size) (hat : FAt w0 g o xs) (hw : Wd xs) (hl : xs.length * 8 ≤ 140737488355328) (hN : N + 1 = xs.length) (hq : Qp q N y z K M) :
    Calls Try.prog 48 #[.float .f64 q, .slice (some ⟨g, o, none⟩) xs.length c] w0 (RB w0 (quV (isrt xs) K M z)) := by
  obtain ⟨h1, h2, h3, h4, h5, h6⟩ := hq
  have r1 : ∀ t w, (binOp .mul t (.float .f64 q) (.float .f64 (iw (N : Int)))).run Try.prog w = .ok (.float .f64 y) w := fun t w => run_float_arith w .mul t .f64 _ _ _ h1
  have r2 : ∀ t w, (binOp .sub t (.float .f64 y) (.float .f64 (flr y))).run Try.prog w = .ok (.float .f64 z) w := fun t w => run_float_arith w .sub t .f64 _ _ _ h5
  have r3 : ∀ w, (convert 25 3 (.float .f64 (flr y))).run Try.prog w = .ok (.int .i64 (K : Int)) w := fun w => run_convert_float_int w 25 3 .f64 .i64 _ _ (by rw [Try.underlying25]; rfl) Try.underlying3 h3
  have kF := floor_num y h2
  have hcn := cvN
  have hKn : K < xs.length ∧ M < xs.length := by omega
  obtain ⟨hKn, hMn⟩ := hKn
  have hni : (xs.length : Int) - 1 = (N : Int) := by omega
  obtain ⟨K1, hK1⟩ : ∃ K1 : Nat, K1 = K + 1 := ⟨_, rfl⟩
  have hki : (K : Int) + 1 = (K1 : Int) := by omega
  have hif : (if (N : Int) < (K1 : Int) then (N : Int) else (K1 : Int)) = (M : Int) := by split <;> omega
  have hif2 : (if N < K1 then (N : Int) else (K1 : Int)) = (M : Int) := by split <;> omega
  have hKi : (K : Int) < (xs.length : Int) := by omega
  have hMi : (M : Int) < (xs.length : Int) := by omega
  clear hK1
  have HLK : Hid ((isrt xs).getD K 0 < 18446744073709551616) := isrt_wd xs hw K hKn
  clear h1 h2 h3 h5 h6
  generalize flr y = kw at *
  have hl8 : xs.length * 8 ≤ 140737488355328 := hl
  have k1 := isPart_yes q hp
  have k2 := clone_any g o c xs w0 hg hat hl
  have hne : xs ≠ [] := fun e => by rw [e] at hN; simp at hN
  have hne0 : ((xs.length : Int) == 0) = false := beq_eq_false_iff_ne.2 (by omega)
  have HW : Hid (Wd xs) := hw
  clear hat hg hw hp
  go_enter Try.func48, Try.ntmps48
  go_wp2_with fail
  go_fit (k1 _)
  rintro r w ⟨rfl, rfl⟩
  go_wp2_with fail
  go_fit k2
  rintro r w1 ⟨v, rfl, fr, b1⟩
  obtain ⟨g1, c1, rfl, rf1⟩ := fr.rf hne
  have k3 := sortStable_any w.heap.size g1 c1 xs.length _ w1 rf1 (by omega)
  clear fr rf1 k2
  go_wp2_with fail
  go_fit k3
  rintro r W2 ⟨rfl, ⟨f', rf2, st2, so2⟩, b2⟩
  have B2 : Hid (Below w.heap.size w W2) := b1.trans b2
  have hS : seg f' 0 xs.length = isrt xs := by
    refine isrt_one ?_ (Srt.up (by rw [Nat.zero_add]; exact so2))
    have := st2.2
    rw [Nat.sub_zero, seg_getD0] at this
    exact this
  have hget : ∀ j, j < xs.length → f' j = (isrt xs).getD j 0 := fun j hj => by
    rw [← hS, seg_getD f' j _ 0 hj, Nat.zero_add]
  obtain ⟨xK, hxK⟩ : ∃ xK, xK = (isrt xs).getD K 0 := ⟨_, rfl⟩
  obtain ⟨xM, hxM⟩ : ∃ xM, xM = (isrt xs).getD M 0 := ⟨_, rfl⟩
  have HK : Hid ((isrt xs).getD K 0 = xK) := hxK.symm
  have HM : Hid ((isrt xs).getD M 0 = xM) := hxM.symm
  have CK : Hid (W2.cell? ⟨g1, K, none⟩ = some (.float .f64 xK)) := by show _ = _; rw [rf2.cell K hKn, hget K hKn, ← hxK]
  have CM : Hid (W2.cell? ⟨g1, M, none⟩ = some (.float .f64 xM)) := by show _ = _; rw [rf2.cell M hMn, hget M hMn, ← hxM]
  rw [← hxK] at HLK
  clear rf2 st2 so2 b1 b2 hS hget hxK hxM k3 hne
  generalize xs.length = L at *
  have cK : W2.cell? ⟨g1, K, none⟩ = some (.float .f64 xK) := CK.out
  have cM : W2.cell? ⟨g1, M, none⟩ = some (.float .f64 xM) := CM.out
  by_cases hz : FloatKind.f64.format.order z 0 = some .eq
  · have HV : Hid (quV (isrt xs) K M z = cl xK) := by show _ = _; unfold quV; rw [if_pos hz, HK.out]
    go_wp2_with fail
    go_fit (kF _)
    rintro r w ⟨rfl, rfl⟩
    go_wp2
    go_ret
    exact ⟨_, rfl, B2.out, HLK.out, HV.out.symm⟩
  · have HV : Hid (quV (isrt xs) K M z = fb .add (fb .mul (cl xK) (fb .sub (some 4607182418800017408) (cl z))) (fb .mul (cl xM) (cl z))) := by show _ = _; unfold quV; rw [if_neg hz, HK.out, HM.out]
    have hz' : (FloatKind.f64.format.order z 0 == some .eq) = false := beq_eq_false_iff_ne.2 hz
    clear hz
    go_wp2_with fail
    go_fit (kF _)
    rintro r w ⟨rfl, rfl⟩
    clear r1
    go_wp2_with fail
    refine wp_region_loose (by kernel_rfl) (by kernel_rfl) ?_
    iterate 5 (refine wpLoose_quiet rfl rfl ?_; intro KK hKK; go_big_quiet_op; go_big_quiet_on)
    refine wpLoose_float .sub (.inr (.inl rfl)) 25 25 _ _ rfl rfl _ _ rfl rfl (by rintro _ k' ⟨n', rfl⟩; first | exact ⟨n' + k', World.drewN_drewN _ _ _⟩ | exact ⟨n' + k', by simp [Nat.add_assoc]⟩) ?_
    intro z1 hz1l hz1
    go_simp
    refine wpLoose_float .mul (.inr (.inr (.inl rfl))) 25 25 _ _ rfl rfl _ _ rfl rfl (by rintro _ k' ⟨n', rfl⟩; first | exact ⟨n' + k', World.drewN_drewN _ _ _⟩ | exact ⟨n' + k', by simp [Nat.add_assoc]⟩) ?_
    intro z2 hz2l hz2
    go_simp
    iterate 5 (refine wpLoose_quiet rfl rfl ?_; intro KK hKK; go_big_quiet_op; go_big_quiet_on)
    refine wpLoose_float .mul (.inr (.inr (.inl rfl))) 25 25 _ _ rfl rfl _ _ rfl rfl (by rintro _ k' ⟨n', rfl⟩; first | exact ⟨n' + k', World.drewN_drewN _ _ _⟩ | exact ⟨n' + k', by simp [Nat.add_assoc]⟩) ?_
    intro z3 hz3l hz3
    go_simp
    refine wpLoose_float .add (.inl rfl) 25 25 _ _ rfl rfl _ _ rfl rfl (by rintro _ k' ⟨n', rfl⟩; first | exact ⟨n' + k', World.drewN_drewN _ _ _⟩ | exact ⟨n' + k', by simp [Nat.add_assoc]⟩) ?_
    intro z4 hz4l hz4
    go_simp
    iterate 1 (refine wpLoose_quiet rfl rfl ?_; intro KK hKK; go_big_quiet_op; go_big_quiet_on)
    refine wpLoose_nil ?_
    intro n
    have HE : Hid (cl z4 = quV (isrt xs) K M z) := by
      show _ = _
      rw [HV.out, hz4, hz3, hz2, hz1, cl_lit 4607182418800017408 (by decide)]
    have B3 : Hid _ := below_drewN B2.out n
    clear hz4 hz3 hz2 hz1
    go_wp2
    go_ret
    exact ⟨_, rfl, B3.out, hz4l, HE.out⟩

set_option maxHeartbeats 1000000 in
theorem quantile_no (q : Nat) (cc : Option Nat) (h : byP q cc) (v : Value) (n : Nat) (a : Option Addr) (c : Nat) (hv : v = .slice a n c) (hn : n ≠ 0) (w : World) : Calls Try.prog 48 #[.float .f64 q, v] w (RB w cc) := by
  subst hv
  have hne0 : ((n : Int) == 0) = false := beq_eq_false_iff_ne.2 (by omega)
  go_enter Try.func48, Try.ntmps48
  go_wp2_with fail
  go_fit (isPart_no q cc h _)
  rintro r w ⟨rfl, rfl⟩
  go_wp2_with fail
  go_fit (beyond_any q cc h _)
  rintro r w2 ⟨z, k, rfl, rfl, hzl, hzc⟩
  have HZ : Hid (cl z = cc) := hzc
  clear hzc
  go_wp2
  go_ret
  exact ⟨_, rfl, below_drewN (Below.refl _ _) _, hzl, HZ.out⟩
set_option maxHeartbeats 1000000 in
theorem quantile_nil (q : Nat) (a : Option Addr) (c : Nat) (w : World) : Calls Try.prog 48 #[.float .f64 q, .slice a 0 c] w (RB w none) := by
  go_enter Try.func48, Try.ntmps48
  go_wp2_with fail
  go_fit (nan_any _)
  rintro r w ⟨rfl, rfl⟩
  go_wp2
  go_ret
  exact ⟨_, rfl, Below.refl _ _, by decide, cl_theNaN⟩
end Go.Proofs.Ytmjenemjbpimcaa
/- Over: quantiles by classes; the median of the distances. -/
namespace Go.Proofs.Ytmjenemjbpimcaa
open Go.RowKit

/-- Sorting on classes. -/
def kyc : Option Nat → Int
  | none => -9223372036854775808
  | some x => ky x
theorem kyc_cl (x : Nat) : kyc (cl x) = ky x := by
  unfold cl
  cases h : nanB x
  · simp [kyc]
  · simp [kyc, ky_nan x h]
def insC (x : Option Nat) : List (Option Nat) → List (Option Nat)
  | [] => [x]
  | y :: l => if kyc x ≤ kyc y then x :: y :: l else y :: insC x l
def isrtC : List (Option Nat) → List (Option Nat)
  | [] => []
  | x :: l => insC x (isrtC l)
theorem ins_cs (x : Nat) : ∀ l, cs (ins x l) = insC (cl x) (cs l)
  | [] => rfl
  | y :: l => by
    show cs (if ky x ≤ ky y then x :: y :: l else y :: ins x l) = if kyc (cl x) ≤ kyc (cl y) then cl x :: cl y :: cs l else cl y :: insC (cl x) (cs l)
    rw [kyc_cl, kyc_cl]
    split
    · rfl
    · rw [← ins_cs x l]; rfl
theorem isrt_cs : ∀ l, cs (isrt l) = isrtC (cs l)
  | [] => rfl
  | x :: l => by
    show cs (ins x (isrt l)) = insC (cl x) (isrtC (cs l))
    rw [ins_cs, isrt_cs l]
theorem cs_at (S : List Nat) (K : Nat) : cl (S.getD K 0) = (cs S).getD K (cl 0) := by
  unfold cs
  simp only [List.getD_eq_getElem?_getD, List.getElem?_map]
  cases S[K]? <;> rfl
def quC (S : List (Option Nat)) (K M z : Nat) : Option Nat := if FloatKind.f64.format.order z 0 = some .eq then S.getD K (cl 0) else fb .add (fb .mul (S.getD K (cl 0)) (fb .sub (some 4607182418800017408) (cl z))) (fb .mul (S.getD M (cl 0)) (cl z))
theorem quV_cs (S : List Nat) (K M z : Nat) : quV S K M z = quC (cs S) K M z := by
  unfold quV quC
  rw [cs_at, cs_at]
/-- What Quantile answers hangs on the classes. -/
theorem quantile_cs (q : Nat) (L : List (Option Nat)) (hl : L.length * 8 ≤ 140737488355328) : ∃ C, ∀ xs, Wd xs → cs xs = L → ∀ W a c, Fm W a xs → Calls Try.prog 48 #[.float .f64 q, .slice a xs.length c] W (RB W C) := by
  by_cases h0 : L.length = 0
  · refine ⟨none, fun xs _ he W a c _ => ?_⟩
    have : xs.length = 0 := by rw [← cs_len, he]; exact h0
    rw [this]
    exact quantile_nil q a c W
  · rcases part_or q with hp | ⟨cc, h⟩
    · obtain ⟨y, z, K, M, hq⟩ := qp_ex q (L.length - 1) hp (by omega)
      refine ⟨quC (isrtC L) K M z, fun xs hw he W a c hf => ?_⟩
      have hlen : xs.length = L.length := by rw [← cs_len, he]
      rcases hf with rfl | ⟨g, o, rfl, hg, hat⟩
      · simp at hlen; omega
      have k := quantile_part q g o c xs W (L.length - 1) y z K M hp hg hat hw (by omega) (by omega) hq
      rw [quV_cs, isrt_cs, he] at k
      exact k
    · refine ⟨cc, fun xs _ he W a c _ => quantile_no q cc h _ xs.length a c rfl ?_ W⟩
      rw [← cs_len, he]
      exact h0
/-- What a function answers that writes over what lies from G on. -/
def RG (G : Nat) (w : World) (c : Option Nat) (r : Ending) (w' : World) : Prop := ∃ z, r = .returned (.float .f64 z) ∧ Below G w w' ∧ z < 18446744073709551616 ∧ cl z = c
def dsF (xs : List Nat) (C : Option Nat) (j : Nat) : Option Nat := ab (fb .sub (cl (xs.getD j 0)) C)
theorem Fr.some {w : World} {S : Nat} {v : Value} {ys : List Nat} (h : Fr w S v ys) (h0 : ys.length ≠ 0) : ∃ g c, v = .slice (some ⟨g, 0, none⟩) ys.length c ∧ ys.length ≤ c ∧ S ≤ g ∧ g < w.heap.size := by
  rcases h.2 with ⟨_, h1⟩ | ⟨g, c, cur, hv, hB, hg, hnc, _⟩
  · exact absurd h1 h0
  · exact ⟨g, c, hv, hnc, hB, (Array.getElem?_eq_some_iff.1 hg).1⟩
set_option maxHeartbeats 8000000 in
set_option maxRecDepth 100000 in
theorem mad_any (G S : Nat) (v : Value) (xs : List Nat) (C1 C2 : Option Nat) (w : World) (hGS : G ≤ S) (hf : Fr w S v xs) (hw : Wd xs) (hn : xs.length ≠ 0) (hl : xs.length * 8 ≤ 140737488355328)
    (h1 : ∀ ys, Wd ys → cs ys = cs xs → ∀ W a c, Fm W a ys → Calls Try.prog 48 #[.float .f64 4602678819172646912, .slice a ys.length c] W (RB W C1))
    (h2 : ∀ ys, Wd ys → cs ys = (List.range xs.length).map (dsF xs C1) → ∀ W a c, Fm W a ys → Calls Try.prog 48 #[.float .f64 4602678819172646912, .slice a ys.length c] W (RB W C2)) :
    Calls Try.prog 50 #[v] w (RG G w C2) := by
  have hsf := @run_store_float Try.prog
  have hs := @run_fsub Try.prog
  obtain ⟨g, c0, rfl, hc0, hSg, hgw⟩ := hf.some hn
  have hm : Fm w (some ⟨g, 0, none⟩) xs := by
    obtain ⟨a', c', e, hm⟩ := hf.fm
    cases e
    exact hm
  have k1 := h1 xs hw rfl w _ c0 hm
  obtain ⟨n, hnn⟩ : ∃ n, n = xs.length := ⟨_, rfl⟩
  have H2 : Hid (∀ ys, ys.length = n → Ls ys n (dsF xs C1) → ∀ W a c, Fm W a ys → Calls Try.prog 48 #[.float .f64 4602678819172646912, .slice a n c] W (RB W C2)) := (show ∀ ys, _ → _ → _ from fun ys hy hls W a c hf => by
    have k := h2 ys (by rw [← hy] at hls; exact hls.wd) (by rw [← hy] at hls; rw [hls.cs, hy, hnn]) W a c hf
    rw [hy] at k
    exact k)
  have HW : Hid (∀ j, j < n → xs.getD j 0 < 18446744073709551616) := (show ∀ j, _ → _ from fun j hj => hw j (by omega))
  have HF : Hid (Fr w S (.slice (some ⟨g, 0, none⟩) n c0) xs) := (show Fr _ _ _ _ by rw [hnn]; exact hf)
  have HN : Hid (n = xs.length) := hnn
  have HG : Hid (G ≤ g ∧ g < w.heap.size) := ⟨by omega, hgw⟩
  have HD : Hid (∀ j, dsF xs C1 j = ab (fb .sub (cl (xs.getD j 0)) C1)) := fun j => rfl
  rw [← hnn] at k1
  rw [← hnn]
  have hn1 : n ≤ 9223372036854775807 := by omega
  generalize dsF xs C1 = D at *
  clear hf h1 h2 hw hm hnn hSg hgw hGS hc0 hn hl
  go_enter Try.func50, Try.ntmps50
  go_wp2_with fail
  go_fit k1
  rintro e w1 ⟨zm, rfl, b1, hlm, hzm⟩
  have O1 : Hid (Fr w1 S (.slice (some ⟨g, 0, none⟩) n c0) xs) := HF.out.below b1
  have B1 : Hid (Below G w w1 ∧ g < w1.heap.size) := ⟨b1.mono (by have := HG.out; omega), Nat.lt_of_lt_of_le HG.out.2 b1.size⟩
  have HM : Hid (cl zm = C1) := hzm
  clear b1 k1 HF hzm
  go_wp2_with fail
  go_loopw [10] (fun iv w' => ∃ (i : Nat) (ys : List Nat), iv = .int .i64 (i : Int) ∧ i ≤ n ∧ Hid (ys.length = n) ∧ Hid (Fr w' S (.slice (some ⟨g, 0, none⟩) n c0) ys) ∧ Hid (Ls ys i D) ∧ Hid (∀ j, i ≤ j → j < n → ys.getD j 0 = xs.getD j 0) ∧ Hid (Below G w w' ∧ g < w'.heap.size)) (fun iv _ => n - (RowKit.intOf iv).toNat)
  case atStart => exact ⟨0, xs, rfl, by omega, HN.out.symm, O1, Ls.nil _ _, fun _ _ _ => rfl, B1⟩
  case round =>
    obtain ⟨i, ys, rfl, hi, hyl, o, hls, hrs, hb⟩ := hrel
    by_cases hlt : i < n
    · have hii : (i : Int) < (n : Int) := by omega
      have o2 := o.out
      rw [← hyl.out] at o2
      have hc2 := o2.cell i (by rw [hyl.out]; exact hlt)
      have hf2 := o2.froz i
      have he := hrs.out i (Nat.le_refl _) hlt
      have lx := HW.out i hlt
      have HI : Hid (i + 1 ≤ n) := hlt
      have hd := HD.out i
      rw [he] at hc2
      obtain ⟨x, hx⟩ : ∃ x, x = xs.getD i 0 := ⟨_, rfl⟩
      rw [← hx] at hc2 lx hd
      clear hx he
      have kA : ∀ W W2, Calls Try.prog 69 #[.float .f64 (fz .sub x zm W)] W2 fun r w' => r = .returned (.float .f64 (fz .sub x zm W % 9223372036854775808)) ∧ w' = W2 := fun W W2 => abs_any _ (fz_lt _ _ _ _) W2
      have HS : Hid (∀ W, Fr ((wr.drewN (fk .sub x zm)).setCell ⟨g, i, none⟩ (.float .f64 (fz .sub x zm W % 9223372036854775808))) S (.slice (some ⟨g, 0, none⟩) n c0) (ys.set i (fz .sub x zm W % 9223372036854775808))) := (show ∀ W, _ from fun W => by
        have := (o2.drew (fk .sub x zm)).set i (fz .sub x zm W % 9223372036854775808)
        rw [hyl.out] at this
        exact this)
      have HL : Hid (∀ W, Ls (ys.set i (fz .sub x zm W % 9223372036854775808)) (i + 1) D) := (show ∀ W, _ from fun W => hls.out.set (by rw [hyl.out]; exact hlt) _ (by rw [cl_ab, cl_fz, HM.out, hd]) (by have := fz_lt .sub x zm W; omega))
      have HY : Hid (∀ z, (ys.set i z).length = n) := (show ∀ z, _ from fun z => by rw [List.length_set, hyl.out])
      have HRs : Hid (∀ z j, i + 1 ≤ j → j < n → (ys.set i z).getD j 0 = xs.getD j 0) := (show ∀ z j, _ → _ → _ from fun z j h1 h2 => by
        rw [List.getD_eq_getElem?_getD, List.getElem?_set_ne (by omega), ← List.getD_eq_getElem?_getD]
        exact hrs.out j (by omega) h2)
      have HB : Hid (∀ z, Below G w ((wr.drewN (fk .sub x zm)).setCell ⟨g, i, none⟩ (.float .f64 z)) ∧ g < ((wr.drewN (fk .sub x zm)).setCell ⟨g, i, none⟩ (.float .f64 z)).heap.size) := (show ∀ z, _ from fun z => ⟨(below_drewN hb.out.1 _).setCell (p := ⟨g, i, none⟩) HG.out.1 _, by simp [World.setCell]; exact hb.out.2⟩)
      clear o2 hd o hls hrs hb
      go_wp2_with fail
      go_fit (kA _ _)
      rintro e w5 ⟨rfl, rfl⟩
      go_wp2
      exact ⟨⟨i + 1, _, by go_num, HI.out, HY.out _, HS.out _, HL.out _, HRs.out _, HB.out _⟩, by simp [RowKit.intOf]; omega⟩
    · have hii : ¬ (i : Int) < (n : Int) := by omega
      obtain rfl : i = n := by omega
      have k2 := H2.out ys hyl.out hls.out wr (some ⟨g, 0, none⟩) c0 (by
        have o2 := o.out
        rw [← hyl.out] at o2
        obtain ⟨a', c', e, hm⟩ := o2.fm
        cases e
        exact hm)
      have BW : Hid (Below G w wr ∧ G ≤ wr.heap.size) := ⟨hb.out.1, by have := HG.out; have := hb.out.2; omega⟩
      clear o hls hrs hb H2 HD HW O1
      go_wp2_with fail
      go_fit k2
      rintro e w6 ⟨z, rfl, b6, hzl, hz⟩
      have B6 : Hid (Below G w w6) := BW.out.1.trans (b6.mono BW.out.2)
      have HZ : Hid (cl z = C2) := hz
      clear b6 hz k2
      go_wp2
      go_ret
      exact ⟨z, rfl, B6.out, hzl, HZ.out⟩
end Go.Proofs.Ytmjenemjbpimcaa
