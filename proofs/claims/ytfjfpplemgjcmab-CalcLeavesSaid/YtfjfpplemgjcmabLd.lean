/- CalcLeaves: the law's walk. -/
import Derived.Test.YtfjfpplemgjcmabLc
namespace Go.Proofs.Ytfjfpplemgjcmab
open Go.RowKit

set_option maxHeartbeats 8000000 in
set_option maxRecDepth 100000 in
theorem leaves_walk (a : Option Addr) (c : Nat) (xs : List Nat) (q : Nat) (ab : Option Addr) (cb m : Nat) (bs : Nat → Bk) (w : World) (hf : Fm w a xs) (hw : Wd xs) (hl : xs.length * 8 ≤ 140737488355328) (hc0 : a = none → c = 0)
    (hfb : Bml w ab bs m) (hwb : BW bs m) (hlb : m * 16 ≤ 140737488355328) (hcb0 : ab = none → cb = 0) :
    Calls Try.prog 6 #[.slice a xs.length c, .float .f64 q, .slice ab m cb] w fun r w' => r = .returned (.bool true) ∧ Below w.heap.size w w' := by
  have k0 := quantile_part 0 w.heap.size 0 3 l312 (w.alloc (.cells #[.float .f64 4613937818241073152, .float .f64 4607182418800017408, .float .f64 4611686018427387904] 23)) 2 _ _ _ _ pt0 (by simp) (fat312 w) wd312 (by decide) (by decide) qp0
  rw [q0312, show l312.length = 3 from rfl] at k0
  have hb1 : Below w.heap.size w (w.alloc (.cells #[.float .f64 4613937818241073152, .float .f64 4607182418800017408, .float .f64 4611686018427387904] 23)) := (Below.refl _ _).alloc (Nat.le_refl _) _
  have step : Hid (∀ w1 w2, Below w.heap.size w w1 → Below w1.heap.size w1 w2 → Below w.heap.size w w2) := fun w1 w2 h1 h2 => h1.trans (h2.mono h1.size)
  have HF : Hid (∀ w1, Below w.heap.size w w1 → Fm w1 a xs) := fun w1 h => hf.below h
  have HB : Hid (∀ w1, Below w.heap.size w w1 → Bml w1 ab bs m) := fun w1 h => hfb.below h
  have HW : Hid (Wd xs) := hw
  have HWB : Hid (BW bs m) := hwb
  have HC : Hid (a = none → c = 0) := hc0
  have HCB : Hid (ab = none → cb = 0) := hcb0
  obtain ⟨n, hn⟩ : ∃ n, n = xs.length := ⟨_, rfl⟩
  have HN : Hid (n = xs.length) := hn
  rw [← hn] at hl ⊢
  clear hf hfb hw hwb hn hc0 hcb0
  have h11 : FloatKind.f64.format.order 4607182418800017408 4607182418800017408 = some .eq := by decide +kernel
  go_enter Try.func6, Try.ntmps6
  go_wp2_with fail
  go_fit k0
  rintro r w1 ⟨z, rfl, hb, _, hz⟩
  obtain ⟨rfl, _⟩ := cl_some hz
  have b1 : Hid (Below w.heap.size w w1) := step.out _ _ hb1 hb
  clear hb hb1 hz k0
  by_cases hn : 4096 < n
  · have hn' : (4096 : Int) < n := by omega
    go_wp2
    go_ret
    exact ⟨rfl, b1.out⟩
  have hn' : ¬ (4096 : Int) < n := by omega
  by_cases hm : 4096 < m
  · have hm' : (4096 : Int) < m := by omega
    go_wp2
    go_ret
    exact ⟨rfl, b1.out⟩
  have hm' : ¬ (4096 : Int) < m := by omega
  obtain ⟨v5, w5, g7, c7, w6, r5, r6, o7, hc7, hg7, b6⟩ := mk7 w1 a c xs (HF.out _ b1.out) HC.out (by have := HN.out; omega) 4635118810238550016 4635189178982727680 4635259547726905344
  rw [← HN.out] at r5 r6 hc7
  have B6 : Hid (Below w.heap.size w w6) := step.out _ _ b1.out b6
  obtain ⟨v8, w8, g9, c9, w9, r8, r9, o9, hc9, hg9, b9⟩ := mk9 w6 ab cb m bs (HB.out _ B6.out) HCB.out (by omega) (4635118810238550016, 0) (0, 4635189178982727680)
  have B9 : Hid (Below w.heap.size w w9) := step.out _ _ B6.out b9
  have LV : Hid (Lv w w9 g7 c7 (xs ++ [4635118810238550016, 4635189178982727680, 4635259547726905344]) (n + 3) g9 c9 (m + 2) (up (up bs m (4635118810238550016, 0)) (m + 1) (0, 4635189178982727680))) :=
    ⟨B9.out, ⟨by rw [List.length_append, ← HN.out]; rfl, own_low (o7.below b9) b1.out.size⟩, own_low o9 B6.out.size, by omega⟩
  clear o7 o9 b6 b9 hg9 hg7
  obtain ⟨Y, hY⟩ : ∃ Y, Y = xs ++ [4635118810238550016, 4635189178982727680, 4635259547726905344] := ⟨_, rfl⟩
  obtain ⟨F, hF⟩ : ∃ F, F = up (up bs m (4635118810238550016, 0)) (m + 1) (0, 4635189178982727680) := ⟨_, rfl⟩
  rw [← hY, ← hF] at LV
  have HY : Hid (∀ j, j < n → Y.getD j 0 = xs.getD j 0) := fun j hj => by rw [hY]; rw [HN.out] at hj; simp [List.getD, List.getElem?_append_left hj]
  have HY0 : Hid (Y.getD n 0 = 4635118810238550016 ∧ Y.getD (n + 1) 0 = 4635189178982727680 ∧ Y.getD (n + 2) 0 = 4635259547726905344) := by
    rw [hY, HN.out]; exact ⟨by simp [List.getD], by simp [List.getD], by simp [List.getD]⟩
  have HFb : Hid (∀ j, j < m → F j = bs j) := fun j hj => by rw [hF]; exact up_lt j hj
  have HF0 : Hid ((F m).1 = 4635118810238550016 ∧ (F (m + 1)).2 = 4635189178982727680) := by
    rw [hF]; exact ⟨by simp [up], by simp [up]⟩
  clear hY hF
  have hnm : n ≤ 4096 ∧ m ≤ 4096 := ⟨by omega, by omega⟩
  have K19 : Hid (∀ W, Lv w W g7 c7 Y (n + 3) g9 c9 (m + 2) F → Calls Try.prog 19 #[.float .f64 q, .slice (some ⟨g7, 0, none⟩) n c7] W fun r w' => ∃ C, QV q xs C ∧ RB W C r w') := fun W h => by
    have := quant_prog q (some ⟨g7, 0, none⟩) c7 xs W (h.fm xs (by rw [← HN.out]; omega) (by rw [← HN.out]; exact HY.out)) HW.out (by rw [← HN.out]; exact hnm.1)
    rw [← HN.out] at this
    exact this
  have KF : Hid (∀ W, Lv w W g7 c7 Y (n + 3) g9 c9 (m + 2) F → Fm W (some ⟨g7, 0, none⟩) xs) := fun W h => h.fm xs (by rw [← HN.out]; omega) (by rw [← HN.out]; exact HY.out)
  have K21 : Hid (∀ W, Lv w W g7 c7 Y (n + 3) g9 c9 (m + 2) F → Calls Try.prog 21 #[.slice (some ⟨g7, 0, none⟩) n c7] W (RF W (sumF (cs xs)))) := fun W h => by
    have := sum_any (some ⟨g7, 0, none⟩) c7 xs W (KF.out W h) HW.out (by rw [← HN.out]; omega)
    rw [← HN.out] at this
    exact this
  have K22 : Hid (∀ W, Lv w W g7 c7 Y (n + 3) g9 c9 (m + 2) F → Calls Try.prog 22 #[.float .f64 q, .slice (some ⟨g9, 0, none⟩) m c9] W fun r w' => ∃ d, DQ q bs m d ∧ RB W d r w') := fun W h =>
    (bu_prog q (some ⟨g9, 0, none⟩) c9 m F W (h.bml m (by omega)) (fun j hj => by rw [HFb.out j hj]; exact HWB.out j hj) (by omega)).mono fun r w' ⟨d, h1, h2⟩ => ⟨d, h1.congr HFb.out, h2⟩
  have K23 : Hid (∀ W, Lv w W g7 c7 Y (n + 3) g9 c9 (m + 2) F → Calls Try.prog 23 #[.slice (some ⟨g7, 0, none⟩) n c7] W (RB W (meanF xs))) := fun W h => by
    have := mean_any (some ⟨g7, 0, none⟩) c7 xs W (KF.out W h) HW.out (by rw [← HN.out]; omega)
    rw [← HN.out] at this
    exact this
  have K24 : Hid (∀ W, Lv w W g7 c7 Y (n + 3) g9 c9 (m + 2) F → Calls Try.prog 24 #[.slice (some ⟨g7, 0, none⟩) n c7] W (RB W (varF xs))) := fun W h => by
    have := variance_any (some ⟨g7, 0, none⟩) c7 xs W (KF.out W h) HW.out (by rw [← HN.out]; omega)
    rw [← HN.out] at this
    exact this
  have K25 : Hid (∀ W, Lv w W g7 c7 Y (n + 3) g9 c9 (m + 2) F → Calls Try.prog 25 #[.slice (some ⟨g7, 0, none⟩) n c7] W (RB W (sprF xs))) := fun W h => by
    have := spread_any (some ⟨g7, 0, none⟩) c7 xs W (KF.out W h) HW.out (by rw [← HN.out]; omega)
    rw [← HN.out] at this
    exact this
  have K26 : Hid (∀ W, Lv w W g7 c7 Y (n + 3) g9 c9 (m + 2) F → Calls Try.prog 26 #[.slice (some ⟨g7, 0, none⟩) n c7, .float .f64 4599075939470750515, .float .f64 4604480259023595110] W (RF W (smoF (cl 4599075939470750515) (cl 4604480259023595110) xs))) := fun W h => by
    have := smooth_any (some ⟨g7, 0, none⟩) c7 xs 4599075939470750515 4604480259023595110 W (KF.out W h) HW.out (by rw [← HN.out]; omega)
    rw [← HN.out] at this
    exact this
  generalize smoF (cl 4599075939470750515) (cl 4604480259023595110) xs = R26 at K26
  generalize sprF xs = R25 at K25
  generalize varF xs = R24 at K24
  generalize meanF xs = R23 at K23
  generalize hR21 : sumF (cs xs) = R21 at K21
  have HR21 : Hid (sumF (cs xs) = R21) := hR21
  clear hR21
  clear KF
  go_wp2_with (first | (at_builtin; refine wpList_append_run rfl (.tmp 34) (.tmp 35) 35 35 rfl _ _ rfl rfl r5 ?_) | (at_builtin; refine wpList_append_run rfl (.tmp 36) (.tmp 37) 35 35 rfl _ _ rfl rfl r6 ?_) | (at_builtin; refine wpList_append_run rfl (.tmp 43) (.tmp 44) 38 38 rfl _ _ rfl rfl r8 ?_) | (at_builtin; refine wpList_append_run rfl (.tmp 45) (.tmp 48) 38 38 rfl _ _ rfl rfl r9 ?_))
  clear r5 r6 r8 r9
  go_fit (K19.out _ LV.out)
  rintro r w10 ⟨C1, hC1, z1, rfl, hb, _, hz1⟩
  have L10 : Hid (Lv w w10 g7 c7 Y (n + 3) g9 c9 (m + 2) F) := LV.out.below hb
  have QC : Hid (QV q xs C1 ∧ cl z1 = C1) := ⟨hC1, hz1⟩
  clear hb hC1 hz1 LV
  go_wp2_with fail
  go_fit (K21.out _ L10.out)
  rintro r w11 ⟨z2, k, rfl, rfl, _, hz2⟩
  have L11 : Hid (Lv w (w10.drewN k) g7 c7 Y (n + 3) g9 c9 (m + 2) F) := L10.out.drew k
  have SC : Hid (cl z2 = R21) := hz2
  clear hz2 L10
  go_wp2_with fail
  go_fit (K22.out _ L11.out)
  rintro r w12 ⟨D1, hD1, z3, rfl, hb, _, hz3⟩
  have L12 : Hid (Lv w w12 g7 c7 Y (n + 3) g9 c9 (m + 2) F) := L11.out.below hb
  have DC : Hid (DQ q bs m D1 ∧ cl z3 = D1) := ⟨hD1, hz3⟩
  clear hb hD1 hz3 L11
  go_wp2_with fail
  go_fit (K23.out _ L12.out)
  rintro r w13 ⟨z4, rfl, hb, _, _⟩
  have L13 : Hid (Lv w w13 g7 c7 Y (n + 3) g9 c9 (m + 2) F) := L12.out.below hb
  clear hb L12
  go_wp2_with fail
  go_fit (K24.out _ L13.out)
  rintro r w14 ⟨z5, rfl, hb, _, _⟩
  have L14 : Hid (Lv w w14 g7 c7 Y (n + 3) g9 c9 (m + 2) F) := L13.out.below hb
  clear hb L13
  go_wp2_with fail
  go_fit (K25.out _ L14.out)
  rintro r w15 ⟨z6, rfl, hb, _, _⟩
  have L15 : Hid (Lv w w15 g7 c7 Y (n + 3) g9 c9 (m + 2) F) := L14.out.below hb
  clear hb L14
  go_wp2_with fail
  go_fit (K26.out _ L15.out)
  rintro r w16' ⟨z7, k7, rfl, rfl, _, _⟩
  have L16 : Hid (Lv w (w15.drewN k7) g7 c7 Y (n + 3) g9 c9 (m + 2) F) := L15.out.drew k7
  clear L15
  generalize w15.drewN k7 = w16 at *
  clear K23 K24 K25 K26 b1 B6 B9
  have HG : Hid (w.heap.size ≤ w16.heap.size) := L16.out.bel.size
  have B16 : Hid (Below w.heap.size w w16) := L16.out.bel
  have O0 : Hid (Sr w16 w16.heap.size (.slice none 0 0) 0 (smpOf xs)) := World.ownsRow_nil _ _ _ _
  have hb16 : Below w16.heap.size w16 w16 := Below.refl _ _
  go_wp2_with fail
  go_loopw [14, 15] (fun sv iv w' => ∃ (i : Nat) (A : Option Addr) (C : Nat), iv = .int .i64 (i : Int) ∧ i ≤ n ∧ sv = .slice A i C ∧ Hid (Sr w' w16.heap.size (.slice A i C) i (smpOf xs)) ∧ Below w16.heap.size w16 w') (fun _ iv _ => n - (RowKit.intOf iv).toNat)
  case atStart => exact ⟨0, none, 0, rfl, by omega, rfl, O0, hb16⟩
  case round =>
    obtain ⟨i, A, C, rfl, hi, rfl, o, hb⟩ := hrel
    by_cases hlt : i < n
    · have hii : (i : Int) < n := by omega
      rcases HF.out _ (step.out _ _ B16.out hb) with h0 | ⟨g, of_, rfl, hg, hat⟩
      · rw [HN.out, h0] at hlt; simp at hlt
      have q1 := hat i (by rw [← HN.out]; exact hlt)
      obtain ⟨v', w', r, o', b'⟩ := append_m wr w16.heap.size (.slice A i C) i (smpOf xs) hb.size (by omega) o.out
      obtain ⟨A', C', rfl, _, _⟩ := o'.sml
      have O' : Hid _ := o'
      have HB' : Hid (Below w16.heap.size w16 w') := hb.trans b'
      have HI : Hid (i + 1 ≤ n) := hlt
      have r' : (Builtin.append_ #[22, 22] 22 #[.slice A i C, .slice (some ⟨wr.heap.size, 0, none⟩) 1 1]).run Try.prog (wr.alloc (.cells #[.int .i64 ((i : Int) * 1000 + 7), .float .f64 (xs.getD i 0), .bool ((i : Int) % 3 == 0)] 27)) = .ok (.slice A' (i + 1) C') w' := r
      clear o' b' hat o r
      generalize xs.getD i 0 = ux at *
      go_wp2_with (at_builtin; refine wpList_append_run rfl (.tmp 76) (.tmp 88) 22 22 rfl _ _ rfl rfl r' ?_)
      exact ⟨⟨i + 1, A', C', by go_num, HI, rfl, O', HB'.out⟩, by simp [RowKit.intOf]; omega⟩
    · have hii : ¬ (i : Int) < n := by omega
      obtain rfl : n = i := by omega
      obtain ⟨A', C', e, hml, hcm⟩ := o.out.sml
      cases e
      have LW : Hid (Lv w wr g7 c7 Y (n + 3) g9 c9 (m + 2) F) := L16.out.below hb
      have HSM : Hid (Sml wr A (smpOf xs) n) := hml
      have hsw : SW (smpOf xs) n := fun j hj => ⟨by show -9223372036854775808 ≤ (j : Int) * 1000 + 7; omega, by show (j : Int) * 1000 + 7 ≤ 9223372036854775807; omega, HW.out j (by rw [← HN.out]; exact hj)⟩
      have k9 := line_any A C n (smpOf xs) 500 wr hml hsw hcm (by omega)
      have K14 : Hid (∀ W, Sml W A (smpOf xs) n → Calls Try.prog 14 #[.slice A n C, .int .i64 3000] W (RC W (tuF (fun j => df (smpOf xs j).t (smpOf xs 0).t) (fun j => (smpOf xs j).v) n 3000))) := fun W h => turn_any A C n (smpOf xs) 3000 W h (by omega)
      have K10 : Hid (∀ W, Sml W A (smpOf xs) n → Calls Try.prog 10 #[.slice A n C, .int .i64 3000] W (RB W (beF (fun j => df (smpOf xs j).t (smpOf xs 0).t) (fun j => (smpOf xs j).v) n 3000))) := fun W h => beat_any A C n (smpOf xs) 3000 W h (by omega)
      generalize liS (fun j => df (smpOf xs j).t 500) (fun j => (smpOf xs j).v) n (lvB (smpOf xs) n) = R1 at k9
      generalize liV (fun j => df (smpOf xs j).t 500) (fun j => (smpOf xs j).v) n (lvB (smpOf xs) n) = R2 at k9
      generalize tuF (fun j => df (smpOf xs j).t (smpOf xs 0).t) (fun j => (smpOf xs j).v) n 3000 = R3 at K14
      generalize beF (fun j => df (smpOf xs j).t (smpOf xs 0).t) (fun j => (smpOf xs j).v) n 3000 = R4 at K10
      clear hml hsw o hb L16 O0 hb16 B16 HG
      go_wp2_with fail
      go_fit k9
      rintro r w18 ⟨x1, x2, rfl, hb, _, _, _, _⟩
      have L18 : Hid (Lv w w18 g7 c7 Y (n + 3) g9 c9 (m + 2) F) := LW.out.below hb
      have S18 : Hid (Sml w18 A (smpOf xs) n) := HSM.out.below hb
      clear hb LW HSM k9
      go_wp2_with fail
      go_fit (K14.out _ S18.out)
      rintro r w19 ⟨x3, x4, rfl, hb, _, _, _⟩
      have L19 : Hid (Lv w w19 g7 c7 Y (n + 3) g9 c9 (m + 2) F) := L18.out.below hb
      have S19 : Hid (Sml w19 A (smpOf xs) n) := S18.out.below hb
      clear hb L18 S18
      go_wp2_with fail
      go_fit (K10.out _ S19.out)
      rintro r w20 ⟨x5, rfl, hb, _, _⟩
      have L20 : Hid (Lv w w20 g7 c7 Y (n + 3) g9 c9 (m + 2) F) := L19.out.below hb
      have S20 : Hid (∀ W, Below w20.heap.size w20 W → Sml W A (smpOf xs) n) := fun W h => (S19.out.below hb).below h
      have hb20 : Below w20.heap.size w20 w20 := Below.refl _ _
      clear hb L19 S19 K14 K10
      go_wp2_with fail
      go_loopw [16] (fun iv w' => ∃ (i : Nat), iv = .int .i64 (i : Int) ∧ i ≤ n ∧ Below w20.heap.size w20 w') (fun iv _ => n - (RowKit.intOf iv).toNat)
      case atStart => exact ⟨0, rfl, by omega, hb20⟩
      case round =>
        obtain ⟨i, rfl, hi, hb⟩ := hrel
        by_cases hlt : i < n
        · have hii : (i : Int) < n := by omega
          have HFw := HF.out _ (step.out _ _ L20.out.bel hb)
          rcases S20.out _ hb with h0 | ⟨gs, os, rfl, hgs, hats⟩
          · omega
          rcases HFw with h0 | ⟨g, of_, rfl, hg, hat⟩
          · rw [HN.out, h0] at hlt; simp at hlt
          have q1 := hat i (by rw [← HN.out]; exact hlt)
          obtain ⟨s1, s2, s3⟩ := hats i hlt
          have s1' : wr.cell? ⟨gs, os + i * 3, none⟩ = some (.int .i64 ((i : Int) * 1000 + 7)) := s1
          have s2' : wr.cell? ⟨gs, os + i * 3 + 1, none⟩ = some (.float .f64 (xs.getD i 0)) := s2
          have s3' : wr.cell? ⟨gs, os + i * 3 + 2, none⟩ = some (.bool ((i : Int) % 3 == 0)) := s3
          have kA := fun W => alike_any (xs.getD i 0) (xs.getD i 0) rfl W
          have HI : Hid (i + 1 ≤ n) := hlt
          have hic : i < C := by omega
          generalize xs.getD i 0 = ux at *
          clear hat hats s1 s2 s3
          go_wp2_with fail
          go_quiet (exact Calls.quiet_of_same (kA _))
          go_wp2
          all_goals exact ⟨⟨i + 1, by go_num, HI.out, below_drewN hb _⟩, by simp [RowKit.intOf]; omega⟩
        · have hii : ¬ (i : Int) < n := by omega
          have L21 : Hid (Lv w wr g7 c7 Y (n + 3) g9 c9 (m + 2) F) := L20.out.below hb
          clear hb L20 S20 hb20
          obtain ⟨w21, e21⟩ : ∃ x, x = wr := ⟨_, rfl⟩
          subst e21
          have hb21 : Below w21.heap.size w21 w21 := Below.refl _ _
          go_wp2_with fail
          go_loopw [17] (fun iv w' => ∃ (i : Nat), iv = .int .i64 (i : Int) ∧ i ≤ n ∧ Below w21.heap.size w21 w') (fun iv _ => n - (RowKit.intOf iv).toNat)
          case atStart => exact ⟨0, rfl, by omega, hb21⟩
          case round =>
            obtain ⟨i, rfl, hi, hb⟩ := hrel
            by_cases hlt : i < n
            · have hii : (i : Int) < n := by omega
              rcases HF.out _ (step.out _ _ L21.out.bel hb) with h0 | ⟨g, of_, rfl, hg, hat⟩
              · rw [HN.out, h0] at hlt; simp at hlt
              have q1 := hat i (by rw [← HN.out]; exact hlt)
              have q2 := (L21.out.below hb).cell i (by omega)
              rw [HY.out i hlt] at q2
              have kA := fun W => alike_any (xs.getD i 0) (xs.getD i 0) rfl W
              have HI : Hid (i + 1 ≤ n) := hlt
              have hii3 : (i : Int) < (n : Int) + 3 := by omega
              generalize xs.getD i 0 = ux at *
              clear hat
              go_wp2_with fail
              go_quiet (exact Calls.quiet_of_same (kA _))
              go_wp2
              all_goals exact ⟨⟨i + 1, by go_num, HI.out, below_drewN hb _⟩, by simp [RowKit.intOf]; omega⟩
            · have hii : ¬ (i : Int) < n := by omega
              have L22 : Hid (Lv w wr g7 c7 Y (n + 3) g9 c9 (m + 2) F) := L21.out.below hb
              clear hb L21 hb21
              obtain ⟨w22, e22⟩ : ∃ x, x = wr := ⟨_, rfl⟩
              subst e22
              have hb22 : Below w22.heap.size w22 w22 := Below.refl _ _
              go_wp2_with fail
              go_loopw [18] (fun iv w' => ∃ (i : Nat), iv = .int .i64 (i : Int) ∧ i ≤ m ∧ Below w22.heap.size w22 w') (fun iv _ => m - (RowKit.intOf iv).toNat)
              case atStart => exact ⟨0, rfl, by omega, hb22⟩
              case round =>
                obtain ⟨i, rfl, hi, hb⟩ := hrel
                by_cases hlt : i < m
                · have hii : (i : Int) < m := by omega
                  rcases HB.out _ (step.out _ _ L22.out.bel hb) with h0 | ⟨g, of_, rfl, hg, hat⟩
                  · omega
                  obtain ⟨q1, q2⟩ := hat i hlt
                  have q3 := (L22.out.below hb).cellU i (by omega)
                  have q4 := (L22.out.below hb).cellC i (by omega)
                  rw [HFb.out i hlt] at q3 q4
                  have kA := fun x W => alike_any x x rfl W
                  have HI : Hid (i + 1 ≤ m) := hlt
                  have hii3 : (i : Int) < (m : Int) + 2 := by omega
                  generalize (bs i).1 = u1 at *
                  generalize (bs i).2 = u2 at *
                  clear hat
                  go_wp2_with fail
                  go_quiet (exact Calls.quiet_of_same (kA _ _))
                  go_wp2
                  all_goals exact ⟨⟨i + 1, by go_num, HI.out, below_drewN hb _⟩, by simp [RowKit.intOf]; omega⟩
                · have hii : ¬ (i : Int) < m := by omega
                  have L23 : Hid (Lv w wr g7 c7 Y (n + 3) g9 c9 (m + 2) F) := L22.out.below hb
                  clear hb L22 hb22
                  obtain ⟨w23, e23⟩ : ∃ x, x = wr := ⟨_, rfl⟩
                  subst e23
                  obtain ⟨N1, hN1⟩ : ∃ x : Nat, x = n + 1 := ⟨_, rfl⟩
                  obtain ⟨N2, hN2⟩ : ∃ x : Nat, x = n + 2 := ⟨_, rfl⟩
                  obtain ⟨M1, hM1⟩ : ∃ x : Nat, x = m + 1 := ⟨_, rfl⟩
                  have y0 := L23.out.cell n (by omega)
                  have y1 := L23.out.cell N1 (by omega)
                  have y2 := L23.out.cell N2 (by omega)
                  have u0 := L23.out.cellU m (by omega)
                  have u1 := L23.out.cellC M1 (by omega)
                  rw [HY0.out.1] at y0
                  rw [show Y.getD N1 0 = 4635189178982727680 by rw [hN1]; exact HY0.out.2.1] at y1
                  rw [show Y.getD N2 0 = 4635259547726905344 by rw [hN2]; exact HY0.out.2.2] at y2
                  rw [HF0.out.1] at u0
                  rw [show (F M1).2 = 4635189178982727680 by rw [hM1]; exact HF0.out.2] at u1
                  have e1 : (n : Int) + 1 = (N1 : Int) := by omega
                  have e2 : (n : Int) + 2 = (N2 : Int) := by omega
                  have e3 : (m : Int) + 1 = (M1 : Int) := by omega
                  have l1 : (N1 : Int) < (n : Int) + 3 := by omega
                  have l2 : (N2 : Int) < (n : Int) + 3 := by omega
                  have l3 : (M1 : Int) < (m : Int) + 2 := by omega
                  have f1 : FloatKind.f64.format.order 4635118810238550016 4635118810238550016 = some .eq := by decide +kernel
                  have f2 : FloatKind.f64.format.order 4635189178982727680 4635189178982727680 = some .eq := by decide +kernel
                  have f3 : FloatKind.f64.format.order 4635259547726905344 4635259547726905344 = some .eq := by decide +kernel
                  clear hN1 hN2 hM1
                  have hsf := @run_store_float Try.prog
                  go_wp2_with fail
                  clear y0 y1 y2 u0 u1 e1 e2 e3 l1 l2 l3 f1 f2 f3
                  have Z0 : Hid (∀ j, j < 0 → Y.getD j 0 = 4607182418800017408) := fun j hj => absurd hj (by omega)
                  go_loopw [19] (fun iv w' => ∃ (i : Nat) (ys : List Nat), iv = .int .i64 (i : Int) ∧ i ≤ n ∧ Hid (Lv w w' g7 c7 ys (n + 3) g9 c9 (m + 2) F) ∧ Hid (∀ j, j < i → ys.getD j 0 = 4607182418800017408)) (fun iv _ => n - (RowKit.intOf iv).toNat)
                  case atStart => exact ⟨0, Y, rfl, by omega, L23, Z0⟩
                  case round =>
                    obtain ⟨i, ys, rfl, hi, L, Z⟩ := hrel
                    by_cases hlt : i < n
                    · have hii : (i : Int) < n := by omega
                      have q1 := L.out.cell i (by omega)
                      have q2 := L.out.froz7 i
                      have L' : Hid (Lv w (wr.setCell ⟨g7, i, none⟩ (.float .f64 4607182418800017408)) g7 c7 (ys.set i 4607182418800017408) (n + 3) g9 c9 (m + 2) F) := L.out.set7 i _
                      have Z' : Hid (∀ j, j < i + 1 → (ys.set i 4607182418800017408).getD j 0 = 4607182418800017408) := fun j hj => by
                        by_cases e : j = i
                        · subst e
                          have : j < ys.length := by rw [L.out.2.1.1]; omega
                          simp [List.getD, this]
                        · have := Z.out j (by omega)
                          simpa [List.getD, List.getElem?_set_ne (Ne.symm e)] using this
                      have HI : Hid (i + 1 ≤ n) := hlt
                      generalize ys.getD i 0 = ux at *
                      go_wp2
                      all_goals exact ⟨⟨i + 1, _, by go_num, HI.out, L', Z'⟩, by simp [RowKit.intOf]; omega⟩
                    · have hii : ¬ (i : Int) < n := by omega
                      obtain rfl : n = i := by omega
                      obtain ⟨w24, e24⟩ : ∃ x, x = wr := ⟨_, rfl⟩
                      subst e24
                      clear Z0 L23
                      have hcv := cvn
                      have kI := inf1_any
                      have BF : Hid (BW F m) := fun j hj => by rw [HFb.out j hj]; exact HWB.out j hj
                      go_wp2_with fail
                      go_loopw [20] (fun iv w' => ∃ (i : Nat) (f : Nat → Bk), iv = .int .i64 (i : Int) ∧ i ≤ m ∧ Hid (Lv w w' g7 c7 ys (n + 3) g9 c9 (m + 2) f) ∧ Hid (BW f m)) (fun iv _ => m - (RowKit.intOf iv).toNat)
                      case atStart => exact ⟨0, F, rfl, by omega, L, BF⟩
                      case round =>
                        obtain ⟨i, f, rfl, hi, L, BF⟩ := hrel
                        by_cases hlt : i < m
                        · have hii : (i : Int) < m := by omega
                          have q1 := L.out.cellU i (by omega)
                          have q2 := L.out.cellC i (by omega)
                          have q3 := L.out.froz9 (i * 2)
                          have q4 := L.out.froz9 (i * 2 + 1)
                          have L' : Hid (Lv w ((wr.setCell ⟨g9, i * 2, none⟩ (.float .f64 9218868437227405312)).setCell ⟨g9, i * 2 + 1, none⟩ (.float .f64 (nW i))) g7 c7 ys (n + 3) g9 c9 (m + 2) (up f i (9218868437227405312, nW i))) := L.out.set9 i (by omega) (9218868437227405312, nW i)
                          have Z' : Hid (BW (up f i (9218868437227405312, nW i)) m) := fun j hj => by
                            by_cases e : j = i
                            · subst e
                              rw [show up f j (9218868437227405312, nW j) j = (9218868437227405312, nW j) from if_pos rfl]
                              exact ⟨show 9218868437227405312 < 18446744073709551616 by decide, nW_lt j⟩
                            · rw [show up f i (9218868437227405312, nW i) j = f j from if_neg e]
                              exact BF.out j hj
                          have HI : Hid (i + 1 ≤ m) := hlt
                          generalize (f i).1 = u1 at *
                          generalize (f i).2 = u2 at *
                          go_wp2_with fail
                          go_fit (kI _)
                          rintro r _ ⟨rfl, rfl⟩
                          go_wp2
                          all_goals exact ⟨⟨i + 1, _, by go_num, HI.out, L', Z'⟩, by simp [RowKit.intOf]; omega⟩
                        · have hii : ¬ (i : Int) < m := by omega
                          obtain ⟨w25, e25⟩ : ∃ x, x = wr := ⟨_, rfl⟩
                          subst e25
                          have ZO : Hid (Ones (List.replicate n 4607182418800017408)) := fun j hj => by
                            rw [List.length_replicate] at hj
                            simp [List.getD, hj]
                          have KO : Hid (∀ W, Lv w W g7 c7 ys (n + 3) g9 c9 (m + 2) f → Fm W (some ⟨g7, 0, none⟩) (List.replicate n 4607182418800017408)) := fun W h => h.fm _ (by rw [List.length_replicate]; omega) (fun j hj => by
                            rw [List.length_replicate] at hj
                            rw [Z.out j hj]
                            simp [List.getD, hj])
                          have KS : Hid (∀ W, Lv w W g7 c7 ys (n + 3) g9 c9 (m + 2) f → Calls Try.prog 21 #[.slice (some ⟨g7, 0, none⟩) n c7] W (RF W (some (nW n)))) := fun W h => by
                            have := sum_any (some ⟨g7, 0, none⟩) c7 _ W (KO.out W h) ZO.out.wd (by rw [List.length_replicate]; omega)
                            rw [ZO.out.sum (by rw [List.length_replicate]; omega), List.length_replicate] at this
                            exact this
                          have KM : Hid (∀ W, n ≠ 0 → Lv w W g7 c7 ys (n + 3) g9 c9 (m + 2) f → Calls Try.prog 23 #[.slice (some ⟨g7, 0, none⟩) n c7] W (RB W (some 4607182418800017408))) := fun W h0 h => by
                            have := mean_any (some ⟨g7, 0, none⟩) c7 _ W (KO.out W h) ZO.out.wd (by rw [List.length_replicate]; omega)
                            rw [ZO.out.mean (by rw [List.length_replicate]; exact h0) (by rw [List.length_replicate]; omega), List.length_replicate] at this
                            exact this
                          have KB : Hid (∀ W, Lv w W g7 c7 ys (n + 3) g9 c9 (m + 2) f → Calls Try.prog 22 #[.float .f64 q, .slice (some ⟨g9, 0, none⟩) m c9] W fun r w' => ∃ d, DQ q f m d ∧ RB W d r w') := fun W h =>
                            bu_prog q (some ⟨g9, 0, none⟩) c9 m f W (h.bml m (by omega)) BF.out (by omega)
                          have hself : FloatKind.f64.format.order (nW n) (nW n) = some .eq := by rw [fo_self, if_neg (by rw [(cl_some (nW_num n)).2]; decide)]
                          clear kI hsf K19 K21 K22 KO
                          go_wp2_with fail
                          go_fit (KS.out _ L.out)
                          rintro r w26' ⟨z8, k8, rfl, rfl, _, hz8⟩
                          obtain ⟨rfl, _⟩ := cl_some hz8
                          have L26 : Hid (Lv w (w25.drewN k8) g7 c7 ys (n + 3) g9 c9 (m + 2) f) := L.out.drew k8
                          clear hz8 L
                          have hcvn := hcv n
                          by_cases h0 : n = 0
                          · have h0b : ((n : Int) == 0) = true := by rw [h0]; rfl
                            have h0d : decide ((n : Int) = 0) = true := decide_eq_true (by omega)
                            have H0 : Hid (n = 0) := h0
                            clear h0
                            go_wp2_with fail
                            go_fit (KB.out _ L26.out)
                            rintro r w28 ⟨d8, -, z10, rfl, hb, -, -⟩
                            have L28 : Hid (Lv w w28 g7 c7 ys (n + 3) g9 c9 (m + 2) f) := L26.out.below hb
                            have B28 : Hid (Below w.heap.size w w28) := L28.out.bel
                            clear hb L26 L28 h0b h0d
                            obtain ⟨v22, w29, r22, o22, b22⟩ := copy_f w28 a c xs (HF.out _ B28.out) HC.out (by rw [← HN.out]; omega)
                            obtain ⟨A22, C22, rfl, fm22⟩ := o22.fm
                            rw [← HN.out] at r22
                            have B29 : Hid (Below w.heap.size w w29) := step.out _ _ B28.out b22
                            have kq := quant_prog q A22 C22 xs w29 fm22 HW.out (by rw [← HN.out]; omega)
                            have KS2 : Hid (∀ W, Below w29.heap.size w29 W → Calls Try.prog 21 #[.slice A22 n C22] W (RF W R21)) := fun W h => by
                              have := sum_any A22 C22 xs W (fm22.below h) HW.out (by rw [← HN.out]; omega)
                              rw [← HN.out, HR21.out] at this
                              exact this
                            rw [← HN.out] at kq
                            have KQ2 : Hid (Calls Try.prog 19 #[.float .f64 q, .slice A22 n C22] w29 fun r w' => ∃ C, QV q xs C ∧ RB w29 C r w') := kq
                            clear o22 b22 fm22 kq
                            go_wp2_with (at_builtin; refine wpList_append_run rfl (.tmp 267) (.tmp 268) 35 35 rfl _ _ rfl rfl r22 ?_)
                            clear r22
                            go_fit KQ2.out
                            rintro r w30 ⟨C2, hC2, z11, rfl, hb, _, hz11⟩
                            have B30 : Hid (Below w29.heap.size w29 w30) := hb
                            have k1 := fun W => alike_any z11 z1 (by rw [hz11, QC.out.2]; exact hC2.one QC.out.1) W
                            clear hb hC2 hz11 KQ2
                            go_wp2_with fail
                            go_fit (k1 _)
                            rintro r w3a ⟨rfl, rfl⟩
                            go_wp2_with fail
                            go_fit (KS2.out _ B30.out)
                            rintro r w31' ⟨z12, k12, rfl, rfl, _, hz12⟩
                            have B31 : Hid (Below w.heap.size w (w3a.drewN k12)) := below_drewN (step.out _ _ B29.out B30.out) _
                            have k2 := fun W => alike_any z12 z2 (hz12.trans SC.out.symm) W
                            clear hz12 B30 k1
                            generalize w3a.drewN k12 = w31 at *
                            go_wp2_with fail
                            go_fit (k2 _)
                            rintro r w3b ⟨rfl, rfl⟩
                            obtain ⟨v33, w33, r33, o33, b33⟩ := copy_b w3b ab cb m bs (HB.out _ B31.out) HCB.out (by omega)
                            obtain ⟨A33, C33, rfl, bm33, _⟩ := o33.bml
                            have B33 : Hid (Below w.heap.size w w33) := step.out _ _ B31.out b33
                            have kb := bu_prog q A33 C33 m bs w33 bm33 HWB.out (by omega)
                            have KB2 : Hid (Calls Try.prog 22 #[.float .f64 q, .slice A33 m C33] w33 fun r w' => ∃ d, DQ q bs m d ∧ RB w33 d r w') := kb
                            clear o33 b33 bm33 k2 kb
                            go_wp2_with (at_builtin; refine wpList_append_run rfl (.tmp 286) (.tmp 287) 38 38 rfl _ _ rfl rfl r33 ?_)
                            clear r33
                            go_fit KB2.out
                            rintro r w34 ⟨D2, hD2, z13, rfl, hb, _, hz13⟩
                            have B34 : Hid (Below w.heap.size w w34) := step.out _ _ B33.out hb
                            have k3 := fun W => alike_any z13 z3 (by rw [hz13, DC.out.2]; exact hD2.one DC.out.1) W
                            clear hb hD2 hz13 KB2
                            go_wp2_with fail
                            go_fit (k3 _)
                            rintro r _ ⟨rfl, rfl⟩
                            go_wp2
                            go_ret
                            exact ⟨rfl, B34.out⟩
                          · have h0i : ¬ (n : Int) = 0 := by omega
                            have h0b : ((n : Int) == 0) = false := beq_eq_false_iff_ne.2 h0i
                            go_wp2_with fail
                            go_fit (KM.out _ h0 L26.out)
                            rintro r w26 ⟨z9, rfl, hb, _, hz9⟩
                            obtain ⟨rfl, _⟩ := cl_some hz9
                            have L27 : Hid (Lv w w26 g7 c7 ys (n + 3) g9 c9 (m + 2) f) := L26.out.below hb
                            clear hb hz9 L26
                            go_wp2_with fail
                            go_fit (KB.out _ L27.out)
                            rintro r w28 ⟨d8, -, z10, rfl, hb, -, -⟩
                            have L28 : Hid (Lv w w28 g7 c7 ys (n + 3) g9 c9 (m + 2) f) := L27.out.below hb
                            have B28 : Hid (Below w.heap.size w w28) := L28.out.bel
                            clear hb L27 L28
                            obtain ⟨v22, w29, r22, o22, b22⟩ := copy_f w28 a c xs (HF.out _ B28.out) HC.out (by rw [← HN.out]; omega)
                            obtain ⟨A22, C22, rfl, fm22⟩ := o22.fm
                            rw [← HN.out] at r22
                            have B29 : Hid (Below w.heap.size w w29) := step.out _ _ B28.out b22
                            have kq := quant_prog q A22 C22 xs w29 fm22 HW.out (by rw [← HN.out]; omega)
                            have KS2 : Hid (∀ W, Below w29.heap.size w29 W → Calls Try.prog 21 #[.slice A22 n C22] W (RF W R21)) := fun W h => by
                              have := sum_any A22 C22 xs W (fm22.below h) HW.out (by rw [← HN.out]; omega)
                              rw [← HN.out, HR21.out] at this
                              exact this
                            rw [← HN.out] at kq
                            have KQ2 : Hid (Calls Try.prog 19 #[.float .f64 q, .slice A22 n C22] w29 fun r w' => ∃ C, QV q xs C ∧ RB w29 C r w') := kq
                            clear o22 b22 fm22 kq
                            go_wp2_with (at_builtin; refine wpList_append_run rfl (.tmp 267) (.tmp 268) 35 35 rfl _ _ rfl rfl r22 ?_)
                            clear r22
                            go_fit KQ2.out
                            rintro r w30 ⟨C2, hC2, z11, rfl, hb, _, hz11⟩
                            have B30 : Hid (Below w29.heap.size w29 w30) := hb
                            have k1 := fun W => alike_any z11 z1 (by rw [hz11, QC.out.2]; exact hC2.one QC.out.1) W
                            clear hb hC2 hz11 KQ2
                            go_wp2_with fail
                            go_fit (k1 _)
                            rintro r w3a ⟨rfl, rfl⟩
                            go_wp2_with fail
                            go_fit (KS2.out _ B30.out)
                            rintro r w31' ⟨z12, k12, rfl, rfl, _, hz12⟩
                            have B31 : Hid (Below w.heap.size w (w3a.drewN k12)) := below_drewN (step.out _ _ B29.out B30.out) _
                            have k2 := fun W => alike_any z12 z2 (hz12.trans SC.out.symm) W
                            clear hz12 B30 k1
                            generalize w3a.drewN k12 = w31 at *
                            go_wp2_with fail
                            go_fit (k2 _)
                            rintro r w3b ⟨rfl, rfl⟩
                            obtain ⟨v33, w33, r33, o33, b33⟩ := copy_b w3b ab cb m bs (HB.out _ B31.out) HCB.out (by omega)
                            obtain ⟨A33, C33, rfl, bm33, _⟩ := o33.bml
                            have B33 : Hid (Below w.heap.size w w33) := step.out _ _ B31.out b33
                            have kb := bu_prog q A33 C33 m bs w33 bm33 HWB.out (by omega)
                            have KB2 : Hid (Calls Try.prog 22 #[.float .f64 q, .slice A33 m C33] w33 fun r w' => ∃ d, DQ q bs m d ∧ RB w33 d r w') := kb
                            clear o33 b33 bm33 k2 kb
                            go_wp2_with (at_builtin; refine wpList_append_run rfl (.tmp 286) (.tmp 287) 38 38 rfl _ _ rfl rfl r33 ?_)
                            clear r33
                            go_fit KB2.out
                            rintro r w34 ⟨D2, hD2, z13, rfl, hb, _, hz13⟩
                            have B34 : Hid (Below w.heap.size w w34) := step.out _ _ B33.out hb
                            have k3 := fun W => alike_any z13 z3 (by rw [hz13, DC.out.2]; exact hD2.one DC.out.1) W
                            clear hb hD2 hz13 KB2
                            go_wp2_with fail
                            go_fit (k3 _)
                            rintro r _ ⟨rfl, rfl⟩
                            go_wp2
                            go_ret
                            exact ⟨rfl, B34.out⟩
end Go.Proofs.Ytfjfpplemgjcmab
