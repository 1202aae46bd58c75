/- The walks of the reference's half, thousandths, near. -/
import Derived.Test.YtmfeckpcnofkhaaDoorStC
import Derived.Test.YtmfeckpcnofkhaaDoorQs
namespace Go.Proofs.YtmfeckpcnofkhaaDoor
open Go.RowKit

/-- How digits behind a point stand to one half. -/
def hfL (G : ByteArray) : Int := if G.size = 0 then -1 else if bt G 0 < 53 then -1 else if 53 < bt G 0 then 1 else if trm G G.size ≤ 1 then 0 else 1
set_option maxHeartbeats 2000000 in
set_option maxRecDepth 100000 in
theorem rhalf_any (G : ByteArray) (w : World) (hs : G.size ≤ 64) (hd : ∀ i, i < G.size → isD G i) : Calls Tryd.prog 71 #[.string G] w fun e w' => e = .returned (.int .i64 (hfL G)) ∧ w' = w := by
  generalize hO : hfL G = O
  have HO : Hid (hfL G = O) := hO
  have HD : Hid (∀ i, i < G.size → isD G i) := hd
  clear hO hd
  go_enter Tryd.func71, Tryd.ntmps71
  go_wp2
  go_loop [3] (fun t => ∃ j : Nat, t = .int .i64 j ∧ j ≤ G.size ∧ (0 < j → bt G 0 = 53) ∧ ∀ k, 1 ≤ k → k < j → bt G k = 48) (fun t => G.size - (RowKit.intOf t).toNat)
  case atStart => exact ⟨0, rfl, by omega, fun h => by omega, fun k h1 h2 => by omega⟩
  case round =>
    obtain ⟨j, rfl, hj, hf, hz⟩ := hrel
    have HF : Hid (0 < j → bt G 0 = 53) := hf
    have HZ : Hid (∀ k, 1 ≤ k → k < j → bt G k = 48) := hz
    clear hf hz
    by_cases hlt : j < G.size
    · have hx := bt_at G j hlt
      have hli : (j : Int) < G.size := by omega
      have hdj := HD.out j hlt
      have b0 : 48 ≤ bt G j := hdj.2.1
      have b1 : bt G j ≤ 57 := hdj.2.2
      clear hdj
      by_cases j0 : j = 0
      · subst j0
        by_cases c1 : bt G 0 < 53
        · have HE : Hid (O = -1) := by show _ = _; rw [← HO.out]; unfold hfL; rw [if_neg (by omega), if_pos c1]
          go_wp2
          go_ret
          exact ⟨by rw [HE.out]; rfl, rfl⟩
        · by_cases c2 : 53 < bt G 0
          · have HE : Hid (O = 1) := by show _ = _; rw [← HO.out]; unfold hfL; rw [if_neg (by omega), if_neg c1, if_pos c2]
            go_wp2
            go_ret
            exact ⟨by rw [HE.out]; rfl, rfl⟩
          · have HE : Hid (bt G 0 = 53) := by show _ = _; omega
            go_wp2
            exact ⟨⟨1, by go_num, by omega, fun _ => HE.out, fun k h1 h2 => by omega⟩, by simp [RowKit.intOf]; omega⟩
      · have jb : ((j : Int) == 0) = false := by simp; omega
        by_cases c2 : 48 < bt G j
        · have HE : Hid (O = 1) := by
            show _ = _
            have h5 := HF.out (by omega)
            rw [← HO.out]; unfold hfL
            rw [if_neg (by omega), if_neg (by omega), if_neg (by omega), if_neg]
            intro h6
            have := trm_zero G G.size j (by omega) hlt
            omega
          have c1 : ¬ bt G j < 48 := by omega
          go_wp2
          go_ret
          exact ⟨by rw [HE.out]; rfl, rfl⟩
        · have HE : Hid (bt G j = 48) := by show _ = _; omega
          have c1 : ¬ bt G j < 48 := by omega
          go_wp2
          exact ⟨⟨j + 1, by go_num, by omega, fun _ => HF.out (by omega), fun k h1 h2 => by
            by_cases e : k = j
            · subst e; exact HE.out
            · exact HZ.out k h1 (by omega)⟩, by simp [RowKit.intOf]; omega⟩
    · have hli : ¬ (j : Int) < G.size := by omega
      obtain rfl : j = G.size := by omega
      by_cases g0 : 0 < G.size
      · have HE : Hid (O = 0) := by
          show _ = _
          have h5 := HF.out g0
          rw [← HO.out]; unfold hfL
          rw [if_neg (by omega), if_neg (by omega), if_neg (by omega), if_pos]
          have h6 := trm_le G G.size
          by_cases h7 : trm G G.size ≤ 1
          · exact h7
          · exact absurd (HZ.out (trm G G.size - 1) (by omega) (by omega)) (trm_last G G.size (by omega))
        have hne := nonempty_nil G g0
        have hne2 : G.toList.isEmpty = false := by simpa using hne
        go_wp2
        go_ret
        exact ⟨by rw [HE.out]; rfl, rfl⟩
      · have e := empty_nil G (by omega)
        have HE : Hid (O = -1) := by show _ = _; rw [← HO.out]; unfold hfL; rw [if_pos (by omega)]
        have hne : G.toList = [] := by rw [e]; exact nil_list
        go_wp2
        go_ret
        exact ⟨by rw [HE.out]; rfl, rfl⟩

/-- The whole part's number, cut off far out. -/
def wF (W : ByteArray) : Nat → Nat → Int → Int
  | 0, _, x => x
  | f + 1, i, x => if i < W.size ∧ x < 100000000000000 then wF W f (i + 1) (x * 10 + (bt W i - 48)) else x
theorem wF_rel (W : ByteArray) (hd : ∀ i, i < W.size → isD W i) : ∀ (f i : Nat), i ≤ W.size → W.size ≤ i + f → 0 ≤ vl W i → vl W i ≤ 1000000000000000 → (0 ≤ wF W f i (vl W i) ∧ wF W f i (vl W i) ≤ 1000000000000000) ∧ (wF W f i (vl W i) = vl W W.size ∨ 100000000000000 ≤ wF W f i (vl W i) ∧ 100000000000000 ≤ vl W W.size)
  | 0, i, h1, h2, h3, h4 => by
    obtain rfl : i = W.size := by omega
    exact ⟨⟨h3, h4⟩, .inl rfl⟩
  | f + 1, i, h1, h2, h3, h4 => by
    rw [wF]
    split
    · rename_i c
      have hdi := (hd i c.1).2
      have e : vl W (i + 1) = vl W i * 10 + (bt W i - 48) := by rw [vl]
      rw [← e]
      exact wF_rel W hd f (i + 1) (by omega) (by omega) (by omega) (by omega)
    · rename_i c
      by_cases hi : i < W.size
      · have hm := vl_mono W hd i (W.size - i) (by omega)
        rw [show i + (W.size - i) = W.size by omega] at hm
        exact ⟨⟨h3, h4⟩, .inr ⟨by omega, by omega⟩⟩
      · obtain rfl : i = W.size := by omega
        exact ⟨⟨h3, h4⟩, .inl rfl⟩
def wN (W : ByteArray) : Int := wF W W.size 0 0
theorem wN_rel (W : ByteArray) (hd : ∀ i, i < W.size → isD W i) : (0 ≤ wN W ∧ wN W ≤ 1000000000000000) ∧ (wN W = vl W W.size ∨ 100000000000000 ≤ wN W ∧ 100000000000000 ≤ vl W W.size) :=
  wF_rel W hd W.size 0 (by omega) (by omega) (by simp [vl]) (by simp [vl])
set_option maxHeartbeats 2000000 in
set_option maxRecDepth 100000 in
theorem rnear_any (m : Bool) (W F : ByteArray) (th hf v : Int) (w : World) (hs : W.size ≤ 64) (hd : ∀ i, i < W.size → isD W i) (t0 : 0 ≤ th) (t1 : th ≤ 999) (hh : hf = -1 ∨ hf = 0 ∨ hf = 1)
    (hv : v = if m = true ∧ 0 < hf then -(th + wN W * 1000) - 1 else if m = true then -(th + wN W * 1000) else if 0 ≤ hf then th + wN W * 1000 + 1 else th + wN W * 1000)
    (k : ∀ w, Calls Tryd.prog 55 #[.string F] w fun e w' => e = .returned (.tuple #[.int .i64 th, .int .i64 hf]) ∧ Below w.heap.size w w') :
    Calls Tryd.prog 39 #[.bool m, .string W, .string F] w fun e w' => e = .returned (.int .i64 v) ∧ Below w.heap.size w w' := by
  have HD : Hid (∀ i, i < W.size → isD W i) := hd
  have hwr := (wN_rel W hd).1
  generalize hX : wN W = X at *
  have HX : Hid (wF W W.size 0 0 = X) := hX
  have HV : Hid (v = if m = true ∧ 0 < hf then -(th + X * 1000) - 1 else if m = true then -(th + X * 1000) else if 0 ≤ hf then th + X * 1000 + 1 else th + X * 1000) := hv
  obtain ⟨X0, X1⟩ := hwr
  clear hd hX hv
  go_enter Tryd.func39, Tryd.ntmps39
  go_wp2_with fail
  go_fit (k _)
  rintro e w1 ⟨rfl, h1⟩
  clear k
  go_wp2
  go_loopw [10, 9] (fun t u w' => ∃ (j f : Nat) (x : Int), t = .int .i64 j ∧ u = .int .i64 x ∧ j ≤ W.size ∧ wF W f j x = X ∧ W.size ≤ j + f ∧ 0 ≤ x ∧ x ≤ 1000000000000000 ∧ Below w.heap.size w w') (fun t _ _ => W.size - (RowKit.intOf t).toNat)
  case atStart => exact ⟨0, W.size, 0, rfl, rfl, by omega, HX.out, by omega, by omega, by omega, h1⟩
  case round =>
    obtain ⟨j, f, x, rfl, rfl, hj, hv, hf', x0, x1, hbw⟩ := hrel
    have HW : Hid (wF W f j x = X) := hv
    clear hv HX h1
    have fin : ¬ (j < W.size ∧ x < 100000000000000) → Hid (X = x) := fun c => by
      show _ = _
      rw [← HW.out]
      cases f with
      | zero => rfl
      | succ f => rw [wF, if_neg c]
    by_cases hlt : j < W.size
    · have hx := bt_at W j hlt
      have hli : (j : Int) < W.size := by omega
      have hdj := HD.out j hlt
      have b0 : 48 ≤ bt W j := hdj.2.1
      have b1 : bt W j ≤ 57 := hdj.2.2
      clear hdj
      by_cases c : x < 100000000000000
      · have HE : Hid (wF W (f - 1) (j + 1) (x * 10 + (bt W j - 48)) = X) := by
          show _ = _
          rw [← HW.out]
          obtain ⟨g, rfl⟩ : ∃ g, f = g + 1 := ⟨f - 1, by omega⟩
          rw [wF, if_pos ⟨hlt, c⟩]; rfl
        clear fin
        go_wp2
        exact ⟨⟨j + 1, f - 1, x * 10 + (bt W j - 48), by go_num, by rfl, by omega, HE.out, by omega, by omega, by omega, by assumption⟩, by simp [RowKit.intOf]; omega⟩
      · have HE := fin (fun h => c h.2)
        clear fin
        have HE' : Hid (v = if m = true ∧ 0 < hf then -(th + x * 1000) - 1 else if m = true then -(th + x * 1000) else if 0 ≤ hf then th + x * 1000 + 1 else th + x * 1000) := by
          have := HV.out
          rw [HE.out] at this
          exact this
        clear HV HE HW
        cases m <;> rcases hh with rfl | rfl | rfl
        all_goals
          go_wp2
          go_ret
          exact ⟨by have h9 := HE'.out; simp at h9; first | (rw [h9]; rfl) | (rw [show v = -(th + x * 1000 + 1) by omega]; rfl), hbw⟩
    · have HE := fin (fun h => hlt h.1)
      have hli : ¬ (j : Int) < W.size := by omega
      clear fin
      have HE' : Hid (v = if m = true ∧ 0 < hf then -(th + x * 1000) - 1 else if m = true then -(th + x * 1000) else if 0 ≤ hf then th + x * 1000 + 1 else th + x * 1000) := by
        have := HV.out
        rw [HE.out] at this
        exact this
      clear HV HE HW
      cases m <;> rcases hh with rfl | rfl | rfl
      all_goals
        go_wp2
        go_ret
        exact ⟨by have h9 := HE'.out; simp at h9; first | (rw [h9]; rfl) | (rw [show v = -(th + x * 1000 + 1) by omega]; rfl), hbw⟩

theorem wr8 (x y : Int) (h : x = y) (a : 0 ≤ y) (b : y ≤ 255) : IntKind.u8.wrap x = y := by
  subst h
  unfold IntKind.wrap IntKind.signed IntKind.bits
  simp
  omega
theorem bt_app1 (s : ByteArray) (i : Nat) (h : i < s.size + 1) : bt (s ++ ⟨#[48]⟩) i = if i < s.size then bt s i else 48 := by
  have e : (⟨#[48]⟩ : ByteArray).size = 1 := rfl
  unfold bt
  rw [get!_lt _ i (by rw [size_app, e]; omega)]
  by_cases c : i < s.size
  · rw [if_pos c, get!_lt s i c, ByteArray.getElem_append_left c]
  · rw [if_neg c, ByteArray.getElem_append_right (by omega)]
    have h1 : i - s.size = 0 := by omega
    simp only [h1]; rfl
theorem hfL_eq (F X : ByteArray) (h3 : 3 ≤ X.size) (h1 : F.size ≤ X.size) (h2 : X.size ≤ F.size ∨ X.size = 3) (hb : ∀ i, i < X.size → bt X i = 48 + dg0 F i) : hfL (X.extract 3 X.size) = hfV F := by
  have ez : (X.extract 3 X.size).size = X.size - 3 := by rw [ByteArray.size_extract]; omega
  have t1 := trm_le F F.size
  unfold hfL hfV
  rw [ez]
  by_cases s3 : X.size - 3 = 0
  · rw [if_pos s3, if_pos]
    unfold dg0
    rw [if_neg (by omega)]; omega
  · rw [if_neg s3, bt_extract, Nat.add_zero, hb 3 (by omega)]
    have hX : X.size = F.size := by omega
    have tk : dg0 F 3 = 5 → (trm (X.extract 3 X.size) (X.size - 3) ≤ 1 ↔ trm F F.size ≤ 4) := fun h5 => by
      have e : trm (X.extract 3 X.size) (X.size - 3) = trm F F.size - 3 := by
        have hb5 : bt F 3 = 53 := by unfold dg0 at h5; rw [if_pos (by omega)] at h5; omega
        have h4 : 3 < trm F F.size := by
          by_cases c : 3 < trm F F.size
          · exact c
          · have := trm_zero F F.size 3 (by omega) (by omega)
            omega
        refine trm_uniq _ _ _ (by omega) (fun i i1 i2 => ?_) (fun h => ?_)
        · rw [bt_extract, hb (3 + i) (by omega)]
          unfold dg0
          rw [if_pos (by omega), trm_zero F F.size (3 + i) (by omega) (by omega)]; omega
        · rw [bt_extract, hb _ (by omega), show 3 + (trm F F.size - 3 - 1) = trm F F.size - 1 by omega]
          unfold dg0
          rw [if_pos (by omega)]
          have := trm_last F F.size (by omega)
          omega
      rw [e]; omega
    by_cases d1 : dg0 F 3 < 5
    · rw [if_pos d1, if_pos (by omega)]
    · rw [if_neg d1, if_neg (by omega)]
      by_cases d2 : 5 < dg0 F 3
      · rw [if_pos d2, if_pos (by omega)]
      · rw [if_neg d2, if_neg (by omega)]
        have := tk (by omega)
        by_cases k1 : trm F F.size ≤ 4
        · rw [if_pos k1, if_pos (this.2 k1)]
        · rw [if_neg k1, if_neg (fun x => k1 (this.1 x))]
set_option maxHeartbeats 2000000 in
set_option maxRecDepth 100000 in
theorem rthousandths_any (F : ByteArray) (w : World) (hs : F.size ≤ 64) (hd : ∀ i, i < F.size → isD F i) : Calls Tryd.prog 55 #[.string F] w fun e w' => e = .returned (.tuple #[.int .i64 (thV F), .int .i64 (hfV F)]) ∧ Below w.heap.size w w' := by
  have hr : ∀ i, 0 ≤ dg0 F i ∧ dg0 F i ≤ 9 := fun i => by
    unfold dg0
    split
    · rename_i c
      have := (hd i c).2
      omega
    · omega
  have HR : Hid (∀ i, 0 ≤ dg0 F i ∧ dg0 F i ≤ 9) := hr
  generalize hA : thV F = A
  generalize hB : hfV F = B
  have HA : Hid (thV F = A) := hA
  have HB : Hid (hfV F = B) := hB
  clear hA hB hd hr
  go_enter Tryd.func55, Tryd.ntmps55
  go_wp2
  go_loop [0] (fun t => ∃ X : ByteArray, t = .string X ∧ F.size ≤ X.size ∧ (X.size ≤ F.size ∨ X.size ≤ 3) ∧ ∀ i, i < X.size → bt X i = 48 + dg0 F i) (fun t => match t with | .string X => 3 - X.size | _ => 0)
  case atStart => exact ⟨F, rfl, Nat.le_refl _, .inl (Nat.le_refl _), fun i hi => by unfold dg0; rw [if_pos hi]; omega⟩
  case round =>
    obtain ⟨X, rfl, h1, h2, hb⟩ := hrel
    have HX : Hid (∀ i, i < X.size → bt X i = 48 + dg0 F i) := hb
    clear hb
    by_cases c : X.size < 3
    · have ci : (X.size : Int) < 3 := by omega
      have e : (X ++ ⟨#[48]⟩).size = X.size + 1 := size_app X _
      have HE : Hid ((X ++ ⟨#[48]⟩).size = X.size + 1) := e
      clear e
      go_wp2
      refine ⟨⟨X ++ ⟨#[48]⟩, rfl, by rw [HE.out]; omega, by rw [HE.out]; omega, fun i hi => ?_⟩, by show 3 - (X ++ ⟨#[48]⟩).size < 3 - X.size; rw [HE.out]; omega⟩
      rw [HE.out] at hi
      rw [bt_app1 X i hi]
      split
      · rename_i q
        exact HX.out i q
      · unfold dg0
        rw [if_neg (by omega)]; omega
    · have ci : ¬ (X.size : Int) < 3 := by omega
      have x0 := bt_at X 0 (by omega)
      have x1 := bt_at X 1 (by omega)
      have x2 := bt_at X 2 (by omega)
      rw [HX.out 0 (by omega)] at x0
      rw [HX.out 1 (by omega)] at x1
      rw [HX.out 2 (by omega)] at x2
      have ez : (X.extract 3 X.size).size ≤ 64 := by rw [ByteArray.size_extract]; omega
      have hdz : ∀ i, i < (X.extract 3 X.size).size → isD (X.extract 3 X.size) i := fun i hi => by
        refine ⟨hi, ?_⟩
        rw [ByteArray.size_extract] at hi
        rw [bt_extract, HX.out (3 + i) (by omega)]
        have := HR.out (3 + i)
        omega
      have k : ∀ w, Calls Tryd.prog 71 #[.string (X.extract 3 X.size)] w fun e w' => e = .returned (.int .i64 B) ∧ w' = w := fun w => by
        have := rhalf_any (X.extract 3 X.size) w ez hdz
        rwa [hfL_eq F X (by omega) h1 (by omega) HX.out, HB.out] at this
      have r0 := HR.out 0
      have r1 := HR.out 1
      have r2 := HR.out 2
      have HT : Hid (A = dg0 F 0 * 100 + dg0 F 1 * 10 + dg0 F 2) := by show _ = _; rw [← HA.out]; rfl
      generalize dg0 F 0 = D0 at *
      generalize dg0 F 1 = D1 at *
      generalize dg0 F 2 = D2 at *
      have s0 : (0 : Int) < X.size := by omega
      have s1 : (1 : Int) < X.size := by omega
      have s2 : (2 : Int) < X.size := by omega
      have s3 : (3 : Int) ≤ X.size := by omega
      have n0 : 0 < X.size := by omega
      have n1 : 1 < X.size := by omega
      have n2 : 2 < X.size := by omega
      have u0 : IntKind.u8.wrap (48 + D0 - 48) = D0 := wr8 _ _ (by omega) (by omega) (by omega)
      have u1 : IntKind.u8.wrap (48 + D1 - 48) = D1 := wr8 _ _ (by omega) (by omega) (by omega)
      have u2 : IntKind.u8.wrap (48 + D2 - 48) = D2 := wr8 _ _ (by omega) (by omega) (by omega)
      have v0 : IntKind.i64.wrap D0 = D0 := wrI _ (by omega) (by omega)
      have v1 : IntKind.i64.wrap D1 = D1 := wrI _ (by omega) (by omega)
      have v2 : IntKind.i64.wrap D2 = D2 := wrI _ (by omega) (by omega)
      have v3 : IntKind.i64.wrap (D0 * 100) = D0 * 100 := wrI _ (by omega) (by omega)
      have v4 : IntKind.i64.wrap (D1 * 10) = D1 * 10 := wrI _ (by omega) (by omega)
      have v5 : IntKind.i64.wrap (D0 * 100 + D1 * 10) = D0 * 100 + D1 * 10 := wrI _ (by omega) (by omega)
      have v6 : IntKind.i64.wrap (D0 * 100 + D1 * 10 + D2) = D0 * 100 + D1 * 10 + D2 := wrI _ (by omega) (by omega)
      clear hdz ez
      go_wp2_with fail
      refine wp_region_quiet_lit (by kernel_rfl) (by kernel_rfl) ?_
      iterate 21
        (refine q_take (by kernel_rfl) (fun K hK => ?_)
         go_simp
         first
           | (refine hK.out _ ?_; clear hK K)
           | (apply Exists.intro
              refine ⟨fun _ => ?_, hK.out _ ?_⟩
              exact Calls.quiet_of_same (k _)
              clear hK K))
      refine wpQuiet_nil ?_
      intro _ hw'
      obtain ⟨nq, hw''⟩ := hw'
      subst hw''
      clear k
      go_wp2
      go_ret2
      exact ⟨by rw [HT.out]; rfl, ⟨rfl, rfl, rfl, Nat.le_refl _, fun _ _ => rfl⟩⟩
end Go.Proofs.YtmfeckpcnofkhaaDoor
