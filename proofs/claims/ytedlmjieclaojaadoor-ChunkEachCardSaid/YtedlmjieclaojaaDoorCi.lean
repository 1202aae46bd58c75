/- A packer: putValue, where the value is another one. -/
import Derived.Test.YtedlmjieclaojaaDoorCh
namespace Go.Proofs.YtedlmjieclaojaaDoor
open Go.RowKit

theorem Pv.cells {S B NB : Nat} {v0 : Value} {w0 : World} {r : Trl} {f t : Nat} {V : World} {v : Value} {L : List Int} (h : Pv S B NB v0 w0 r f t V v L) :
    V.cell? ⟨B, 6, none⟩ = some (.int .i64 (r.fr : Nat)) ∧ V.cell? ⟨B, 7, none⟩ = some (.int .i64 (r.to : Nat)) ∧ V.cell? ⟨NB, 0, none⟩ = some (.int .i64 (f : Nat)) ∧ V.cell? ⟨NB, 1, none⟩ = some (.int .i64 (t : Nat)) := ⟨h.pk.tc.c4, h.pk.tc.c5, h.n0, h.n1⟩
theorem run_shr {P : Program} (x n : Nat) (hn : n ≤ 64) (X y : Int) (hX : X = (x : Nat)) (hy : y = (n : Nat)) (W : World) : (Op.shift BinOp.shr .u64 X .i64 y).run P W = .ok (.int .u64 ((x / 2 ^ n : Nat) : Int)) W := by
  subst hX hy
  unfold Op.shift
  rw [if_neg (by omega)]
  have e : min (n : Int).toNat IntKind.u64.bits = n := by rw [Int.toNat_natCast]; exact Nat.min_eq_left hn
  have e2 : ((x : Int)).fdiv (2 ^ n) = ((x / 2 ^ n : Nat) : Int) := by
    rw [Int.fdiv_eq_ediv_of_nonneg _ (by have := Nat.pow_pos (n := n) (show 0 < 2 by decide); have h : ((2 : Int) ^ n) = ((2 ^ n : Nat) : Int) := by simp
                                         omega)]
    simp
  simp only [e, e2]
  rfl
theorem put_pv {S B NB : Nat} {v0 : Value} {w0 : World} {r : Trl} {f t : Nat} {V : World} {v : Value} {L : List Int} (h : Pv S B NB v0 w0 r f t V v L) (x n : Nat) (hx : x < 2 ^ n) (hn : n ≤ 64) (hL : L.length + n ≤ 1000000000) (V' : World) (b : Below V.heap.size V V') :
    Calls Tryd.prog 31 #[.pointer (some ⟨B, 0, none⟩), .int .u64 (x : Nat), .int .i64 (n : Nat)] V' fun z w' => z = .returned (.tuple #[]) ∧ (w'.cell? ⟨B, 6, none⟩ = some (.int .i64 (r.fr : Nat)) ∧ w'.cell? ⟨B, 7, none⟩ = some (.int .i64 (r.to : Nat)) ∧ w'.cell? ⟨NB, 0, none⟩ = some (.int .i64 (f : Nat)) ∧ w'.cell? ⟨NB, 1, none⟩ = some (.int .i64 (t : Nat))) ∧ Hid (∃ v', Pv S B NB v0 w0 r f t w' v' (L ++ nb x n)) := by
  refine (put_any S B v L x n V' (h.below b).pk.stm hx hn hL).mono ?_
  rintro e w' p
  obtain ⟨rfl, v', h'⟩ := (h.below b).put p
  exact ⟨rfl, h'.cells, v', h'⟩
set_option maxHeartbeats 4000000 in
set_option maxRecDepth 100000 in
theorem putValue_diff (S B : Nat) (v : Value) (L : List Int) (r : Trl) (a : Nat) (w : World) (h : Pkr S w B v L r) (hT : Tab w) (ha : a < 18446744073709551616) (hr : Gt r) (hL : L.length + 200 ≤ 1000000000) (h0 : a ^^^ r.vl ≠ 0) :
    Calls Tryd.prog 34 #[.pointer (some ⟨B, 0, none⟩), .int .u64 (a : Nat)] w (Pq S B v L (vlu (a ^^^ r.vl) r.fr r.to) { r with vl := a, fr := vfr (a ^^^ r.vl) r.fr r.to, to := vto (a ^^^ r.vl) r.fr r.to } w) := by
  have c3 := h.tc.c3
  have f3 := h.stm.fz 5
  have hx := xor_u64 a r.vl ha hr.vl
  have hxl := xor_lt ha hr.vl
  have hfr := hr.fr
  generalize hxe : a ^^^ r.vl = x at *
  have hP1 : Pkr S (w.setCell ⟨B, 5, none⟩ (.int .u64 (a : Nat))) B v L { r with vl := a } := ⟨h.stm.set 5 (by decide) _, h.tc.setV a, h.S3, h.SB⟩
  have hK : Kp (Mv B v) w (w.setCell ⟨B, 5, none⟩ (.int .u64 (a : Nat))) := kp_set w B 5 v _
  have hT1 : Tab (w.setCell ⟨B, 5, none⟩ (.int .u64 (a : Nat))) := hT.kp hK (h.not_low 2 (by decide))
  have hl := lz_spec x (by omega) hxl
  have ht := tz_spec x (by omega) hxl
  have hlt := lt_spec x (by omega) hxl
  have k := frameOf_any x (by omega) hxl _ hT1
  have HXB : Hid (∀ f t, f ≤ lz x → 64 - tz x ≤ t → t ≤ 64 → x / 2 ^ (64 - t) < 2 ^ (t - f)) := fun f t h1 h2 h3 => (x_back x t f (by omega) hxl h1 h2 h3).1
  have HV : Hid (vlu x r.fr r.to = vhd x r.fr r.to ++ nb (x / 2 ^ (64 - vto x r.fr r.to)) (vto x r.fr r.to - vfr x r.fr r.to)) := by show _ = _; unfold vlu; rw [if_neg h0]
  have HF : Hid (vfr x r.fr r.to = if cov x r.fr r.to = true then r.fr else lz x) := by show _ = _; unfold vfr; rw [if_neg h0]
  have HO : Hid (vto x r.fr r.to = if cov x r.fr r.to = true then r.to else 64 - tz x) := by show _ = _; unfold vto; rw [if_neg h0]
  have HC : Hid (cov x r.fr r.to = (decide (r.fr ≤ lz x) && decide (64 - tz x ≤ r.to))) := rfl
  have HD : Hid (vhd x r.fr r.to = if cov x r.fr r.to = true then wy 1 3 else wy 2 3 ++ nb (lz x) 6 ++ nb (64 - tz x - lz x - 1) 6) := rfl
  rw [HV.out]
  obtain ⟨n, tm, st, vl, fr, to⟩ := r
  dsimp only at *
  obtain ⟨A, hA⟩ : ∃ A : Int, A = (a : Nat) := ⟨_, rfl⟩
  have hA0 : 0 ≤ A := by omega
  obtain ⟨X, hX⟩ : ∃ X : Int, X = (x : Nat) := ⟨_, rfl⟩
  have hX0 : ¬ X = 0 := by omega
  have hX1 : 0 ≤ X := by omega
  have hX2 : X ≤ 18446744073709551615 := by omega
  have HXX : Hid (X = (x : Nat)) := hX
  have HP : Hid (Pkr S (w.setCell ⟨B, 5, none⟩ (.int .u64 A)) B v L ⟨n, tm, st, a, fr, to⟩) := by rw [hA]; exact hP1
  have HK : Hid (Kp (Mv B v) w (w.setCell ⟨B, 5, none⟩ (.int .u64 A))) := by rw [hA]; exact hK
  rw [← hA] at hx k ⊢
  rw [← hX] at hx k
  generalize hW : w.setCell ⟨B, 5, none⟩ (.int .u64 A) = W at *
  generalize vfr x fr to = F at *
  generalize vto x fr to = T at *
  generalize vhd x fr to = H at *
  generalize cov x fr to = Z at *
  generalize lz x = l at *
  generalize hu : 64 - tz x = u at *
  have hul : l < u ∧ u ≤ 64 := by omega
  clear h ha hr h0 hP1 hK hT1 hT hl ht hlt hA hX hxe HV hu hxl
  go_enter Tryd.func34, Tryd.ntmps34
  go_wp2_with fail
  go_fit k
  rintro e w1 ⟨rfl, b1⟩
  have hb2 : Below W.heap.size W (w1.alloc (.cells #[.int .i64 (l : Nat), .int .i64 (u : Nat)] 66)) := b1.trans (((Below.refl _ _).alloc (Nat.le_refl _) _).mono b1.size)
  have HPv : Hid (Pv S B w1.heap.size v w ⟨n, tm, st, a, fr, to⟩ l u (w1.alloc (.cells #[.int .i64 (l : Nat), .int .i64 (u : Nat)] 66)) v L) := by
    refine ⟨HP.out.below hb2, by simp, by simp, fun e => ?_, ?_, Sub.refl _ _, HK.out.trans (Kp.of hb2)⟩
    · have := (HP.out.stm.base _ e).2
      have := b1.size
      omega
    · have := HP.out.stm.lt
      have := b1.size
      omega
  clear k HP HK c3 f3 b1 hb2
  go_wp2_with fail
  generalize w1.alloc (.cells #[.int .i64 (l : Nat), .int .i64 (u : Nat)] 66) = V0 at *
  generalize w1.heap.size = NB at *
  obtain ⟨d0, d1, d2, d3⟩ := HPv.out.cells
  dsimp only at d0 d1
  have cO := fun d os => Calls.regrown_of (covers_any fr to l u (Go.Sort.grow (redrawn V0 d) os))
  have e0 := fun d os => cell_regrown d0 d os
  have e1 := fun d os => cell_regrown d1 d os
  have e2 := fun d os => cell_regrown d2 d os
  have e3 := fun d os => cell_regrown d3 d os
  rw [← HC.out] at cO
  refine wp_region_quiet_below (by kernel_rfl) (by kernel_rfl) ?_
  iterate 6 (quiet_step (fail))
  quiet_step (exact cO _ _)
  refine wpQuiet_nil ?_
  intro _ hw'
  obtain ⟨⟨dq, osq⟩, hw''⟩ := hw'
  subst hw''
  have HP1 : Hid _ := HPv.out.below (below_regrown V0 dq osq)
  clear e0 e1 e2 e3 d0 d1 d2 d3 cO HPv
  generalize Go.Sort.grow (redrawn V0 dq) osq = V1 at *
  clear hW hx
  by_cases hZ : Z = true
  case' pos =>
    have hc : fr ≤ l ∧ u ≤ to := by
      have := HC.out
      rw [hZ] at this
      simpa using this.symm
    have eF : Hid (F = fr) := by have := HF.out; rw [if_pos hZ] at this; exact this
    have eT : Hid (T = to) := by have := HO.out; rw [if_pos hZ] at this; exact this
    have eH : Hid (H = wy 1 3) := by have := HD.out; rw [if_pos hZ] at this; exact this
    clear HF HO HD HC
    have kk := putWay_any S B v L 1 3 V1 HP1.out.pk.stm (by decide) (by decide) (by omega)
    subst hZ
    go_wp2_with fail
    go_fit kk
    rintro e V5 hp
    obtain ⟨rfl, v5, hp2⟩ := HP1.out.put hp
    clear hp kk HP1
    have HP2 : Hid (Pv S B NB v w ⟨n, tm, st, a, F, T⟩ l u V5 v5 (L ++ H)) := by rw [eF.out, eT.out, eH.out]; exact hp2
    have hFT : F < T ∧ T ≤ 64 ∧ F ≤ l ∧ u ≤ T := by
      have := eF.out
      have := eT.out
      rcases hfr with hf | hf <;> omega
    have hHL : H.length ≤ 30 := by rw [eH.out, wy_len]; decide
    clear eF eT eH hp2 hc hfr
    go_wp2_with fail
  case' neg =>
    have hZ' : Z = false := by simpa using hZ
    have eF : Hid (F = l) := by have := HF.out; rw [if_neg hZ] at this; exact this
    have eT : Hid (T = u) := by have := HO.out; rw [if_neg hZ] at this; exact this
    have eH : Hid (H = wy 2 3 ++ nb l 6 ++ nb (u - l - 1) 6) := by have := HD.out; rw [if_neg hZ] at this; exact this
    clear HF HO HD HC
    obtain ⟨q0, q1, q2, q3⟩ := HP1.out.cells
    dsimp only at q0 q1
    have qf := HP1.out.pk.stm.fz
    have hPN : Pv S B NB v w ⟨n, tm, st, a, l, u⟩ l u ((V1.setCell ⟨B, 6, none⟩ (.int .i64 (l : Nat))).setCell ⟨B, 7, none⟩ (.int .i64 (u : Nat))) v L := by
      have h1 := HP1.out
      refine ⟨⟨(h1.pk.stm.set 6 (by decide) _).set 7 (by decide) _, h1.pk.tc.setF l u, h1.pk.S3, h1.pk.SB⟩, ?_, ?_, h1.nv, h1.nB, h1.sub, ?_⟩
      · rw [cell_far _ _ _ _ _ _ (Ne.symm h1.nB), cell_far _ _ _ _ _ _ (Ne.symm h1.nB)]; exact h1.n0
      · rw [cell_far _ _ _ _ _ _ (Ne.symm h1.nB), cell_far _ _ _ _ _ _ (Ne.symm h1.nB)]; exact h1.n1
      · exact (h1.kp.next h1.sub (kp_set V1 B 6 v _)).next h1.sub (kp_set _ B 7 v _)
    have HPN : Hid _ := hPN
    have kk := putWay_any S B v L 2 3 _ hPN.pk.stm (by decide) (by decide) (by omega)
    subst hZ'
    have nBB : NB ≠ B := HP1.out.nB
    clear HP1 hPN hZ
    go_wp2_with fail
    go_fit kk
    rintro e V2 hp
    obtain ⟨rfl, v2, hp2⟩ := HPN.out.put hp
    clear hp kk HPN qf q0 q1 q2 q3
    have K9 : Hid (∀ V', Below V2.heap.size V2 V' → _) := put_pv hp2 l 6 (by omega) (by decide) (by rw [List.length_append, wy_len]; split <;> omega)
    have S9 : Hid (∀ V', Below V2.heap.size V2 V' → _) := fun V' b => (hp2.below b).cells
    dsimp only at K9 S9
    have bD : Below V2.heap.size V2 V2.drew := (Below.refl _ _).drew
    have wl : IntKind.u64.wrap (l : Int) = (l : Int) := by rw [IntKind.wrap_u64]; omega
    go_wp2_with fail
    go_region_held3 (fun w' => w'.cell? ⟨B, 6, none⟩ = some (.int .i64 (l : Nat)) ∧ w'.cell? ⟨B, 7, none⟩ = some (.int .i64 (u : Nat)) ∧ w'.cell? ⟨NB, 0, none⟩ = some (.int .i64 (l : Nat)) ∧ w'.cell? ⟨NB, 1, none⟩ = some (.int .i64 (u : Nat))) (first | assumption | exact S9.out _ (by assumption) | exact S9.out _ (Below.refl _ _)) (first | (go_at_call 31; go_fit (K9.out _ (by assumption)); rintro z V3 ⟨rfl, q3, p3⟩))
    obtain ⟨v3, hp3⟩ := p3.out
    clear K9 S9 bD wl p3 q3 hp2
    have K10 : Hid (∀ V', Below V3.heap.size V3 V' → _) := put_pv hp3 (u - l - 1) 6 (by omega) (by decide) (by rw [List.length_append, List.length_append, wy_len, nb_len]; split <;> omega)
    have K44 : Hid (∀ V', Below V3.heap.size V3 V' → _) := fun V' _ => size_any l u (by omega) (by omega) V'
    have S10 : Hid (∀ V', Below V3.heap.size V3 V' → _) := fun V' b => (hp3.below b).cells
    dsimp only at K10 S10
    have bD : Below V3.heap.size V3 V3.drew := (Below.refl _ _).drew
    have wl : IntKind.u64.wrap (((u - l : Nat) : Int) - 1) = ((u - l - 1 : Nat) : Int) := by rw [IntKind.wrap_u64]; omega
    have wm : IntKind.i64.wrap (((u - l : Nat) : Int) - 1) = ((u - l : Nat) : Int) - 1 := by rw [IntKind.wrap_i64]; omega
    go_wp2_with fail
    go_region_held3 (fun w' => w'.cell? ⟨B, 6, none⟩ = some (.int .i64 (l : Nat)) ∧ w'.cell? ⟨B, 7, none⟩ = some (.int .i64 (u : Nat)) ∧ w'.cell? ⟨NB, 0, none⟩ = some (.int .i64 (l : Nat)) ∧ w'.cell? ⟨NB, 1, none⟩ = some (.int .i64 (u : Nat))) (first | assumption | exact S10.out _ (by assumption) | exact S10.out _ (Below.refl _ _)) (first | (go_at_call 44; go_fit (K44.out _ (by assumption)); rintro z V4 ⟨rfl, b4⟩; have q4 : Below V3.heap.size V3 V4 := btr (by assumption) b4) | (go_at_call 31; go_fit (K10.out _ (by assumption)); rintro z V5 ⟨rfl, q5, p5⟩))
    obtain ⟨v5, hp5⟩ := p5.out
    have HP2 : Hid (Pv S B NB v w ⟨n, tm, st, a, F, T⟩ l u V5 v5 (L ++ H)) := by rw [eF.out, eT.out, eH.out, ← List.append_assoc, ← List.append_assoc]; exact hp5
    have hFT : F < T ∧ T ≤ 64 ∧ F ≤ l ∧ u ≤ T := by
      have := eF.out
      have := eT.out
      omega
    have hHL : H.length ≤ 30 := by rw [eH.out, List.length_append, List.length_append, wy_len, nb_len, nb_len]; decide
    clear eF eT eH hp5 p5 q5 q4 b4 wl wm bD S10 K44 K10 hp3 hfr
    go_wp2_with fail
  all_goals
    have hxb := HXB.out F T hFT.2.2.1 hFT.2.2.2 hFT.2.1
    have K11 : Hid (∀ V', Below V5.heap.size V5 V' → _) := put_pv HP2.out (x / 2 ^ (64 - T)) (T - F) hxb (by omega) (by rw [List.length_append]; omega)
    have K44 : Hid (∀ V', Below V5.heap.size V5 V' → _) := fun V' _ => size_any F T (by omega) (by omega) V'
    have S11 : Hid (∀ V', Below V5.heap.size V5 V' → _) := fun V' b => (HP2.out.below b).cells
    dsimp only at K11 S11
    have bD : Below V5.heap.size V5 V5.drew := (Below.refl _ _).drew
    have hsh := fun W => run_shr (P := Tryd.prog) x (64 - T) (by omega) X (IntKind.i64.wrap (64 - (T : Int))) HXX.out (by rw [IntKind.wrap_i64]; omega) W
    obtain ⟨Y, hY⟩ : ∃ Y : Int, Y = ((x / 2 ^ (64 - T) : Nat) : Int) := ⟨_, rfl⟩
    simp only [← hY] at hsh
    rw [← hY] at K11
    have hT64 : (T : Int) ≤ 64 := by omega
    clear hY hxb
    go_region_held3 (fun w' => w'.cell? ⟨B, 6, none⟩ = some (.int .i64 (F : Nat)) ∧ w'.cell? ⟨B, 7, none⟩ = some (.int .i64 (T : Nat)) ∧ w'.cell? ⟨NB, 0, none⟩ = some (.int .i64 (l : Nat)) ∧ w'.cell? ⟨NB, 1, none⟩ = some (.int .i64 (u : Nat))) (first | assumption | exact S11.out _ (by assumption) | exact S11.out _ (Below.refl _ _)) (first | (go_at_call 44; go_fit (K44.out _ (by assumption)); rintro z V6 ⟨rfl, b6⟩; have q6 : Below V5.heap.size V5 V6 := btr (by assumption) b6) | (go_at_call 31; go_fit (K11.out _ (by assumption)); rintro z V7 ⟨rfl, q7, p7⟩))
    obtain ⟨v7, hp7⟩ := p7.out
    have HR : Hid (Pq S B v L (H ++ nb (x / 2 ^ (64 - T)) (T - F)) ⟨n, tm, st, a, F, T⟩ w (.returned (.tuple #[])) V7) := ⟨rfl, v7, by rw [← List.append_assoc]; exact hp7.pk, hp7.sub, hp7.kp⟩
    clear hp7 p7 q7 K11 K44 S11 bD hsh HP2
    go_wp2
    go_end0
    exact HR.out
end Go.Proofs.YtedlmjieclaojaaDoor
