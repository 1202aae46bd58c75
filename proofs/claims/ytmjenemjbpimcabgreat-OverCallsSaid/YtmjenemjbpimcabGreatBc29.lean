/- A bundle of texts. -/
import Derived.Test.YtmjenemjbpimcabGreatBc25
import Derived.Test.YtmjenemjbpimcabGreatBc12
import Derived.Test.YtmjenemjbpimcabGreatBc08
/- Reference functions (from stage 6). -/
namespace Go.Proofs.YtmjenemjbpimcabGreat
open Go.RowKit

set_option maxHeartbeats 400000 in
theorem reighth_any (d p : Int) (hp : 1 ≤ p) (hp' : p ≤ 315360000000000) (w : World) :
    Calls Tryz.prog 119 #[.int .i64 d, .int .i64 p] w fun r w' => r = .returned (.int .i64 (eg d p)) ∧ w' = w := by
  have h0 := rm_bd d p hp
  have h2 := eg_bd d p hp
  obtain ⟨e, he⟩ : ∃ e, eg d p = e := ⟨_, rfl⟩
  obtain ⟨m, hm⟩ : ∃ m, d.tmod p = m := ⟨_, rfl⟩
  obtain ⟨r, hr⟩ : ∃ r, rm d p = r := ⟨_, rfl⟩
  have h1 := Int.tmod_lt_of_pos d (show 0 < p by omega)
  have h1' := tm_low d p hp
  rw [hm] at h1 h1'
  have hrr : r = if m < 0 then m + p else m := by rw [← hr]; unfold rm; rw [hm]
  have hq : (8 * r).tdiv p = e := by rw [← he, ← hr]; rfl
  have hpn : ¬ p = 0 := by omega
  have hpm : ¬ p = -1 := by omega
  rw [he]
  rw [he] at h2
  rw [hr] at h0
  clear he hr
  by_cases hneg : m < 0
  · rw [if_pos hneg] at hrr
    have hmp : m + p = r := hrr.symm
    clear hrr
    go_enter Tryz.func119, Tryz.ntmps119
    go_wp2
    go_ret
    exact ⟨rfl, rfl⟩
  · rw [if_neg hneg] at hrr
    subst hrr
    go_enter Tryz.func119, Tryz.ntmps119
    go_wp2
    go_ret
    exact ⟨rfl, rfl⟩

set_option maxHeartbeats 400000 in
theorem rbits_any (n : Int) (w : World) : Calls Tryz.prog 128 #[.int .u64 n] w fun r w' => r = .returned (.float .f64 n.toNat) ∧ w' = w := by
  have h3 := callFrom
  go_enter Tryz.func128, Tryz.ntmps128
  go_wp2
  go_ret
  exact ⟨rfl, rfl⟩
set_option maxHeartbeats 400000 in
theorem rhalf_any (w : World) : Calls Tryz.prog 118 #[] w fun r w' => r = .returned (.float .f64 4604544271217802189) ∧ w' = w := by
  have k1 := rbits_any 4604544271217802189
  go_enter Tryz.func118, Tryz.ntmps118
  go_wp2_with fail
  go_fit (k1 _)
  rintro r w ⟨rfl, rfl⟩
  go_wp2
  go_ret
  exact ⟨rfl, rfl⟩

abbrev coss : Array Value := #[.float .f64 4607182418800017408, .float .f64 4604544271217802189, .float .f64 0, .float .f64 13827916308072577997, .float .f64 13830554455654793216, .float .f64 13827916308072577997, .float .f64 0, .float .f64 4604544271217802189]
abbrev sins : Array Value := #[.float .f64 0, .float .f64 4604544271217802189, .float .f64 4607182418800017408, .float .f64 4604544271217802189, .float .f64 0, .float .f64 13827916308072577997, .float .f64 13830554455654793216, .float .f64 13827916308072577997]
theorem cos_at (k : Nat) (hk : k < 8) : coss[k]? = some (.float .f64 (cw k)) := by
  rcases (show k = 0 ∨ k = 1 ∨ k = 2 ∨ k = 3 ∨ k = 4 ∨ k = 5 ∨ k = 6 ∨ k = 7 by omega) with rfl | rfl | rfl | rfl | rfl | rfl | rfl | rfl <;> rfl
theorem sin_at (k : Nat) (hk : k < 8) : sins[k]? = some (.float .f64 (sw k)) := by
  rcases (show k = 0 ∨ k = 1 ∨ k = 2 ∨ k = 3 ∨ k = 4 ∨ k = 5 ∨ k = 6 ∨ k = 7 by omega) with rfl | rfl | rfl | rfl | rfl | rfl | rfl | rfl <;> rfl

set_option maxHeartbeats 1000000 in
set_option maxRecDepth 100000 in
theorem rturn_any (a : Option Addr) (c n : Nat) (ss : Nat → Smp) (p : Int) (w : World) (hf : Sml w a ss n) (hl : n ≤ 9223372036854775807) :
    Calls Tryz.prog 98 #[.slice a n c, .int .i64 p] w (RT w (tuF (fun j => df (ss j).t (ss 0).t) (fun j => (ss j).v) n p).1 (tuF (fun j => df (ss j).t (ss 0).t) (fun j => (ss j).v) n p).2) := by
  have hb0 := Below.refl w.heap.size w
  have kH := rhalf_any
  cases hp : prB p
  · have e : tuF (fun j => df (ss j).t (ss 0).t) (fun j => (ss j).v) n p = (some 0, some 0) := if_neg (by rw [hp]; decide)
    rw [e]
    have hp1 : p < 1 ∨ ¬ p ≤ 315360000000000 := by
      unfold prB at hp
      by_cases h : 1 ≤ p
      · right
        rw [decide_eq_true h] at hp
        simpa using hp
      · left; omega
    rcases hp1 with hp1 | hp1
    · go_enter Tryz.func98, Tryz.ntmps98
      go_wp2
      go_ret2
      exact ⟨0, 0, rfl, hb0, by decide, by decide, cl_lit 0 (by decide), cl_lit 0 (by decide)⟩
    · have hp2 : ¬ p < 1 := by omega
      have hp3 : 315360000000000 < p := by omega
      go_enter Tryz.func98, Tryz.ntmps98
      go_wp2
      go_ret2
      exact ⟨0, 0, rfl, hb0, by decide, by decide, cl_lit 0 (by decide), cl_lit 0 (by decide)⟩
  · have e : tuF (fun j => df (ss j).t (ss 0).t) (fun j => (ss j).v) n p = trS (fun j => df (ss j).t (ss 0).t) (fun j => (ss j).v) p n := if_pos hp
    rw [e]
    have hp1 : 1 ≤ p ∧ p ≤ 315360000000000 := by unfold prB at hp; simpa using hp
    obtain ⟨hp1, hp2⟩ := hp1
    have hng : Op.unary .neg (.float .f64 4604544271217802189) = pure (.float .f64 13827916308072577997) := rfl
    have HF : Hid (Sml w a ss n) := hf
    obtain ⟨X, hX⟩ : ∃ X : Nat → Option Nat × Option Nat, X = trS (fun j => df (ss j).t (ss 0).t) (fun j => (ss j).v) p := ⟨_, rfl⟩
    have HX0 : Hid (X 0 = (some 0, some 0)) := by show _ = _; rw [hX]; rfl
    have HXS : Hid (∀ i, X (i + 1) = (fb .add (X i).1 (fb .mul (cl (ss i).v) (some (cw (eg (df (ss i).t (ss 0).t) p).toNat))), fb .add (X i).2 (fb .mul (cl (ss i).v) (some (sw (eg (df (ss i).t (ss 0).t) p).toNat))))) := by
      intro i
      rw [hX]; rfl
    rw [← hX]
    clear hf hX e hp
    go_enter Tryz.func98, Tryz.ntmps98
    go_wp2_with fail
    go_fit (kH _)
    rintro r w ⟨rfl, rfl⟩
    clear kH
    go_wp2
    have hbW : Below w.heap.size w ((w.alloc (.cells coss 25)).alloc (.cells sins 25)) := (hb0.alloc (Nat.le_refl _) _).alloc (by simp) _
    have hcs : ∀ k, k < 8 → ((w.alloc (.cells coss 25)).alloc (.cells sins 25)).cell? ⟨w.heap.size, k, none⟩ = some (.float .f64 (cw k)) := fun k hk => by
      unfold World.cell?
      rw [show ((w.alloc (.cells coss 25)).alloc (.cells sins 25)).heap[w.heap.size]? = some (.cells coss 25) by rw [heap_alloc_old _ _ (by simp)]; exact heap_alloc_new w _]
      simpa using cos_at k hk
    have hsn : ∀ k, k < 8 → ((w.alloc (.cells coss 25)).alloc (.cells sins 25)).cell? ⟨w.heap.size + 1, k, none⟩ = some (.float .f64 (sw k)) := fun k hk => by
      unfold World.cell?
      have h1 := heap_alloc_new (w.alloc (.cells coss 25)) (.cells sins 25)
      rw [show (w.alloc (.cells coss 25)).heap.size = w.heap.size + 1 by simp] at h1
      rw [h1]
      simpa using sin_at k hk
    have hBl : w.heap.size + 1 < ((w.alloc (.cells coss 25)).alloc (.cells sins 25)).heap.size := by simp
    generalize (w.alloc (.cells coss 25)).alloc (.cells sins 25) = W0 at *
    have HF0 : Hid (Sml W0 a ss n) := HF.out.below hbW
    have HCS : Hid _ := hcs
    have HSN : Hid _ := hsn
    have HBW : Hid (Below w.heap.size w W0) := hbW
    have b0 : Below W0.heap.size W0 W0 := Below.refl _ _
    obtain ⟨G, hG⟩ : ∃ G, G = W0.heap.size := ⟨_, rfl⟩
    have HG : Hid (G = W0.heap.size) := hG
    rw [← hG] at b0 hBl
    obtain ⟨B, hB⟩ : ∃ B, B = w.heap.size := ⟨_, rfl⟩
    have HB : Hid (B = w.heap.size) := hB
    rw [← hB] at hBl HCS HSN ⊢
    clear hG hcs hsn hbW hb0 hB
    go_loopw [6, 7, 11] (fun rv mv iv w' => ∃ (i z1 z2 : Nat), iv = .int .i64 (i : Int) ∧ i ≤ n ∧ rv = .float .f64 z1 ∧ mv = .float .f64 z2 ∧ z1 < 18446744073709551616 ∧ z2 < 18446744073709551616 ∧ Hid ((cl z1, cl z2) = X i) ∧ Below G W0 w') (fun _ _ iv _ => n - (RowKit.intOf iv).toNat)
    case atStart => exact ⟨0, 0, 0, rfl, by omega, rfl, rfl, by decide, by decide, (by rw [HX0.out, cl_lit 0 (by decide)] : _ = _), b0⟩
    case round =>
      obtain ⟨i, z1, z2, rfl, hi, rfl, rfl, hz1, hz2, hst, hb⟩ := hrel
      by_cases hlt : i < n
      · have hii : (i : Int) < n := by omega
        have hn0 : (0 : Int) < n := by omega
        rcases HF0.out with h0 | ⟨g, o, rfl, hg, hat⟩
        · rw [h0] at hlt; omega
        rw [← HG.out] at hg
        obtain ⟨f1, f2, f3⟩ := hat i hlt
        have q1 := (hb.cell (p := ⟨g, o + i * 3, none⟩) hg).trans f1
        have q2 := (hb.cell (p := ⟨g, o + i * 3 + 1, none⟩) hg).trans f2
        have f0 := (hb.cell (p := ⟨g, o + 0 * 3, none⟩) hg).trans (hat 0 (by omega)).1
        rw [show o + 0 * 3 = o by omega] at f0
        have hnx := HXS.out i
        obtain ⟨u, hu⟩ : ∃ u, ss i = u := ⟨_, rfl⟩
        obtain ⟨t0, ht0⟩ : ∃ t0, (ss 0).t = t0 := ⟨_, rfl⟩
        rw [hu] at q1 q2 hnx
        rw [ht0] at hnx f0
        obtain ⟨d, hd⟩ : ∃ d, df u.t t0 = d := ⟨_, rfl⟩
        rw [hd] at hnx
        have hdf : IntKind.i64.wrap (u.t - t0) = d := hd
        obtain ⟨e1, e2⟩ := eg_bd d p hp1
        obtain ⟨k, hk⟩ : ∃ k : Nat, eg d p = (k : Int) := ⟨(eg d p).toNat, by omega⟩
        have hk8 : k < 8 := by omega
        rw [hk, Int.toNat_natCast, ← hst.out] at hnx
        have HNX : Hid _ := hnx
        have kE := fun w => reighth_any d p hp1 hp2 w
        rw [hk] at kE
        have HI : Hid (i + 1 ≤ n) := hlt
        have m1 := (hb.cell (p := ⟨B, k, none⟩) (show B < G by omega)).trans (HCS.out k hk8)
        have m2 := (hb.cell (p := ⟨B + 1, k, none⟩) (show B + 1 < G by omega)).trans (HSN.out k hk8)
        have CW : Hid (cl (cw k) = some (cw k)) := cw_num k hk8
        have SWk : Hid (cl (sw k) = some (sw k)) := sw_num k hk8
        generalize cw k = C at *
        generalize sw k = Sn at *
        clear hu ht0 hd hat f1 f2 f3 hnx hst e1 e2 hk
        go_wp2_with fail
        go_quiet (exact Calls.quiet_of_same (kE _))
        go_wp2_with fail
        refine wp_region_loose (by kernel_rfl) (by kernel_rfl) ?_
        iterate 10 (refine wpLoose_quiet rfl rfl ?_; intro K hK; go_big_quiet_op; go_big_quiet_on)
        refine wpLoose_float .mul (.inr (.inr (.inl rfl))) 25 25 _ _ rfl rfl _ _ rfl rfl (by rintro _ k' ⟨n', rfl⟩; first | exact ⟨n' + k', World.drewN_drewN _ _ _⟩ | exact ⟨n' + k', by simp [Nat.add_assoc]⟩) ?_
        intro y1 y1l hy1
        go_simp
        refine wpLoose_float .add (.inl rfl) 25 25 _ _ rfl rfl _ _ rfl rfl (by rintro _ k' ⟨n', rfl⟩; first | exact ⟨n' + k', World.drewN_drewN _ _ _⟩ | exact ⟨n' + k', by simp [Nat.add_assoc]⟩) ?_
        intro y2 y2l hy2
        go_simp
        iterate 1 (refine wpLoose_quiet rfl rfl ?_; intro K hK; go_big_quiet_op; go_big_quiet_on)
        refine wpLoose_nil ?_
        intro n2
        have Y2 : Hid (cl y2 = fb .add (cl z1) (fb .mul (cl u.v) (some C))) := by show _ = _; rw [hy2, hy1, CW.out]
        clear hy1 hy2
        go_wp2_with fail
        refine wp_region_loose (by kernel_rfl) (by kernel_rfl) ?_
        iterate 10 (refine wpLoose_quiet rfl rfl ?_; intro K hK; go_big_quiet_op; go_big_quiet_on)
        refine wpLoose_float .mul (.inr (.inr (.inl rfl))) 25 25 _ _ rfl rfl _ _ rfl rfl (by rintro _ k' ⟨n', rfl⟩; first | exact ⟨n' + k', World.drewN_drewN _ _ _⟩ | exact ⟨n' + k', by simp [Nat.add_assoc]⟩) ?_
        intro y3 y3l hy3
        go_simp
        refine wpLoose_float .add (.inl rfl) 25 25 _ _ rfl rfl _ _ rfl rfl (by rintro _ k' ⟨n', rfl⟩; first | exact ⟨n' + k', World.drewN_drewN _ _ _⟩ | exact ⟨n' + k', by simp [Nat.add_assoc]⟩) ?_
        intro y4 y4l hy4
        go_simp
        iterate 1 (refine wpLoose_quiet rfl rfl ?_; intro K hK; go_big_quiet_op; go_big_quiet_on)
        refine wpLoose_nil ?_
        intro n3
        have Y4 : Hid (cl y4 = fb .add (cl z2) (fb .mul (cl u.v) (some Sn))) := by show _ = _; rw [hy4, hy3, SWk.out]
        clear hy3 hy4
        go_wp2
        refine ⟨⟨i + 1, _, _, by go_num, HI, rfl, rfl, y2l, y4l, ?_, below_drewN hb _⟩, by simp [RowKit.intOf]; omega⟩
        show _ = _
        rw [HNX.out, Y2.out, Y4.out]
      · have hii : ¬ (i : Int) < n := by omega
        obtain rfl : i = n := by omega
        have HB2 : Hid (Below w.heap.size w wr) := by
          rw [HG.out] at hb
          exact HBW.out.trans (hb.mono HBW.out.size)
        go_wp2
        go_ret2
        exact ⟨z1, z2, rfl, HB2.out, hz1, hz2, congrArg Prod.fst hst.out, congrArg Prod.snd hst.out⟩

set_option maxHeartbeats 1000000 in
set_option maxRecDepth 100000 in
theorem rbeat_any (a : Option Addr) (c n : Nat) (ss : Nat → Smp) (p : Int) (w : World) (hf : Sml w a ss n) (hl : n ≤ 9223372036854775807) :
    Calls Tryz.prog 45 #[.slice a n c, .int .i64 p] w (RB w (beF (fun j => df (ss j).t (ss 0).t) (fun j => (ss j).v) n p)) := by
  have hb0 := Below.refl w.heap.size w
  have kN := rnan_any
  by_cases h0 : n = 0
  · have e : beF (fun j => df (ss j).t (ss 0).t) (fun j => (ss j).v) n p = none := if_pos h0
    have h0' : (n : Int) = 0 := by omega
    rw [e]
    go_enter Tryz.func45, Tryz.ntmps45
    go_wp2_with fail
    go_fit (kN _)
    rintro r w ⟨rfl, rfl⟩
    go_wp2
    go_ret
    exact ⟨_, rfl, hb0, by decide, cl_theNaN⟩
  have h0' : ¬ (n : Int) = 0 := by omega
  cases hp : prB p
  · have e : beF (fun j => df (ss j).t (ss 0).t) (fun j => (ss j).v) n p = none := by unfold beF; rw [if_neg h0, if_pos hp]
    rw [e]
    have hp1 : p < 1 ∨ ¬ p ≤ 315360000000000 := by
      unfold prB at hp
      by_cases h : 1 ≤ p
      · right
        rw [decide_eq_true h] at hp
        simpa using hp
      · left; omega
    rcases hp1 with hp1 | hp1
    · go_enter Tryz.func45, Tryz.ntmps45
      go_wp2_with fail
      go_fit (kN _)
      rintro r w ⟨rfl, rfl⟩
      go_wp2
      go_ret
      exact ⟨_, rfl, hb0, by decide, cl_theNaN⟩
    · have hp2 : ¬ p < 1 := by omega
      have hp3 : 315360000000000 < p := by omega
      go_enter Tryz.func45, Tryz.ntmps45
      go_wp2_with fail
      go_fit (kN _)
      rintro r w ⟨rfl, rfl⟩
      go_wp2
      go_ret
      exact ⟨_, rfl, hb0, by decide, cl_theNaN⟩
  · have E : Hid (beF (fun j => df (ss j).t (ss 0).t) (fun j => (ss j).v) n p = fb .quo (fsq (fb .add (fb .mul (tuF (fun j => df (ss j).t (ss 0).t) (fun j => (ss j).v) n p).1 (tuF (fun j => df (ss j).t (ss 0).t) (fun j => (ss j).v) n p).1) (fb .mul (tuF (fun j => df (ss j).t (ss 0).t) (fun j => (ss j).v) n p).2 (tuF (fun j => df (ss j).t (ss 0).t) (fun j => (ss j).v) n p).2))) (some (nW n))) := by
      show _ = _
      unfold beF; rw [if_neg h0, if_neg (by rw [hp]; decide)]
    have hp1 : 1 ≤ p ∧ p ≤ 315360000000000 := by unfold prB at hp; simpa using hp
    obtain ⟨hp1, hp2⟩ := hp1
    have hp3 : ¬ p < 1 := by omega
    have hp4 : ¬ 315360000000000 < p := by omega
    have kT := rturn_any a c n ss p w hf hl
    have ha := @run_fadd Tryz.prog
    have hm := @run_fmul Tryz.prog
    have hq := @run_fquo Tryz.prog
    have hcn := cvn n
    generalize beF (fun j => df (ss j).t (ss 0).t) (fun j => (ss j).v) n p = R at *
    generalize tuF (fun j => df (ss j).t (ss 0).t) (fun j => (ss j).v) n p = T at *
    go_enter Tryz.func45, Tryz.ntmps45
    go_wp2_with fail
    go_fit kT
    rintro r w1 ⟨z1, z2, rfl, hb1, _, _, hc1, hc2⟩
    have HC1 : Hid (cl z1 = T.1) := hc1
    have HC2 : Hid (cl z2 = T.2) := hc2
    clear hc1 hc2 kT
    go_wp2_with fail
    go_fit (sqrt_any _ _)
    rintro r w2 ⟨z3, k3, rfl, rfl, _, h3⟩
    have H3 : Hid (cl z3 = fsq (fb .add (fb .mul T.1 T.1) (fb .mul T.2 T.2))) := by
      show _ = _
      rw [h3, ← HC1.out, ← HC2.out]
      simp only [cl_fz]
    clear h3
    go_wp2
    go_ret
    refine ⟨_, rfl, below_drewN hb1 _, fz_lt _ _ _ _, ?_⟩
    rw [cl_fz, H3.out, E.out, nW_num]
theorem lv_one (ss : Nat → Smp) : lvB ss 1 = true := rfl
theorem lv_zero (ss : Nat → Smp) : lvB ss 0 = true := rfl
theorem lv_succ (ss : Nat → Smp) (i : Nat) (hi : 0 < i) : lvB ss (i + 1) = (lvB ss i && (FloatKind.f64.format.order (ss i).v (ss 0).v == some .eq)) := by
  obtain ⟨m, rfl⟩ : ∃ m, i = m + 1 := ⟨i - 1, by omega⟩
  unfold lvB
  rw [show m + 1 + 1 - 1 = m + 1 by omega, show m + 1 - 1 = m by omega, List.range_succ, List.all_append]
  simp

set_option maxHeartbeats 2000000 in
set_option maxRecDepth 100000 in
theorem rleast_any (g o c n : Nat) (ss : Nat → Smp) (at_ : Int) (w : World) (hg : g < w.heap.size) (hf : SAt w g o ss n) (hsw : SW ss n) (hn : 0 < n) (hl : 24 * n ≤ 140737488355328) :
    Calls Tryz.prog 26 #[.slice (some ⟨g, o, none⟩) n c, .int .i64 at_] w (RT w (liS (fun j => df (ss j).t at_) (fun j => (ss j).v) n (lvB ss n)) (liV (fun j => df (ss j).t at_) (fun j => (ss j).v) n (lvB ss n))) := by
  have kN := rnan_any
  have hn0 : ((n : Int) == 0) = false := beq_eq_false_iff_ne.2 (by omega)
  have hn1 : (0 : Int) < n := by omega
  have E1 : Hid (liS (fun j => df (ss j).t at_) (fun j => (ss j).v) n (lvB ss n) = if lvB ss n = false then lsS (fun j => df (ss j).t at_) (fun j => (ss j).v) n else if infB (cl (ss 0).v) = true then none else some 0) := if_neg (by omega)
  have E2 : Hid (liV (fun j => df (ss j).t at_) (fun j => (ss j).v) n (lvB ss n) = if lvB ss n = false then lsV (fun j => df (ss j).t at_) (fun j => (ss j).v) n else if infB (cl (ss 0).v) = true then none else cl (ss 0).v) := if_neg (by omega)
  generalize liS (fun j => df (ss j).t at_) (fun j => (ss j).v) n (lvB ss n) = R1 at *
  generalize liV (fun j => df (ss j).t at_) (fun j => (ss j).v) n (lvB ss n) = R2 at *
  have hf0 := (hf 0 hn).2.1
  rw [show o + 0 * 3 + 1 = o + 1 by omega] at hf0
  have hv0l := (hsw 0 hn).2.2
  have LZ : Hid (lvB ss 0 = true) := lv_zero ss
  have LO : Hid (lvB ss 1 = true) := lv_one ss
  have LS : Hid (∀ i, 0 < i → lvB ss (i + 1) = (lvB ss i && (FloatKind.f64.format.order (ss i).v (ss 0).v == some .eq))) := lv_succ ss
  obtain ⟨v0, hv0⟩ : ∃ v0, (ss 0).v = v0 := ⟨_, rfl⟩
  rw [hv0] at hf0 LS E1 E2 hv0l
  have HF00 : Hid _ := hf0
  clear hv0 hf0
  have ha := @run_fadd Tryz.prog
  have hs := @run_fsub Tryz.prog
  have hm := @run_fmul Tryz.prog
  have hq := @run_fquo Tryz.prog
  have hcv := cvi
  have hcn := cvn n
  have HF : Hid (SAt w g o ss n) := hf
  have HSW : Hid (SW ss n) := hsw
  have hb0 := Below.refl w.heap.size w
  clear hf hsw
  obtain ⟨D, hD⟩ : ∃ D : Nat → Int, D = fun j => df (ss j).t at_ := ⟨_, rfl⟩
  obtain ⟨V, hV⟩ : ∃ V : Nat → Nat, V = fun j => (ss j).v := ⟨_, rfl⟩
  rw [← hD, ← hV] at E1 E2
  have HD : Hid (D = fun j => df (ss j).t at_) := hD
  have HV : Hid (V = fun j => (ss j).v) := hV
  have HX : Hid (∀ j, xF D j = fb .quo (some (iw (D j))) (some 4652007308841189376)) := fun j => rfl
  have HY : Hid (∀ j, yF V j = cl (V j)) := fun j => rfl
  have HXY : Hid (∀ j, xyF D V j = fb .mul (xF D j) (yF V j)) := fun j => rfl
  have HXX : Hid (∀ j, xxF D j = fb .mul (xF D j) (xF D j)) := fun j => rfl
  have HS : Hid (lsS D V n = fb .quo (fb .sub (sumF ((List.range n).map (xyF D V))) (fb .quo (fb .mul (sumF ((List.range n).map (xF D))) (sumF ((List.range n).map (yF V)))) (some (nW n)))) (fb .sub (sumF ((List.range n).map (xxF D))) (fb .quo (fb .mul (sumF ((List.range n).map (xF D))) (sumF ((List.range n).map (xF D)))) (some (nW n))))) := (rfl : lsS D V n = _)
  have HT : Hid (lsV D V n = fb .sub (fb .quo (sumF ((List.range n).map (yF V))) (some (nW n))) (fb .quo (fb .mul (lsS D V n) (sumF ((List.range n).map (xF D)))) (some (nW n)))) := (rfl : lsV D V n = _)
  generalize lsS D V n = SL at *
  generalize lsV D V n = VL at *
  generalize xyF D V = fxy at *
  generalize xxF D = fxx at *
  generalize xF D = fx at *
  generalize yF V = fy at *
  clear hD hV
  obtain ⟨G, hG⟩ : ∃ G, G = w.heap.size := ⟨_, rfl⟩
  have HG : Hid (G = w.heap.size) := hG
  rw [← hG] at hb0 hg
  clear hG
  go_enter Tryz.func26, Tryz.ntmps26
  go_wp2
  go_loopw [6, 7, 8, 9, 10, 11] (fun lv v0 v1 v2 v3 iv w' => ∃ (i : Nat) (A0 A1 A2 A3 : Option Addr) (C0 C1 C2 C3 : Nat) (y0 y1 y2 y3 : List Nat) (col : Nat → Nat), iv = .int .i64 (i : Int) ∧ i ≤ n ∧ lv = .bool (lvB ss i) ∧ v0 = .slice A0 i C0 ∧ v1 = .slice A1 i C1 ∧ v2 = .slice A2 i C2 ∧ v3 = .slice A3 i C3 ∧
      Hid (Four w' G col i A0 A1 A2 A3 C0 C1 C2 C3 y0 y1 y2 y3) ∧ Hid (Ls y0 i fx) ∧ Hid (Ls y1 i fy) ∧ Hid (Ls y2 i fxy) ∧ Hid (Ls y3 i fxx) ∧ Below G w w') (fun _ _ _ _ _ iv _ => n - (RowKit.intOf iv).toNat)
  case atStart => exact ⟨0, none, none, none, none, 0, 0, 0, 0, [], [], [], [], fun _ => 0, rfl, by omega, by rw [LZ.out], rfl, rfl, rfl, rfl, ⟨⟨Fr.nil _ _, Co.nil _ _, rfl⟩, ⟨Fr.nil _ _, Co.nil _ _, rfl⟩, ⟨Fr.nil _ _, Co.nil _ _, rfl⟩, ⟨Fr.nil _ _, Co.nil _ _, rfl⟩⟩, Ls.nil _ _, Ls.nil _ _, Ls.nil _ _, Ls.nil _ _, hb0⟩
  case round =>
    obtain ⟨i, A0, A1, A2, A3, C0, C1, C2, C3, y0, y1, y2, y3, col, rfl, hi, rfl, rfl, rfl, rfl, rfl, h4, l0, l1, l2, l3, hb⟩ := hrel
    by_cases hlt : i < n
    · have hii : (i : Int) < n := by omega
      obtain ⟨f1, f2, f3⟩ := HF.out i hlt
      have q1 := (hb.cell (p := ⟨g, o + i * 3, none⟩) hg).trans f1
      have q2 := (hb.cell (p := ⟨g, o + i * 3 + 1, none⟩) hg).trans f2
      have q0 := (hb.cell (p := ⟨g, o + 1, none⟩) hg).trans HF00.out
      have hswi := HSW.out i hlt
      have HXi : Hid (fx i = fb .quo (some (iw (df (ss i).t at_))) (some 4652007308841189376)) := by
        show _ = _
        rw [HX.out, HD.out]
      have HYi : Hid (fy i = cl (ss i).v) := by
        show _ = _
        rw [HY.out, HV.out]
      have HLS : Hid (0 < i → lvB ss (i + 1) = (lvB ss i && (FloatKind.f64.format.order (ss i).v v0 == some .eq))) := LS.out i
      have HI : Hid (i + 1 ≤ n) := hlt
      obtain ⟨u, hu⟩ : ∃ u, ss i = u := ⟨_, rfl⟩
      rw [hu] at q1 q2 HXi HYi hswi HLS
      clear hu f1 f2 f3
      have hGw : G ≤ wr.heap.size := by rw [HG.out]; exact hb.size
      have hdf : IntKind.i64.wrap (u.t - at_) = df u.t at_ := rfl
      by_cases hi0 : i = 0
      · have HL1 : Hid (lvB ss (i + 1) = lvB ss i) := by show _ = _; rw [hi0, LZ.out, LO.out]
        have hd : decide (0 < i) = false := decide_eq_false (by omega)
        have hd2 : ¬ (0 : Int) < (i : Int) := by omega
        clear hi0
        go_wp2_with fail
        go_quiet (fail)
        go_wp2_with fail
        refine wp_region_loose (by kernel_rfl) (by kernel_rfl) ?_
        iterate 8 (refine wpLoose_quiet rfl rfl ?_; intro K hK; go_big_quiet_op; go_big_quiet_on)
        refine wpLoose_float .quo (.inr (.inr (.inr rfl))) 25 25 _ _ rfl rfl _ _ rfl rfl (by rintro _ k' ⟨n', rfl⟩; first | exact ⟨n' + k', World.drewN_drewN _ _ _⟩ | exact ⟨n' + k', by simp [Nat.add_assoc]⟩) ?_
        intro z hzl hz
        go_simp
        iterate 7 (refine wpLoose_quiet rfl rfl ?_; intro K hK; go_big_quiet_op; go_big_quiet_on)
        refine wpLoose_nil ?_
        intro n2
        have Hz : Hid (cl z = fx i) := by
          show _ = _
          rw [hz, HXi.out, iw_num, cl_lit 4652007308841189376 (by decide)]
        obtain ⟨⟨o0, c0, e0⟩, ⟨o1, c1, e1⟩, ⟨o2, c2, e2⟩, ⟨o3, c3, e3⟩⟩ := h4.out
        have hbW : Below wr.heap.size wr (wr.drewN (nq + n2)) := below_drewN (Below.refl _ _) _
        have hbA2 : Below G w (wr.drewN (nq + n2)) := below_drewN hb _
        clear q1 q2 q0
        generalize wr.drewN (nq + n2) = W2 at *
        have hGW : G ≤ W2.heap.size := Nat.le_trans hGw hbW.size
        obtain ⟨B0, E0, w1, col1, r1, p0, d0, g0, b1, kp1⟩ := append_s W2 G col 0 i A0 C0 y0 z hGW (by omega) (o0.below hbW) c0 e0
        obtain ⟨o1, c1⟩ := kp1 _ _ 1 (by decide) (o1.below hbW) c1
        obtain ⟨o2, c2⟩ := kp1 _ _ 2 (by decide) (o2.below hbW) c2
        obtain ⟨o3, c3⟩ := kp1 _ _ 3 (by decide) (o3.below hbW) c3
        have hG1 : G ≤ w1.heap.size := Nat.le_trans hGW b1.size
        obtain ⟨B1, E1, w2, col2, r2, p1, d1, g1, b2, kp2⟩ := append_s w1 G col1 1 i A1 C1 y1 u.v hG1 (by omega) o1 c1 e1
        obtain ⟨p0, d0⟩ := kp2 _ _ 0 (by decide) p0 d0
        obtain ⟨o2, c2⟩ := kp2 _ _ 2 (by decide) o2 c2
        obtain ⟨o3, c3⟩ := kp2 _ _ 3 (by decide) o3 c3
        have hG2 : G ≤ (w2.drewN (fk .mul z u.v)).heap.size := Nat.le_trans hG1 b2.size
        obtain ⟨B2, E2, w3, col3, r3, p2, d2, g2, b3, kp3⟩ := append_s (w2.drewN (fk .mul z u.v)) G col2 2 i A2 C2 y2 (fz .mul z u.v w2) hG2 (by omega) (o2.drew _) c2 e2
        obtain ⟨p0, d0⟩ := kp3 _ _ 0 (by decide) (p0.drew _) d0
        obtain ⟨p1, d1⟩ := kp3 _ _ 1 (by decide) (p1.drew _) d1
        obtain ⟨o3, c3⟩ := kp3 _ _ 3 (by decide) (o3.drew _) c3
        have hG3 : G ≤ (w3.drewN (fk .mul z z)).heap.size := Nat.le_trans hG2 b3.size
        obtain ⟨B3, E3, w4, col4, r4, p3, d3, g3, b4, kp4⟩ := append_s (w3.drewN (fk .mul z z)) G col3 3 i A3 C3 y3 (fz .mul z z w3) hG3 (by omega) (o3.drew _) c3 e3
        obtain ⟨p0, d0⟩ := kp4 _ _ 0 (by decide) (p0.drew _) d0
        obtain ⟨p1, d1⟩ := kp4 _ _ 1 (by decide) (p1.drew _) d1
        obtain ⟨p2, d2⟩ := kp4 _ _ 2 (by decide) (p2.drew _) d2
        have H4 : Hid (Four w4 G col4 (i + 1) B0 B1 B2 B3 E0 E1 E2 E3 (y0 ++ [z]) (y1 ++ [u.v]) (y2 ++ [fz .mul z u.v w2]) (y3 ++ [fz .mul z z w3])) := ⟨⟨p0, d0, g0⟩, ⟨p1, d1, g1⟩, ⟨p2, d2, g2⟩, ⟨p3, d3, g3⟩⟩
        have L0 : Hid (Ls (y0 ++ [z]) (i + 1) fx) := by
          have := l0.out
          rw [← e0] at this ⊢
          exact this.push _ (by rw [e0, Hz.out]) hzl
        have L1 : Hid (Ls (y1 ++ [u.v]) (i + 1) fy) := by
          have := l1.out
          rw [← e1] at this ⊢
          exact this.push _ (by rw [e1, HYi.out]) hswi.2.2
        have L2 : Hid (Ls (y2 ++ [fz .mul z u.v w2]) (i + 1) fxy) := by
          have := l2.out
          rw [← e2] at this ⊢
          exact this.push _ (by rw [cl_fz, e2, HXY.out, Hz.out, HYi.out]) (fz_lt _ _ _ _)
        have L3 : Hid (Ls (y3 ++ [fz .mul z z w3]) (i + 1) fxx) := by
          have := l3.out
          rw [← e3] at this ⊢
          exact this.push _ (by rw [cl_fz, e3, HXX.out, Hz.out]) (fz_lt _ _ _ _)
        have HB : Hid (Below G w w4) := by
          have h1 := hbA2.trans b1
          have h2 := below_drewN (h1.trans b2) (fk .mul z u.v)
          have h3 := below_drewN (h2.trans b3) (fk .mul z z)
          exact h3.trans b4
        clear o0 o1 o2 o3 c0 c1 c2 c3 e0 e1 e2 e3 p0 p1 p2 p3 d0 d1 d2 d3 g0 g1 g2 g3 kp1 kp2 kp3 kp4 b1 b2 b3 b4 h4 l0 l1 l2 l3 hz hbW hGW hG1 hG2 hG3
        go_wp2_with (first | (at_builtin; refine wpList_append_run rfl (.tmp 59) (.tmp 61) 33 33 rfl _ _ rfl rfl r1 ?_) | (at_builtin; refine wpList_append_run rfl (.tmp 63) (.tmp 65) 33 33 rfl _ _ rfl rfl r2 ?_) | (at_builtin; refine wpList_append_run rfl (.tmp 67) (.tmp 71) 33 33 rfl _ _ rfl rfl r3 ?_) | (at_builtin; refine wpList_append_run rfl (.tmp 73) (.tmp 77) 33 33 rfl _ _ rfl rfl r4 ?_))
        exact ⟨⟨i + 1, B0, B1, B2, B3, E0, E1, E2, E3, _, _, _, _, col4, by go_num, HI, by rw [HL1.out], rfl, rfl, rfl, rfl, H4, L0, L1, L2, L3, HB.out⟩, by simp [RowKit.intOf]; omega⟩
      · have hi1 : (0 : Int) < i := by omega
        have hd : decide (0 < i) = true := decide_eq_true (by omega)
        have hls := HLS.out (by omega)
        cases heq : (FloatKind.f64.format.order u.v v0 == some .eq)
        · have heq' : (FloatKind.f64.format.order u.v v0 != some .eq) = true := by rw [bne, heq]; rfl
          have HL1 : Hid (lvB ss (i + 1) = false) := by show _ = _; rw [hls, heq, Bool.and_false]
          clear hls
          go_wp2_with fail
          go_quiet (fail)
          go_wp2_with fail
          refine wp_region_loose (by kernel_rfl) (by kernel_rfl) ?_
          iterate 8 (refine wpLoose_quiet rfl rfl ?_; intro K hK; go_big_quiet_op; go_big_quiet_on)
          refine wpLoose_float .quo (.inr (.inr (.inr rfl))) 25 25 _ _ rfl rfl _ _ rfl rfl (by rintro _ k' ⟨n', rfl⟩; first | exact ⟨n' + k', World.drewN_drewN _ _ _⟩ | exact ⟨n' + k', by simp [Nat.add_assoc]⟩) ?_
          intro z hzl hz
          go_simp
          iterate 7 (refine wpLoose_quiet rfl rfl ?_; intro K hK; go_big_quiet_op; go_big_quiet_on)
          refine wpLoose_nil ?_
          intro n2
          have Hz : Hid (cl z = fx i) := by
            show _ = _
            rw [hz, HXi.out, iw_num, cl_lit 4652007308841189376 (by decide)]
          obtain ⟨⟨o0, c0, e0⟩, ⟨o1, c1, e1⟩, ⟨o2, c2, e2⟩, ⟨o3, c3, e3⟩⟩ := h4.out
          have hbW : Below wr.heap.size wr (wr.drewN (nq + n2)) := below_drewN (Below.refl _ _) _
          have hbA2 : Below G w (wr.drewN (nq + n2)) := below_drewN hb _
          clear q1 q2 q0
          generalize wr.drewN (nq + n2) = W2 at *
          have hGW : G ≤ W2.heap.size := Nat.le_trans hGw hbW.size
          obtain ⟨B0, E0, w1, col1, r1, p0, d0, g0, b1, kp1⟩ := append_s W2 G col 0 i A0 C0 y0 z hGW (by omega) (o0.below hbW) c0 e0
          obtain ⟨o1, c1⟩ := kp1 _ _ 1 (by decide) (o1.below hbW) c1
          obtain ⟨o2, c2⟩ := kp1 _ _ 2 (by decide) (o2.below hbW) c2
          obtain ⟨o3, c3⟩ := kp1 _ _ 3 (by decide) (o3.below hbW) c3
          have hG1 : G ≤ w1.heap.size := Nat.le_trans hGW b1.size
          obtain ⟨B1, E1, w2, col2, r2, p1, d1, g1, b2, kp2⟩ := append_s w1 G col1 1 i A1 C1 y1 u.v hG1 (by omega) o1 c1 e1
          obtain ⟨p0, d0⟩ := kp2 _ _ 0 (by decide) p0 d0
          obtain ⟨o2, c2⟩ := kp2 _ _ 2 (by decide) o2 c2
          obtain ⟨o3, c3⟩ := kp2 _ _ 3 (by decide) o3 c3
          have hG2 : G ≤ (w2.drewN (fk .mul z u.v)).heap.size := Nat.le_trans hG1 b2.size
          obtain ⟨B2, E2, w3, col3, r3, p2, d2, g2, b3, kp3⟩ := append_s (w2.drewN (fk .mul z u.v)) G col2 2 i A2 C2 y2 (fz .mul z u.v w2) hG2 (by omega) (o2.drew _) c2 e2
          obtain ⟨p0, d0⟩ := kp3 _ _ 0 (by decide) (p0.drew _) d0
          obtain ⟨p1, d1⟩ := kp3 _ _ 1 (by decide) (p1.drew _) d1
          obtain ⟨o3, c3⟩ := kp3 _ _ 3 (by decide) (o3.drew _) c3
          have hG3 : G ≤ (w3.drewN (fk .mul z z)).heap.size := Nat.le_trans hG2 b3.size
          obtain ⟨B3, E3, w4, col4, r4, p3, d3, g3, b4, kp4⟩ := append_s (w3.drewN (fk .mul z z)) G col3 3 i A3 C3 y3 (fz .mul z z w3) hG3 (by omega) (o3.drew _) c3 e3
          obtain ⟨p0, d0⟩ := kp4 _ _ 0 (by decide) (p0.drew _) d0
          obtain ⟨p1, d1⟩ := kp4 _ _ 1 (by decide) (p1.drew _) d1
          obtain ⟨p2, d2⟩ := kp4 _ _ 2 (by decide) (p2.drew _) d2
          have H4 : Hid (Four w4 G col4 (i + 1) B0 B1 B2 B3 E0 E1 E2 E3 (y0 ++ [z]) (y1 ++ [u.v]) (y2 ++ [fz .mul z u.v w2]) (y3 ++ [fz .mul z z w3])) := ⟨⟨p0, d0, g0⟩, ⟨p1, d1, g1⟩, ⟨p2, d2, g2⟩, ⟨p3, d3, g3⟩⟩
          have L0 : Hid (Ls (y0 ++ [z]) (i + 1) fx) := by
            have := l0.out
            rw [← e0] at this ⊢
            exact this.push _ (by rw [e0, Hz.out]) hzl
          have L1 : Hid (Ls (y1 ++ [u.v]) (i + 1) fy) := by
            have := l1.out
            rw [← e1] at this ⊢
            exact this.push _ (by rw [e1, HYi.out]) hswi.2.2
          have L2 : Hid (Ls (y2 ++ [fz .mul z u.v w2]) (i + 1) fxy) := by
            have := l2.out
            rw [← e2] at this ⊢
            exact this.push _ (by rw [cl_fz, e2, HXY.out, Hz.out, HYi.out]) (fz_lt _ _ _ _)
          have L3 : Hid (Ls (y3 ++ [fz .mul z z w3]) (i + 1) fxx) := by
            have := l3.out
            rw [← e3] at this ⊢
            exact this.push _ (by rw [cl_fz, e3, HXX.out, Hz.out]) (fz_lt _ _ _ _)
          have HB : Hid (Below G w w4) := by
            have h1 := hbA2.trans b1
            have h2 := below_drewN (h1.trans b2) (fk .mul z u.v)
            have h3 := below_drewN (h2.trans b3) (fk .mul z z)
            exact h3.trans b4
          clear o0 o1 o2 o3 c0 c1 c2 c3 e0 e1 e2 e3 p0 p1 p2 p3 d0 d1 d2 d3 g0 g1 g2 g3 kp1 kp2 kp3 kp4 b1 b2 b3 b4 h4 l0 l1 l2 l3 hz hbW hGW hG1 hG2 hG3
          go_wp2_with (first | (at_builtin; refine wpList_append_run rfl (.tmp 59) (.tmp 61) 33 33 rfl _ _ rfl rfl r1 ?_) | (at_builtin; refine wpList_append_run rfl (.tmp 63) (.tmp 65) 33 33 rfl _ _ rfl rfl r2 ?_) | (at_builtin; refine wpList_append_run rfl (.tmp 67) (.tmp 71) 33 33 rfl _ _ rfl rfl r3 ?_) | (at_builtin; refine wpList_append_run rfl (.tmp 73) (.tmp 77) 33 33 rfl _ _ rfl rfl r4 ?_))
          exact ⟨⟨i + 1, B0, B1, B2, B3, E0, E1, E2, E3, _, _, _, _, col4, by go_num, HI, by rw [HL1.out], rfl, rfl, rfl, rfl, H4, L0, L1, L2, L3, HB.out⟩, by simp [RowKit.intOf]; omega⟩
        · have heq' : (FloatKind.f64.format.order u.v v0 != some .eq) = false := by rw [bne, heq]; rfl
          have HL1 : Hid (lvB ss (i + 1) = lvB ss i) := by show _ = _; rw [hls, heq, Bool.and_true]
          clear hls
          go_wp2_with fail
          go_quiet (fail)
          go_wp2_with fail
          refine wp_region_loose (by kernel_rfl) (by kernel_rfl) ?_
          iterate 8 (refine wpLoose_quiet rfl rfl ?_; intro K hK; go_big_quiet_op; go_big_quiet_on)
          refine wpLoose_float .quo (.inr (.inr (.inr rfl))) 25 25 _ _ rfl rfl _ _ rfl rfl (by rintro _ k' ⟨n', rfl⟩; first | exact ⟨n' + k', World.drewN_drewN _ _ _⟩ | exact ⟨n' + k', by simp [Nat.add_assoc]⟩) ?_
          intro z hzl hz
          go_simp
          iterate 7 (refine wpLoose_quiet rfl rfl ?_; intro K hK; go_big_quiet_op; go_big_quiet_on)
          refine wpLoose_nil ?_
          intro n2
          have Hz : Hid (cl z = fx i) := by
            show _ = _
            rw [hz, HXi.out, iw_num, cl_lit 4652007308841189376 (by decide)]
          obtain ⟨⟨o0, c0, e0⟩, ⟨o1, c1, e1⟩, ⟨o2, c2, e2⟩, ⟨o3, c3, e3⟩⟩ := h4.out
          have hbW : Below wr.heap.size wr (wr.drewN (nq + n2)) := below_drewN (Below.refl _ _) _
          have hbA2 : Below G w (wr.drewN (nq + n2)) := below_drewN hb _
          clear q1 q2 q0
          generalize wr.drewN (nq + n2) = W2 at *
          have hGW : G ≤ W2.heap.size := Nat.le_trans hGw hbW.size
          obtain ⟨B0, E0, w1, col1, r1, p0, d0, g0, b1, kp1⟩ := append_s W2 G col 0 i A0 C0 y0 z hGW (by omega) (o0.below hbW) c0 e0
          obtain ⟨o1, c1⟩ := kp1 _ _ 1 (by decide) (o1.below hbW) c1
          obtain ⟨o2, c2⟩ := kp1 _ _ 2 (by decide) (o2.below hbW) c2
          obtain ⟨o3, c3⟩ := kp1 _ _ 3 (by decide) (o3.below hbW) c3
          have hG1 : G ≤ w1.heap.size := Nat.le_trans hGW b1.size
          obtain ⟨B1, E1, w2, col2, r2, p1, d1, g1, b2, kp2⟩ := append_s w1 G col1 1 i A1 C1 y1 u.v hG1 (by omega) o1 c1 e1
          obtain ⟨p0, d0⟩ := kp2 _ _ 0 (by decide) p0 d0
          obtain ⟨o2, c2⟩ := kp2 _ _ 2 (by decide) o2 c2
          obtain ⟨o3, c3⟩ := kp2 _ _ 3 (by decide) o3 c3
          have hG2 : G ≤ (w2.drewN (fk .mul z u.v)).heap.size := Nat.le_trans hG1 b2.size
          obtain ⟨B2, E2, w3, col3, r3, p2, d2, g2, b3, kp3⟩ := append_s (w2.drewN (fk .mul z u.v)) G col2 2 i A2 C2 y2 (fz .mul z u.v w2) hG2 (by omega) (o2.drew _) c2 e2
          obtain ⟨p0, d0⟩ := kp3 _ _ 0 (by decide) (p0.drew _) d0
          obtain ⟨p1, d1⟩ := kp3 _ _ 1 (by decide) (p1.drew _) d1
          obtain ⟨o3, c3⟩ := kp3 _ _ 3 (by decide) (o3.drew _) c3
          have hG3 : G ≤ (w3.drewN (fk .mul z z)).heap.size := Nat.le_trans hG2 b3.size
          obtain ⟨B3, E3, w4, col4, r4, p3, d3, g3, b4, kp4⟩ := append_s (w3.drewN (fk .mul z z)) G col3 3 i A3 C3 y3 (fz .mul z z w3) hG3 (by omega) (o3.drew _) c3 e3
          obtain ⟨p0, d0⟩ := kp4 _ _ 0 (by decide) (p0.drew _) d0
          obtain ⟨p1, d1⟩ := kp4 _ _ 1 (by decide) (p1.drew _) d1
          obtain ⟨p2, d2⟩ := kp4 _ _ 2 (by decide) (p2.drew _) d2
          have H4 : Hid (Four w4 G col4 (i + 1) B0 B1 B2 B3 E0 E1 E2 E3 (y0 ++ [z]) (y1 ++ [u.v]) (y2 ++ [fz .mul z u.v w2]) (y3 ++ [fz .mul z z w3])) := ⟨⟨p0, d0, g0⟩, ⟨p1, d1, g1⟩, ⟨p2, d2, g2⟩, ⟨p3, d3, g3⟩⟩
          have L0 : Hid (Ls (y0 ++ [z]) (i + 1) fx) := by
            have := l0.out
            rw [← e0] at this ⊢
            exact this.push _ (by rw [e0, Hz.out]) hzl
          have L1 : Hid (Ls (y1 ++ [u.v]) (i + 1) fy) := by
            have := l1.out
            rw [← e1] at this ⊢
            exact this.push _ (by rw [e1, HYi.out]) hswi.2.2
          have L2 : Hid (Ls (y2 ++ [fz .mul z u.v w2]) (i + 1) fxy) := by
            have := l2.out
            rw [← e2] at this ⊢
            exact this.push _ (by rw [cl_fz, e2, HXY.out, Hz.out, HYi.out]) (fz_lt _ _ _ _)
          have L3 : Hid (Ls (y3 ++ [fz .mul z z w3]) (i + 1) fxx) := by
            have := l3.out
            rw [← e3] at this ⊢
            exact this.push _ (by rw [cl_fz, e3, HXX.out, Hz.out]) (fz_lt _ _ _ _)
          have HB : Hid (Below G w w4) := by
            have h1 := hbA2.trans b1
            have h2 := below_drewN (h1.trans b2) (fk .mul z u.v)
            have h3 := below_drewN (h2.trans b3) (fk .mul z z)
            exact h3.trans b4
          clear o0 o1 o2 o3 c0 c1 c2 c3 e0 e1 e2 e3 p0 p1 p2 p3 d0 d1 d2 d3 g0 g1 g2 g3 kp1 kp2 kp3 kp4 b1 b2 b3 b4 h4 l0 l1 l2 l3 hz hbW hGW hG1 hG2 hG3
          go_wp2_with (first | (at_builtin; refine wpList_append_run rfl (.tmp 59) (.tmp 61) 33 33 rfl _ _ rfl rfl r1 ?_) | (at_builtin; refine wpList_append_run rfl (.tmp 63) (.tmp 65) 33 33 rfl _ _ rfl rfl r2 ?_) | (at_builtin; refine wpList_append_run rfl (.tmp 67) (.tmp 71) 33 33 rfl _ _ rfl rfl r3 ?_) | (at_builtin; refine wpList_append_run rfl (.tmp 73) (.tmp 77) 33 33 rfl _ _ rfl rfl r4 ?_))
          exact ⟨⟨i + 1, B0, B1, B2, B3, E0, E1, E2, E3, _, _, _, _, col4, by go_num, HI, by rw [HL1.out], rfl, rfl, rfl, rfl, H4, L0, L1, L2, L3, HB.out⟩, by simp [RowKit.intOf]; omega⟩
    · have hii : ¬ (i : Int) < n := by omega
      obtain rfl : i = n := by omega
      obtain ⟨⟨o0, c0, e0⟩, ⟨o1, c1, e1⟩, ⟨o2, c2, e2⟩, ⟨o3, c3, e3⟩⟩ := h4.out
      have q0 := (hb.cell (p := ⟨g, o + 1, none⟩) hg).trans HF00.out
      have HBw : Hid (Below w.heap.size w wr) := by
        show Below _ _ _
        rw [← HG.out]
        exact hb
      have kI := fun w => endless_any v0 hv0l w
      cases hlv : lvB ss i
      · rw [hlv] at E1 E2
        have F1 : Hid (R1 = SL) := E1.out.trans (if_pos rfl)
        have F2 : Hid (R2 = VL) := E2.out.trans (if_pos rfl)
        have key : ∀ (A : Option Addr) (C : Nat) (y : List Nat) (F : Nat → Option Nat), Fr wr G (.slice A i C) y → y.length = i → Ls y i F → ∀ w1, Below wr.heap.size wr w1 → Calls Tryz.prog 35 #[.slice A i C] w1 (RB w1 (sumF ((List.range i).map F))) := by
          intro A C y F o e l w1 hb1
          rw [← e] at l
          obtain ⟨a2, c2, ev, hf2⟩ := o.fm
          rw [e] at ev
          cases ev
          have := (rsum_any A C y w1 (hf2.below hb1) l.wd (by omega)).mono fun _ _ => RF.rb
          rw [l.cs, e] at this
          exact this
        have K0 : Hid _ := key A0 C0 y0 fx o0 e0 l0.out
        have K1 : Hid _ := key A1 C1 y1 fy o1 e1 l1.out
        have K2 : Hid _ := key A2 C2 y2 fxy o2 e2 l2.out
        have K3 : Hid _ := key A3 C3 y3 fxx o3 e3 l3.out
        have hstep : Hid (∀ w1 w2, Below wr.heap.size wr w1 → Below w1.heap.size w1 w2 → Below wr.heap.size wr w2) := fun w1 w2 h1 h2 => h1.trans (h2.mono h1.size)
        have b0 : Hid (Below wr.heap.size wr wr) := Below.refl _ _
        clear key o0 o1 o2 o3 c0 c1 c2 c3 e0 e1 e2 e3 h4 l0 l1 l2 l3 kI
        go_wp2_with fail
        go_fit (K0.out _ b0.out)
        rintro r w1 ⟨zX, rfl, hb1, _, hX⟩
        have b1 : Hid (Below wr.heap.size wr w1) := hstep.out _ _ b0.out hb1
        have CX : Hid _ := hX
        clear hb1 hX
        go_wp2_with fail
        go_fit (K1.out _ b1.out)
        rintro r w2 ⟨zY, rfl, hb2, _, hY⟩
        have b2 : Hid (Below wr.heap.size wr w2) := hstep.out _ _ b1.out hb2
        have CY : Hid _ := hY
        clear hb2 hY
        go_wp2_with fail
        go_fit (K2.out _ b2.out)
        rintro r w3 ⟨zXY, rfl, hb3, _, hXY⟩
        have b3 : Hid (Below wr.heap.size wr w3) := hstep.out _ _ b2.out hb3
        have CXY : Hid _ := hXY
        clear hb3 hXY
        go_wp2_with fail
        go_fit (K3.out _ (below_drewN b3.out _))
        rintro r w4 ⟨zXX, rfl, hb4, _, hXX⟩
        have b4 : Hid (Below wr.heap.size wr w4) := hstep.out _ _ (below_drewN b3.out _) hb4
        have CXX : Hid _ := hXX
        clear hb4 hXX
        have HB : Hid (Below w.heap.size w w4) := HBw.out.trans (b4.out.mono HBw.out.size)
        go_wp2
        go_ret2
        refine ⟨_, _, rfl, below_drewN HB.out _, fz_lt _ _ _ _, fz_lt _ _ _ _, ?_, ?_⟩
        · simp only [cl_fz]
          rw [F1.out, HS.out, CX.out, CY.out, CXY.out, CXX.out, nW_num]
        · simp only [cl_fz]
          rw [F2.out, HT.out, HS.out, CX.out, CY.out, CXY.out, CXX.out, nW_num]
      · rw [hlv] at E1 E2
        have F1 : Hid (R1 = if infB (cl v0) = true then none else some 0) := E1.out.trans (if_neg (by decide))
        have F2 : Hid (R2 = if infB (cl v0) = true then none else cl v0) := E2.out.trans (if_neg (by decide))
        clear o0 o1 o2 o3 c0 c1 c2 c3 e0 e1 e2 e3 h4 l0 l1 l2 l3
        go_wp2_with fail
        go_fit (kI _)
        rintro r _ ⟨rfl, rfl⟩
        cases hinf : infB (cl v0)
        · have G1 : Hid (some 0 = R1) := by show _ = _; rw [F1.out, if_neg (by rw [hinf]; decide)]
          have G2 : Hid (cl v0 = R2) := by show _ = _; rw [F2.out, if_neg (by rw [hinf]; decide)]
          go_wp2_with fail
          go_quiet (fail)
          go_wp2
          go_ret2
          exact ⟨_, _, rfl, below_drewN HBw.out _, by decide, hv0l, by rw [cl_lit 0 (by decide)]; exact G1.out, G2.out⟩
        · have G1 : Hid (none = R1) := by show _ = _; rw [F1.out, if_pos hinf]
          have G2 : Hid (none = R2) := by show _ = _; rw [F2.out, if_pos hinf]
          go_wp2_with fail
          go_fit (kN _)
          rintro r _ ⟨rfl, rfl⟩
          go_wp2_with fail
          go_fit (kN _)
          rintro r _ ⟨rfl, rfl⟩
          go_wp2
          go_ret2
          exact ⟨_, _, rfl, HBw.out, by decide, by decide, cl_theNaN.trans G1.out, cl_theNaN.trans G2.out⟩

set_option maxHeartbeats 1000000 in
theorem rline_any (a : Option Addr) (c n : Nat) (ss : Nat → Smp) (at_ : Int) (w : World) (hf : Sml w a ss n) (hsw : SW ss n) (hl : 24 * n ≤ 140737488355328) :
    Calls Tryz.prog 26 #[.slice a n c, .int .i64 at_] w (RT w (liS (fun j => df (ss j).t at_) (fun j => (ss j).v) n (lvB ss n)) (liV (fun j => df (ss j).t at_) (fun j => (ss j).v) n (lvB ss n))) := by
  have kN := rnan_any
  have hb0 := Below.refl w.heap.size w
  by_cases h0 : n = 0
  · have e1 : liS (fun j => df (ss j).t at_) (fun j => (ss j).v) n (lvB ss n) = none := if_pos h0
    have e2 : liV (fun j => df (ss j).t at_) (fun j => (ss j).v) n (lvB ss n) = none := if_pos h0
    have h0' : (n : Int) = 0 := by omega
    rw [e1, e2]
    go_enter Tryz.func26, Tryz.ntmps26
    go_wp2_with fail
    go_fit (kN _)
    rintro r w ⟨rfl, rfl⟩
    go_wp2_with fail
    go_fit (kN _)
    rintro r w ⟨rfl, rfl⟩
    go_wp2
    go_ret2
    exact ⟨_, _, rfl, hb0, by decide, by decide, cl_theNaN, cl_theNaN⟩
  rcases hf with h | ⟨g, o, rfl, hg, hat⟩
  · exact absurd h h0
  exact rleast_any g o c n ss at_ w hg hat hsw (by omega) hl
end Go.Proofs.YtmjenemjbpimcabGreat
