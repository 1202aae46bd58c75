/- The reference's Turn and Beat. -/
import Derived.Test.YtfjfpplemgjcmabTu
namespace Go.Proofs.Ytfjfpplemgjcmab
open Go.RowKit

set_option maxHeartbeats 400000 in
theorem reighth_any (d p : Int) (hp : 1 ≤ p) (hp' : p ≤ 315360000000000) (w : World) :
    Calls Try.prog 50 #[.int .i64 d, .int .i64 p] w fun r w' => r = .returned (.int .i64 (eg d p)) ∧ w' = w := by
  have h0 := rm_bd d p hp
  have h2 := eg_bd d p hp
  obtain ⟨e, he⟩ : ∃ e, eg d p = e := ⟨_, rfl⟩
  obtain ⟨m, hm⟩ : ∃ m, d.tmod p = m := ⟨_, rfl⟩
  obtain ⟨r, hr⟩ : ∃ r, rm d p = r := ⟨_, rfl⟩
  have h1 := Int.tmod_lt_of_pos d (show 0 < p by omega)
  have h1' := tm_low d p hp
  rw [hm] at h1 h1'
  have hrr : r = if m < 0 then m + p else m := by rw [← hr]; unfold rm; rw [hm]
  have hq : (8 * r).tdiv p = e := by rw [← he, ← hr]; rfl
  have hpn : ¬ p = 0 := by omega
  have hpm : ¬ p = -1 := by omega
  rw [he]
  rw [he] at h2
  rw [hr] at h0
  clear he hr
  by_cases hneg : m < 0
  · rw [if_pos hneg] at hrr
    have hmp : m + p = r := hrr.symm
    clear hrr
    go_enter Try.func50, Try.ntmps50
    go_wp2
    go_ret
    exact ⟨rfl, rfl⟩
  · rw [if_neg hneg] at hrr
    subst hrr
    go_enter Try.func50, Try.ntmps50
    go_wp2
    go_ret
    exact ⟨rfl, rfl⟩

set_option maxHeartbeats 400000 in
theorem rbits_any (n : Int) (w : World) : Calls Try.prog 79 #[.int .u64 n] w fun r w' => r = .returned (.float .f64 n.toNat) ∧ w' = w := by
  have h3 := callFrom
  go_enter Try.func79, Try.ntmps79
  go_wp2
  go_ret
  exact ⟨rfl, rfl⟩
set_option maxHeartbeats 400000 in
theorem rhalf_any (w : World) : Calls Try.prog 49 #[] w fun r w' => r = .returned (.float .f64 4604544271217802189) ∧ w' = w := by
  have k1 := rbits_any 4604544271217802189
  go_enter Try.func49, Try.ntmps49
  go_wp2_with fail
  go_fit (k1 _)
  rintro r w ⟨rfl, rfl⟩
  go_wp2
  go_ret
  exact ⟨rfl, rfl⟩

abbrev coss : Array Value := #[.float .f64 4607182418800017408, .float .f64 4604544271217802189, .float .f64 0, .float .f64 13827916308072577997, .float .f64 13830554455654793216, .float .f64 13827916308072577997, .float .f64 0, .float .f64 4604544271217802189]
abbrev sins : Array Value := #[.float .f64 0, .float .f64 4604544271217802189, .float .f64 4607182418800017408, .float .f64 4604544271217802189, .float .f64 0, .float .f64 13827916308072577997, .float .f64 13830554455654793216, .float .f64 13827916308072577997]
theorem cos_at (k : Nat) (hk : k < 8) : coss[k]? = some (.float .f64 (cw k)) := by
  rcases (show k = 0 ∨ k = 1 ∨ k = 2 ∨ k = 3 ∨ k = 4 ∨ k = 5 ∨ k = 6 ∨ k = 7 by omega) with rfl | rfl | rfl | rfl | rfl | rfl | rfl | rfl <;> rfl
theorem sin_at (k : Nat) (hk : k < 8) : sins[k]? = some (.float .f64 (sw k)) := by
  rcases (show k = 0 ∨ k = 1 ∨ k = 2 ∨ k = 3 ∨ k = 4 ∨ k = 5 ∨ k = 6 ∨ k = 7 by omega) with rfl | rfl | rfl | rfl | rfl | rfl | rfl | rfl <;> rfl

set_option maxHeartbeats 1000000 in
set_option maxRecDepth 100000 in
theorem rturn_any (a : Option Addr) (c n : Nat) (ss : Nat → Smp) (p : Int) (w : World) (hf : Sml w a ss n) (hl : n ≤ 9223372036854775807) :
    Calls Try.prog 12 #[.slice a n c, .int .i64 p] w (RT w (tuF (fun j => df (ss j).t (ss 0).t) (fun j => (ss j).v) n p).1 (tuF (fun j => df (ss j).t (ss 0).t) (fun j => (ss j).v) n p).2) := by
  have hb0 := Below.refl w.heap.size w
  have kH := rhalf_any
  cases hp : prB p
  · have e : tuF (fun j => df (ss j).t (ss 0).t) (fun j => (ss j).v) n p = (some 0, some 0) := if_neg (by rw [hp]; decide)
    rw [e]
    have hp1 : p < 1 ∨ ¬ p ≤ 315360000000000 := by
      unfold prB at hp
      by_cases h : 1 ≤ p
      · right
        rw [decide_eq_true h] at hp
        simpa using hp
      · left; omega
    rcases hp1 with hp1 | hp1
    · go_enter Try.func12, Try.ntmps12
      go_wp2
      go_ret2
      exact ⟨0, 0, rfl, hb0, by decide, by decide, cl_lit 0 (by decide), cl_lit 0 (by decide)⟩
    · have hp2 : ¬ p < 1 := by omega
      have hp3 : 315360000000000 < p := by omega
      go_enter Try.func12, Try.ntmps12
      go_wp2
      go_ret2
      exact ⟨0, 0, rfl, hb0, by decide, by decide, cl_lit 0 (by decide), cl_lit 0 (by decide)⟩
  · have e : tuF (fun j => df (ss j).t (ss 0).t) (fun j => (ss j).v) n p = trS (fun j => df (ss j).t (ss 0).t) (fun j => (ss j).v) p n := if_pos hp
    rw [e]
    have hp1 : 1 ≤ p ∧ p ≤ 315360000000000 := by unfold prB at hp; simpa using hp
    obtain ⟨hp1, hp2⟩ := hp1
    have hng : Op.unary .neg (.float .f64 4604544271217802189) = pure (.float .f64 13827916308072577997) := rfl
    have HF : Hid (Sml w a ss n) := hf
    obtain ⟨X, hX⟩ : ∃ X : Nat → Option Nat × Option Nat, X = trS (fun j => df (ss j).t (ss 0).t) (fun j => (ss j).v) p := ⟨_, rfl⟩
    have HX0 : Hid (X 0 = (some 0, some 0)) := by show _ = _; rw [hX]; rfl
    have HXS : Hid (∀ i, X (i + 1) = (fb .add (X i).1 (fb .mul (cl (ss i).v) (some (cw (eg (df (ss i).t (ss 0).t) p).toNat))), fb .add (X i).2 (fb .mul (cl (ss i).v) (some (sw (eg (df (ss i).t (ss 0).t) p).toNat))))) := by
      intro i
      rw [hX]; rfl
    rw [← hX]
    clear hf hX e hp
    go_enter Try.func12, Try.ntmps12
    go_wp2_with fail
    go_fit (kH _)
    rintro r w ⟨rfl, rfl⟩
    clear kH
    go_wp2
    have hbW : Below w.heap.size w ((w.alloc (.cells coss 23)).alloc (.cells sins 23)) := (hb0.alloc (Nat.le_refl _) _).alloc (by simp) _
    have hcs : ∀ k, k < 8 → ((w.alloc (.cells coss 23)).alloc (.cells sins 23)).cell? ⟨w.heap.size, k, none⟩ = some (.float .f64 (cw k)) := fun k hk => by
      unfold World.cell?
      rw [show ((w.alloc (.cells coss 23)).alloc (.cells sins 23)).heap[w.heap.size]? = some (.cells coss 23) by rw [heap_alloc_old _ _ (by simp)]; exact heap_alloc_new w _]
      simpa using cos_at k hk
    have hsn : ∀ k, k < 8 → ((w.alloc (.cells coss 23)).alloc (.cells sins 23)).cell? ⟨w.heap.size + 1, k, none⟩ = some (.float .f64 (sw k)) := fun k hk => by
      unfold World.cell?
      have h1 := heap_alloc_new (w.alloc (.cells coss 23)) (.cells sins 23)
      rw [show (w.alloc (.cells coss 23)).heap.size = w.heap.size + 1 by simp] at h1
      rw [h1]
      simpa using sin_at k hk
    have hBl : w.heap.size + 1 < ((w.alloc (.cells coss 23)).alloc (.cells sins 23)).heap.size := by simp
    generalize (w.alloc (.cells coss 23)).alloc (.cells sins 23) = W0 at *
    have HF0 : Hid (Sml W0 a ss n) := HF.out.below hbW
    have HCS : Hid _ := hcs
    have HSN : Hid _ := hsn
    have HBW : Hid (Below w.heap.size w W0) := hbW
    have b0 : Below W0.heap.size W0 W0 := Below.refl _ _
    obtain ⟨G, hG⟩ : ∃ G, G = W0.heap.size := ⟨_, rfl⟩
    have HG : Hid (G = W0.heap.size) := hG
    rw [← hG] at b0 hBl
    obtain ⟨B, hB⟩ : ∃ B, B = w.heap.size := ⟨_, rfl⟩
    have HB : Hid (B = w.heap.size) := hB
    rw [← hB] at hBl HCS HSN ⊢
    clear hG hcs hsn hbW hb0 hB
    go_loopw [6, 7, 11] (fun rv mv iv w' => ∃ (i z1 z2 : Nat), iv = .int .i64 (i : Int) ∧ i ≤ n ∧ rv = .float .f64 z1 ∧ mv = .float .f64 z2 ∧ z1 < 18446744073709551616 ∧ z2 < 18446744073709551616 ∧ Hid ((cl z1, cl z2) = X i) ∧ Below G W0 w') (fun _ _ iv _ => n - (RowKit.intOf iv).toNat)
    case atStart => exact ⟨0, 0, 0, rfl, by omega, rfl, rfl, by decide, by decide, (by rw [HX0.out, cl_lit 0 (by decide)] : _ = _), b0⟩
    case round =>
      obtain ⟨i, z1, z2, rfl, hi, rfl, rfl, hz1, hz2, hst, hb⟩ := hrel
      by_cases hlt : i < n
      · have hii : (i : Int) < n := by omega
        have hn0 : (0 : Int) < n := by omega
        rcases HF0.out with h0 | ⟨g, o, rfl, hg, hat⟩
        · rw [h0] at hlt; omega
        rw [← HG.out] at hg
        obtain ⟨f1, f2, f3⟩ := hat i hlt
        have q1 := (hb.cell (p := ⟨g, o + i * 3, none⟩) hg).trans f1
        have q2 := (hb.cell (p := ⟨g, o + i * 3 + 1, none⟩) hg).trans f2
        have f0 := (hb.cell (p := ⟨g, o + 0 * 3, none⟩) hg).trans (hat 0 (by omega)).1
        rw [show o + 0 * 3 = o by omega] at f0
        have hnx := HXS.out i
        obtain ⟨u, hu⟩ : ∃ u, ss i = u := ⟨_, rfl⟩
        obtain ⟨t0, ht0⟩ : ∃ t0, (ss 0).t = t0 := ⟨_, rfl⟩
        rw [hu] at q1 q2 hnx
        rw [ht0] at hnx f0
        obtain ⟨d, hd⟩ : ∃ d, df u.t t0 = d := ⟨_, rfl⟩
        rw [hd] at hnx
        have hdf : IntKind.i64.wrap (u.t - t0) = d := hd
        obtain ⟨e1, e2⟩ := eg_bd d p hp1
        obtain ⟨k, hk⟩ : ∃ k : Nat, eg d p = (k : Int) := ⟨(eg d p).toNat, by omega⟩
        have hk8 : k < 8 := by omega
        rw [hk, Int.toNat_natCast, ← hst.out] at hnx
        have HNX : Hid _ := hnx
        have kE := fun w => reighth_any d p hp1 hp2 w
        rw [hk] at kE
        have HI : Hid (i + 1 ≤ n) := hlt
        have m1 := (hb.cell (p := ⟨B, k, none⟩) (show B < G by omega)).trans (HCS.out k hk8)
        have m2 := (hb.cell (p := ⟨B + 1, k, none⟩) (show B + 1 < G by omega)).trans (HSN.out k hk8)
        have CW : Hid (cl (cw k) = some (cw k)) := cw_num k hk8
        have SWk : Hid (cl (sw k) = some (sw k)) := sw_num k hk8
        generalize cw k = C at *
        generalize sw k = Sn at *
        clear hu ht0 hd hat f1 f2 f3 hnx hst e1 e2 hk
        go_wp2_with fail
        go_quiet (exact Calls.quiet_of_same (kE _))
        go_wp2_with fail
        refine wp_region_loose (by kernel_rfl) (by kernel_rfl) ?_
        iterate 10 (refine wpLoose_quiet rfl rfl ?_; intro K hK; go_big_quiet_op; go_big_quiet_on)
        refine wpLoose_float .mul (.inr (.inr (.inl rfl))) 23 23 _ _ rfl rfl _ _ rfl rfl (by rintro _ k' ⟨n', rfl⟩; first | exact ⟨n' + k', World.drewN_drewN _ _ _⟩ | exact ⟨n' + k', by simp [Nat.add_assoc]⟩) ?_
        intro y1 y1l hy1
        go_simp
        refine wpLoose_float .add (.inl rfl) 23 23 _ _ rfl rfl _ _ rfl rfl (by rintro _ k' ⟨n', rfl⟩; first | exact ⟨n' + k', World.drewN_drewN _ _ _⟩ | exact ⟨n' + k', by simp [Nat.add_assoc]⟩) ?_
        intro y2 y2l hy2
        go_simp
        iterate 1 (refine wpLoose_quiet rfl rfl ?_; intro K hK; go_big_quiet_op; go_big_quiet_on)
        refine wpLoose_nil ?_
        intro n2
        have Y2 : Hid (cl y2 = fb .add (cl z1) (fb .mul (cl u.v) (some C))) := by show _ = _; rw [hy2, hy1, CW.out]
        clear hy1 hy2
        go_wp2_with fail
        refine wp_region_loose (by kernel_rfl) (by kernel_rfl) ?_
        iterate 10 (refine wpLoose_quiet rfl rfl ?_; intro K hK; go_big_quiet_op; go_big_quiet_on)
        refine wpLoose_float .mul (.inr (.inr (.inl rfl))) 23 23 _ _ rfl rfl _ _ rfl rfl (by rintro _ k' ⟨n', rfl⟩; first | exact ⟨n' + k', World.drewN_drewN _ _ _⟩ | exact ⟨n' + k', by simp [Nat.add_assoc]⟩) ?_
        intro y3 y3l hy3
        go_simp
        refine wpLoose_float .add (.inl rfl) 23 23 _ _ rfl rfl _ _ rfl rfl (by rintro _ k' ⟨n', rfl⟩; first | exact ⟨n' + k', World.drewN_drewN _ _ _⟩ | exact ⟨n' + k', by simp [Nat.add_assoc]⟩) ?_
        intro y4 y4l hy4
        go_simp
        iterate 1 (refine wpLoose_quiet rfl rfl ?_; intro K hK; go_big_quiet_op; go_big_quiet_on)
        refine wpLoose_nil ?_
        intro n3
        have Y4 : Hid (cl y4 = fb .add (cl z2) (fb .mul (cl u.v) (some Sn))) := by show _ = _; rw [hy4, hy3, SWk.out]
        clear hy3 hy4
        go_wp2
        refine ⟨⟨i + 1, _, _, by go_num, HI, rfl, rfl, y2l, y4l, ?_, below_drewN hb _⟩, by simp [RowKit.intOf]; omega⟩
        show _ = _
        rw [HNX.out, Y2.out, Y4.out]
      · have hii : ¬ (i : Int) < n := by omega
        obtain rfl : i = n := by omega
        have HB2 : Hid (Below w.heap.size w wr) := by
          rw [HG.out] at hb
          exact HBW.out.trans (hb.mono HBW.out.size)
        go_wp2
        go_ret2
        exact ⟨z1, z2, rfl, HB2.out, hz1, hz2, congrArg Prod.fst hst.out, congrArg Prod.snd hst.out⟩

set_option maxHeartbeats 1000000 in
set_option maxRecDepth 100000 in
theorem rbeat_any (a : Option Addr) (c n : Nat) (ss : Nat → Smp) (p : Int) (w : World) (hf : Sml w a ss n) (hl : n ≤ 9223372036854775807) :
    Calls Try.prog 13 #[.slice a n c, .int .i64 p] w (RB w (beF (fun j => df (ss j).t (ss 0).t) (fun j => (ss j).v) n p)) := by
  have hb0 := Below.refl w.heap.size w
  have kN := rnan_any
  by_cases h0 : n = 0
  · have e : beF (fun j => df (ss j).t (ss 0).t) (fun j => (ss j).v) n p = none := if_pos h0
    have h0' : (n : Int) = 0 := by omega
    rw [e]
    go_enter Try.func13, Try.ntmps13
    go_wp2_with fail
    go_fit (kN _)
    rintro r w ⟨rfl, rfl⟩
    go_wp2
    go_ret
    exact ⟨_, rfl, hb0, by decide, cl_theNaN⟩
  have h0' : ¬ (n : Int) = 0 := by omega
  cases hp : prB p
  · have e : beF (fun j => df (ss j).t (ss 0).t) (fun j => (ss j).v) n p = none := by unfold beF; rw [if_neg h0, if_pos hp]
    rw [e]
    have hp1 : p < 1 ∨ ¬ p ≤ 315360000000000 := by
      unfold prB at hp
      by_cases h : 1 ≤ p
      · right
        rw [decide_eq_true h] at hp
        simpa using hp
      · left; omega
    rcases hp1 with hp1 | hp1
    · go_enter Try.func13, Try.ntmps13
      go_wp2_with fail
      go_fit (kN _)
      rintro r w ⟨rfl, rfl⟩
      go_wp2
      go_ret
      exact ⟨_, rfl, hb0, by decide, cl_theNaN⟩
    · have hp2 : ¬ p < 1 := by omega
      have hp3 : 315360000000000 < p := by omega
      go_enter Try.func13, Try.ntmps13
      go_wp2_with fail
      go_fit (kN _)
      rintro r w ⟨rfl, rfl⟩
      go_wp2
      go_ret
      exact ⟨_, rfl, hb0, by decide, cl_theNaN⟩
  · have E : Hid (beF (fun j => df (ss j).t (ss 0).t) (fun j => (ss j).v) n p = fb .quo (fsq (fb .add (fb .mul (tuF (fun j => df (ss j).t (ss 0).t) (fun j => (ss j).v) n p).1 (tuF (fun j => df (ss j).t (ss 0).t) (fun j => (ss j).v) n p).1) (fb .mul (tuF (fun j => df (ss j).t (ss 0).t) (fun j => (ss j).v) n p).2 (tuF (fun j => df (ss j).t (ss 0).t) (fun j => (ss j).v) n p).2))) (some (nW n))) := by
      show _ = _
      unfold beF; rw [if_neg h0, if_neg (by rw [hp]; decide)]
    have hp1 : 1 ≤ p ∧ p ≤ 315360000000000 := by unfold prB at hp; simpa using hp
    obtain ⟨hp1, hp2⟩ := hp1
    have hp3 : ¬ p < 1 := by omega
    have hp4 : ¬ 315360000000000 < p := by omega
    have kT := rturn_any a c n ss p w hf hl
    have ha := @run_fadd Try.prog
    have hm := @run_fmul Try.prog
    have hq := @run_fquo Try.prog
    have hcn := cvn n
    generalize beF (fun j => df (ss j).t (ss 0).t) (fun j => (ss j).v) n p = R at *
    generalize tuF (fun j => df (ss j).t (ss 0).t) (fun j => (ss j).v) n p = T at *
    go_enter Try.func13, Try.ntmps13
    go_wp2_with fail
    go_fit kT
    rintro r w1 ⟨z1, z2, rfl, hb1, _, _, hc1, hc2⟩
    have HC1 : Hid (cl z1 = T.1) := hc1
    have HC2 : Hid (cl z2 = T.2) := hc2
    clear hc1 hc2 kT
    go_wp2_with fail
    go_fit (sqrt_any _ _)
    rintro r w2 ⟨z3, k3, rfl, rfl, _, h3⟩
    have H3 : Hid (cl z3 = fsq (fb .add (fb .mul T.1 T.1) (fb .mul T.2 T.2))) := by
      show _ = _
      rw [h3, ← HC1.out, ← HC2.out]
      simp only [cl_fz]
    clear h3
    go_wp2
    go_ret
    refine ⟨_, rfl, below_drewN hb1 _, fz_lt _ _ _ _, ?_⟩
    rw [cl_fz, H3.out, E.out, nW_num]
end Go.Proofs.Ytfjfpplemgjcmab
