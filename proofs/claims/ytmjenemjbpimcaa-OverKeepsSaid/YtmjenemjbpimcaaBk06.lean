/- A bundle of texts. -/
import Derived.Test.YtmjenemjbpimcaaBk05
import Derived.Deep.Cut
/- Over: extrapolated. -/
namespace Go.Proofs.Ytmjenemjbpimcaa
open Go.RowKit

def gtB (x y : Option Nat) : Bool := fo x y == some .gt
theorem gtB_eq (a b : Nat) : (FloatKind.f64.format.order a b == some .gt) = gtB (cl a) (cl b) := by
  unfold gtB
  rw [fo_cl]
/-- The way to the window's beginning, cut where a counter would begin below 0. -/
def cutF (s v g a : Option Nat) : Option Nat := if gtB g (some 0) = true ∧ geB v (some 0) = true ∧ ltB (fb .mul s (fb .quo v g)) a = true then fb .mul s (fb .quo v g) else a
/-- By how much it is reckoned on. -/
def tmF (s a b : Option Nat) : Option Nat := fb .quo (fb .add (fb .add s a) b) s
/-- What rate, increase and delta answer: g, the points' whole way s, a step m, the ways to the window's ends a and b, the window's length. -/
def exA (g s m a b v L : Option Nat) (ctr per : Bool) : Option Nat :=
  fb .mul g (if per = true then fb .quo (tmF s (if ctr = true then cutF s v g (rchF a m) else rchF a m) (rchF b m)) L else tmF s (if ctr = true then cutF s v g (rchF a m) else rchF a m) (rchF b m))
def exF (ss : Nat → Smp) (n : Nat) (F T : Int) (ctr per : Bool) : Option Nat :=
  exA (grF (fun j => (ss j).v) n ctr) (secF (df (ss (n - 1)).t (ss 0).t)) (fb .quo (secF (df (ss (n - 1)).t (ss 0).t)) (some (nW (n - 1)))) (secF (df (ss 0).t F)) (secF (df T (ss (n - 1)).t)) (cl (ss 0).v) (secF (df T F)) ctr per
theorem cvm (n : Nat) (w : World) : (convert 3 25 (.int .i64 (n : Int))).run Try.prog w = .ok (.float .f64 (nW n)) w := cvn n w

theorem sec_fz (a b : Int) (W : World) : cl (fz .quo (floatOfInt FloatKind.f64 (wrap64 (a - b))) 4652007308841189376 W) = secF (df a b) := by
  rw [cl_fz, cl_lit 4652007308841189376 (by decide)]
  exact congrArg (fun z => fb .quo z (some 4652007308841189376)) (show cl (iw (wrap64 (a - b))) = some (iw (df a b)) by rw [df_w]; exact iw_class _)
theorem cut_no1 {s v g a : Option Nat} (h : gtB g (some 0) = false) : cutF s v g a = a := if_neg (fun x => by rw [h] at x; cases x.1)
theorem cut_no2 {s v g a : Option Nat} (h : geB v (some 0) = false) : cutF s v g a = a := if_neg (fun x => by rw [h] at x; cases x.2.1)
theorem cut_no3 {s v g a : Option Nat} (h : ltB (fb .mul s (fb .quo v g)) a = false) : cutF s v g a = a := if_neg (fun x => by rw [h] at x; cases x.2.2)
theorem cut_yes {s v g a : Option Nat} (h1 : gtB g (some 0) = true) (h2 : geB v (some 0) = true) (h3 : ltB (fb .mul s (fb .quo v g)) a = true) : cutF s v g a = fb .mul s (fb .quo v g) := if_pos ⟨h1, h2, h3⟩
theorem two_new (W0 : World) (X Y : Smp) : ((((W0.alloc (cp X)).alloc (cp Y)).drew.cell? ⟨W0.heap.size, 0, none⟩ = some (.int .i64 X.t) ∧ ((W0.alloc (cp X)).alloc (cp Y)).drew.cell? ⟨W0.heap.size, 1, none⟩ = some (.float .f64 X.v)) ∧ ((W0.alloc (cp X)).alloc (cp Y)).drew.cell? ⟨W0.heap.size + 1, 0, none⟩ = some (.int .i64 Y.t) ∧ ((W0.alloc (cp X)).alloc (cp Y)).drew.cell? ⟨W0.heap.size + 1, 1, none⟩ = some (.float .f64 Y.v)) ∧ Below W0.heap.size W0 (((W0.alloc (cp X)).alloc (cp Y)).drew) := by
  have b : Below W0.heap.size W0 (((W0.alloc (cp X)).alloc (cp Y)).drew) := (((Below.refl _ _).alloc (Nat.le_refl _) _).alloc (by simp) _).drew
  have f1 : (W0.alloc (cp X)).heap.size = W0.heap.size + 1 := by simp
  have e1 : (((W0.alloc (cp X)).alloc (cp Y)).drew).heap[W0.heap.size]? = some (cp X) := ((Go.MapKept.heap_alloc (W0.alloc (cp X)) (cp Y)).2 W0.heap.size (by omega)).trans (heap_alloc_new W0 (cp X))
  have e2 : (((W0.alloc (cp X)).alloc (cp Y)).drew).heap[W0.heap.size + 1]? = some (cp Y) := by rw [← f1]; exact heap_alloc_new (W0.alloc (cp X)) (cp Y)
  refine ⟨⟨⟨?_, ?_⟩, ?_, ?_⟩, b⟩
  · unfold World.cell?; rw [e1]; rfl
  · unfold World.cell?; rw [e1]; rfl
  · unfold World.cell?; rw [e2]; rfl
  · unfold World.cell?; rw [e2]; rfl

set_option maxHeartbeats 8000000 in
set_option maxRecDepth 100000 in
theorem extrapolated_any (g o n c : Nat) (F T N : Int) (ss : Nat → Smp) (ctr per : Bool) (w : World) (hat : SAt w g o ss n) (hsw : SW ss n) (hg : g < w.heap.size) (hn : 2 ≤ n) (hl : n ≤ 9223372036854775807) :
    Calls Try.prog 21 #[Wn (some ⟨g, o, none⟩) n c F T N, .bool ctr, .bool per] w (RB w (exF ss n F T ctr per)) := by
  have HW : Hid (Below w.heap.size w (w.alloc (wnX (some ⟨g, o, none⟩) n c F T N))) := (Below.refl _ w).alloc (Nat.le_refl _) _
  have HC : Hid (∀ W, Below (w.alloc (wnX (some ⟨g, o, none⟩) n c F T N)).heap.size (w.alloc (wnX (some ⟨g, o, none⟩) n c F T N)) W → WnC (some ⟨g, o, none⟩) n c F T N w.heap.size W) := wnC_new _ n c F T N w
  have HA : Hid (SAt w g o ss n) := hat
  have HG : Hid (g < w.heap.size) := hg
  have HS : Hid (SW ss n) := hsw
  have hb0 := Below.refl w.heap.size w
  have hs := @run_fsub Try.prog
  have ha := @run_fadd Try.prog
  have hq := @run_fquo Try.prog
  have hmu := @run_fmul Try.prog
  have hsf := @run_store_float Try.prog
  obtain ⟨k, hk⟩ : ∃ k, n - 1 = k := ⟨_, rfl⟩
  have w1 : IntKind.i64.wrap ((n : Int) - 1) = (k : Int) := by rw [IntKind.wrap_i64]; omega
  have p0 : (0 : Int) < (n : Int) := by omega
  have pz : 0 < n := by omega
  have p2 : (0 : Int) ≤ (k : Int) := by omega
  have p3 : (k : Int) < (n : Int) := by omega
  have p5 : ¬ (k : Int) < 0 := by omega
  have hcv := cvm k
  have HN : Hid (1 ≤ n ∧ n ≤ 9223372036854775807 ∧ k < n) := ⟨by omega, by omega, by omega⟩
  have HR : Hid (exF ss n F T ctr per = exA (grF (fun j => (ss j).v) n ctr) (secF (df (ss k).t (ss 0).t)) (fb .quo (secF (df (ss k).t (ss 0).t)) (some (nW k))) (secF (df (ss 0).t F)) (secF (df T (ss k).t)) (cl (ss 0).v) (secF (df T F)) ctr per) := (show _ = _ by rw [← hk]; rfl)
  generalize exF ss n F T ctr per = R at *
  clear hat hsw hk hg hn
  go_enter Try.func21, Try.ntmps21
  go_upto_region 1 with fail
  obtain ⟨W0, hW0⟩ : ∃ W0, W0 = w.alloc (wnX (some ⟨g, o, none⟩) n c F T N) := ⟨_, rfl⟩
  obtain ⟨BX, hBX⟩ : ∃ BX, BX = w.heap.size := ⟨_, rfl⟩
  rw [← hW0] at HW HC
  rw [← hBX] at HC
  dsimp only [wnX] at hW0
  rw [← hW0, ← hBX]
  have hgW : g < W0.heap.size := Nat.lt_of_lt_of_le HG.out HW.out.size
  have hBW : BX < W0.heap.size := by rw [hBX, hW0]; simp
  obtain ⟨y0, y1, y2⟩ := HA.out 0 (by have := HN.out; omega)
  obtain ⟨z0, z1, z2⟩ := HA.out k HN.out.2.2
  have hSW : Hid (∀ W, Below w.heap.size w W → SAt W g o ss n) := (show ∀ W, _ → _ from fun W b j hj => by
    obtain ⟨h1, h2, h3⟩ := HA.out j hj
    exact ⟨bcell b h1 HG.out, bcell b h2 HG.out, bcell b h3 HG.out⟩)
  have y0 := bcell HW.out y0 HG.out
  have y1 := bcell HW.out y1 HG.out
  have y2 := bcell HW.out y2 HG.out
  have z0 := bcell HW.out z0 HG.out
  have z1 := bcell HW.out z1 HG.out
  have z2 := bcell HW.out z2 HG.out
  rw [show o + 0 * 3 = o by omega] at y0 y1 y2
  obtain ⟨x0, x1, x2, x3⟩ := HC.out W0 (Below.refl _ _)
  have HWW : Hid (Below w.heap.size w W0) := HW
  clear hW0 hBX HA HG HW
  have kG : Hid (∀ W, Below w.heap.size w W → Calls Try.prog 26 #[.slice (some ⟨g, o, none⟩) n c, .bool ctr] W (RF W (grF (fun j => (ss j).v) n ctr))) := (show ∀ W, _ → _ from fun W b => growth_any g o n c ss ctr W (hSW.out W b) HS.out HN.out.1 HN.out.2.1)
  obtain ⟨u, hu⟩ : ∃ u, ss 0 = u := ⟨_, rfl⟩
  obtain ⟨v, hv⟩ : ∃ v, ss k = v := ⟨_, rfl⟩
  rw [hu] at y0 y1 y2 HR
  rw [hv] at z0 z1 z2 HR
  clear hu hv hSW hl HS HN
  go_region_held3 (fun w' => w'.cell? ⟨BX, 0, none⟩ = some (.slice (some ⟨g, o, none⟩) n c) ∧ w'.cell? ⟨g, o, none⟩ = some (.int .i64 u.t) ∧ w'.cell? ⟨g, o + 1, none⟩ = some (.float .f64 u.v) ∧ w'.cell? ⟨g, o + 2, none⟩ = some (.bool u.s) ∧ w'.cell? ⟨g, o + k * 3, none⟩ = some (.int .i64 v.t) ∧ w'.cell? ⟨g, o + k * 3 + 1, none⟩ = some (.float .f64 v.v) ∧ w'.cell? ⟨g, o + k * 3 + 2, none⟩ = some (.bool v.s)) (first | exact ⟨x0, y0, y1, y2, z0, z1, z2⟩ | assumption | go_keep) (fail)
  · rename_i hh
    clear hh
    obtain ⟨HP, HB⟩ := two_new W0 u v
    obtain ⟨W1, hW1⟩ : ∃ W1, W1 = ((W0.alloc (cp u)).alloc (cp v)).drew := ⟨_, rfl⟩
    rw [← hW1] at HP HB
    dsimp only [cp] at hW1
    rw [← hW1]
    clear hW1
    have HB1 : Hid (Below w.heap.size w W1) := HWW.out.trans (HB.mono HWW.out.size)
    have x0 := bcell HB x0 hBW
    have x1 := bcell HB x1 hBW
    have x2 := bcell HB x2 hBW
    obtain ⟨⟨q0, q1⟩, r0, _⟩ := HP
    clear HB HWW HC y0 y1 y2 z0 z1 z2 x3
    go_wp2_with fail
    go_fit (kG.out _ HB1.out)
    rintro e w3 ⟨zg, k2, rfl, rfl, hlg, hzg⟩
    clear kG
    go_wp2_with fail
    go_fit (inSeconds_any _ _)
    rintro e w4 ⟨zs, k3, rfl, rfl, hls, hzs⟩
    go_wp2_with fail
    clear x0 hgW hBW pz w1 p2 p3 hcv hsf
    go_region_held3 (fun w' => w'.cell? ⟨BX, 1, none⟩ = some (.int .i64 F) ∧ w'.cell? ⟨BX, 2, none⟩ = some (.int .i64 T) ∧ w'.cell? ⟨W0.heap.size, 0, none⟩ = some (.int .i64 u.t) ∧ w'.cell? ⟨W0.heap.size + 1, 0, none⟩ = some (.int .i64 v.t)) (first | exact ⟨x1, x2, q0, r0⟩ | assumption | go_keep) (first | (go_at_call 27; go_fit (inSeconds_any _ _); rintro e w5 ⟨za, ka, rfl, rfl, hla, hza⟩) | (go_at_call 28; go_fit (reach_any _ _ (by assumption) _); rintro e w5 ⟨zr, kr, rfl, rfl, hlr, hzr⟩))
    rename_i za1 ka1 hla1 hza1 zr1 kr1 hlr1 hzr1 hh2
    clear hh2
    have HM : cl (fz BinOp.quo zs (nW k) (W1.drewN (k2 + k3))) = fb .quo (secF (df v.t u.t)) (some (nW k)) := by rw [cl_fz, hzs, nW_num, df_w]
    rw [hza1, HM] at hzr1
    rw [hza, HM] at hzr
    have hzs2 : cl zs = secF (df v.t u.t) := by rw [hzs, df_w]
    have HQ0 : Hid (R = fb .mul (cl zg) (if per = true then fb .quo (tmF (cl zs) (if ctr = true then cutF (cl zs) (cl u.v) (cl zg) (cl zr1) else cl zr1) (cl zr)) (secF (df T F)) else tmF (cl zs) (if ctr = true then cutF (cl zs) (cl u.v) (cl zg) (cl zr1) else cl zr1) (cl zr))) := (show _ = _ by
      rw [HR.out, hzr1, hzr, hzg, hzs2]
      rfl)
    clear HR hzr1 hzr hzg hzs2 hzs HM hza1 hza hla1 hla
    generalize fz BinOp.quo zs (nW k) (W1.drewN (k2 + k3)) = zm at *
    generalize k2 + k3 + fk BinOp.quo zs (nW k) + 1 + ka1 + kr1 + ka + kr = KK at *
    cases ctr
    · have HQ : Hid (R = fb .mul (cl zg) (if per = true then fb .quo (tmF (cl zs) (cl zr1) (cl zr)) (secF (df T F)) else tmF (cl zs) (cl zr1) (cl zr))) := HQ0.out
      clear HQ0
      cases per
      · have HZ : Hid (R = fb .mul (cl zg) (tmF (cl zs) (cl zr1) (cl zr))) := HQ.out
        clear HQ
        go_wp2
        go_ret
        refine ⟨_, rfl, below_drewN HB1.out _, fz_lt _ _ _ _, ?_⟩
        rw [HZ.out]
        unfold tmF
        simp only [cl_fz]
      · have HZ : Hid (R = fb .mul (cl zg) (fb .quo (tmF (cl zs) (cl zr1) (cl zr)) (secF (df T F)))) := HQ.out
        clear HQ
        have kS := inSeconds_any
        go_wp2_with fail
        go_fit (kS _ _)
        rintro e w9 ⟨zl, kl, rfl, rfl, hll, hzl⟩
        go_wp2
        go_ret
        refine ⟨_, rfl, below_drewN HB1.out _, fz_lt _ _ _ _, ?_⟩
        rw [HZ.out, df_w, ← hzl]
        unfold tmF
        simp only [cl_fz]
    · have HQ1 : Hid (R = fb .mul (cl zg) (if per = true then fb .quo (tmF (cl zs) (cutF (cl zs) (cl u.v) (cl zg) (cl zr1)) (cl zr)) (secF (df T F)) else tmF (cl zs) (cutF (cl zs) (cl u.v) (cl zg) (cl zr1)) (cl zr))) := HQ0.out
      clear HQ0
      have d1 := gtB_eq zg 0
      rw [cl_lit 0 (by decide)] at d1
      cases e1 : gtB (cl zg) (some 0)
      · rw [e1] at d1
        rw [cut_no1 e1] at HQ1
        have HQ : Hid (R = fb .mul (cl zg) (if per = true then fb .quo (tmF (cl zs) (cl zr1) (cl zr)) (secF (df T F)) else tmF (cl zs) (cl zr1) (cl zr))) := HQ1.out
        clear HQ1 e1
        cases per
        · have HZ : Hid (R = fb .mul (cl zg) (tmF (cl zs) (cl zr1) (cl zr))) := HQ.out
          clear HQ
          go_wp2
          go_ret
          refine ⟨_, rfl, below_drewN HB1.out _, fz_lt _ _ _ _, ?_⟩
          rw [HZ.out]
          unfold tmF
          simp only [cl_fz]
        · have HZ : Hid (R = fb .mul (cl zg) (fb .quo (tmF (cl zs) (cl zr1) (cl zr)) (secF (df T F)))) := HQ.out
          clear HQ
          have kS := inSeconds_any
          go_wp2_with fail
          go_fit (kS _ _)
          rintro e w9 ⟨zl, kl, rfl, rfl, hll, hzl⟩
          go_wp2
          go_ret
          refine ⟨_, rfl, below_drewN HB1.out _, fz_lt _ _ _ _, ?_⟩
          rw [HZ.out, df_w, ← hzl]
          unfold tmF
          simp only [cl_fz]
      rw [e1] at d1
      have d2 := geB_or u.v 0
      rw [cl_lit 0 (by decide)] at d2
      cases e2 : geB (cl u.v) (some 0)
      · rw [e2] at d2
        rw [cut_no2 e2] at HQ1
        have HQ : Hid (R = fb .mul (cl zg) (if per = true then fb .quo (tmF (cl zs) (cl zr1) (cl zr)) (secF (df T F)) else tmF (cl zs) (cl zr1) (cl zr))) := HQ1.out
        clear HQ1 e1 e2
        cases per
        · have HZ : Hid (R = fb .mul (cl zg) (tmF (cl zs) (cl zr1) (cl zr))) := HQ.out
          clear HQ
          go_wp2
          go_ret
          refine ⟨_, rfl, below_drewN HB1.out _, fz_lt _ _ _ _, ?_⟩
          rw [HZ.out]
          unfold tmF
          simp only [cl_fz]
        · have HZ : Hid (R = fb .mul (cl zg) (fb .quo (tmF (cl zs) (cl zr1) (cl zr)) (secF (df T F)))) := HQ.out
          clear HQ
          have kS := inSeconds_any
          go_wp2_with fail
          go_fit (kS _ _)
          rintro e w9 ⟨zl, kl, rfl, rfl, hll, hzl⟩
          go_wp2
          go_ret
          refine ⟨_, rfl, below_drewN HB1.out _, fz_lt _ _ _ _, ?_⟩
          rw [HZ.out, df_w, ← hzl]
          unfold tmF
          simp only [cl_fz]
      rw [e2] at d2
      have d3 : ∀ W1 W2, (FloatKind.f64.format.order (fz .mul zs (fz .quo u.v zg W1) W2) zr1 == some .lt) = ltB (fb .mul (cl zs) (fb .quo (cl u.v) (cl zg))) (cl zr1) := fun W1 W2 => by rw [ltB_eq, cl_fz, cl_fz]
      cases e3 : ltB (fb .mul (cl zs) (fb .quo (cl u.v) (cl zg))) (cl zr1)
      · rw [e3] at d3
        rw [cut_no3 e3] at HQ1
        have HQ : Hid (R = fb .mul (cl zg) (if per = true then fb .quo (tmF (cl zs) (cl zr1) (cl zr)) (secF (df T F)) else tmF (cl zs) (cl zr1) (cl zr))) := HQ1.out
        clear HQ1 e1 e2 e3
        cases per
        · have HZ : Hid (R = fb .mul (cl zg) (tmF (cl zs) (cl zr1) (cl zr))) := HQ.out
          clear HQ
          go_wp2
          go_ret
          refine ⟨_, rfl, below_drewN HB1.out _, fz_lt _ _ _ _, ?_⟩
          rw [HZ.out]
          unfold tmF
          simp only [cl_fz]
        · have HZ : Hid (R = fb .mul (cl zg) (fb .quo (tmF (cl zs) (cl zr1) (cl zr)) (secF (df T F)))) := HQ.out
          clear HQ
          have kS := inSeconds_any
          go_wp2_with fail
          go_fit (kS _ _)
          rintro e w9 ⟨zl, kl, rfl, rfl, hll, hzl⟩
          go_wp2
          go_ret
          refine ⟨_, rfl, below_drewN HB1.out _, fz_lt _ _ _ _, ?_⟩
          rw [HZ.out, df_w, ← hzl]
          unfold tmF
          simp only [cl_fz]
      · rw [e3] at d3
        rw [cut_yes e1 e2 e3] at HQ1
        have HQ : Hid (R = fb .mul (cl zg) (if per = true then fb .quo (tmF (cl zs) (fb .mul (cl zs) (fb .quo (cl u.v) (cl zg))) (cl zr)) (secF (df T F)) else tmF (cl zs) (fb .mul (cl zs) (fb .quo (cl u.v) (cl zg))) (cl zr))) := HQ1.out
        clear HQ1 e1 e2 e3
        cases per
        · have HZ : Hid (R = fb .mul (cl zg) (tmF (cl zs) (fb .mul (cl zs) (fb .quo (cl u.v) (cl zg))) (cl zr))) := HQ.out
          clear HQ
          go_wp2
          go_ret
          refine ⟨_, rfl, below_drewN HB1.out _, fz_lt _ _ _ _, ?_⟩
          rw [HZ.out]
          unfold tmF
          simp only [cl_fz]
        · have HZ : Hid (R = fb .mul (cl zg) (fb .quo (tmF (cl zs) (fb .mul (cl zs) (fb .quo (cl u.v) (cl zg))) (cl zr)) (secF (df T F)))) := HQ.out
          clear HQ
          have kS := inSeconds_any
          go_wp2_with fail
          go_fit (kS _ _)
          rintro e w9 ⟨zl, kl, rfl, rfl, hll, hzl⟩
          go_wp2
          go_ret
          refine ⟨_, rfl, below_drewN HB1.out _, fz_lt _ _ _ _, ?_⟩
          rw [HZ.out, df_w, ← hzl]
          unfold tmF
          simp only [cl_fz]
  · rename_i hh
    clear hh
    obtain ⟨HP, HB⟩ := two_new W0 v u
    obtain ⟨W1, hW1⟩ : ∃ W1, W1 = ((W0.alloc (cp v)).alloc (cp u)).drew := ⟨_, rfl⟩
    rw [← hW1] at HP HB
    dsimp only [cp] at hW1
    rw [← hW1]
    clear hW1
    have HB1 : Hid (Below w.heap.size w W1) := HWW.out.trans (HB.mono HWW.out.size)
    have x0 := bcell HB x0 hBW
    have x1 := bcell HB x1 hBW
    have x2 := bcell HB x2 hBW
    obtain ⟨⟨r0, _⟩, q0, q1⟩ := HP
    clear HB HWW HC y0 y1 y2 z0 z1 z2 x3
    go_wp2_with fail
    go_fit (kG.out _ HB1.out)
    rintro e w3 ⟨zg, k2, rfl, rfl, hlg, hzg⟩
    clear kG
    go_wp2_with fail
    go_fit (inSeconds_any _ _)
    rintro e w4 ⟨zs, k3, rfl, rfl, hls, hzs⟩
    go_wp2_with fail
    clear x0 hgW hBW pz w1 p2 p3 hcv hsf
    go_region_held3 (fun w' => w'.cell? ⟨BX, 1, none⟩ = some (.int .i64 F) ∧ w'.cell? ⟨BX, 2, none⟩ = some (.int .i64 T) ∧ w'.cell? ⟨W0.heap.size + 1, 0, none⟩ = some (.int .i64 u.t) ∧ w'.cell? ⟨W0.heap.size, 0, none⟩ = some (.int .i64 v.t)) (first | exact ⟨x1, x2, q0, r0⟩ | assumption | go_keep) (first | (go_at_call 27; go_fit (inSeconds_any _ _); rintro e w5 ⟨za, ka, rfl, rfl, hla, hza⟩) | (go_at_call 28; go_fit (reach_any _ _ (by assumption) _); rintro e w5 ⟨zr, kr, rfl, rfl, hlr, hzr⟩))
    rename_i za1 ka1 hla1 hza1 zr1 kr1 hlr1 hzr1 hh2
    clear hh2
    have HM : cl (fz BinOp.quo zs (nW k) (W1.drewN (k2 + k3))) = fb .quo (secF (df v.t u.t)) (some (nW k)) := by rw [cl_fz, hzs, nW_num, df_w]
    rw [hza1, HM] at hzr1
    rw [hza, HM] at hzr
    have hzs2 : cl zs = secF (df v.t u.t) := by rw [hzs, df_w]
    have HQ0 : Hid (R = fb .mul (cl zg) (if per = true then fb .quo (tmF (cl zs) (if ctr = true then cutF (cl zs) (cl u.v) (cl zg) (cl zr1) else cl zr1) (cl zr)) (secF (df T F)) else tmF (cl zs) (if ctr = true then cutF (cl zs) (cl u.v) (cl zg) (cl zr1) else cl zr1) (cl zr))) := (show _ = _ by
      rw [HR.out, hzr1, hzr, hzg, hzs2]
      rfl)
    clear HR hzr1 hzr hzg hzs2 hzs HM hza1 hza hla1 hla
    generalize fz BinOp.quo zs (nW k) (W1.drewN (k2 + k3)) = zm at *
    generalize k2 + k3 + fk BinOp.quo zs (nW k) + 1 + ka1 + kr1 + ka + kr = KK at *
    cases ctr
    · have HQ : Hid (R = fb .mul (cl zg) (if per = true then fb .quo (tmF (cl zs) (cl zr1) (cl zr)) (secF (df T F)) else tmF (cl zs) (cl zr1) (cl zr))) := HQ0.out
      clear HQ0
      cases per
      · have HZ : Hid (R = fb .mul (cl zg) (tmF (cl zs) (cl zr1) (cl zr))) := HQ.out
        clear HQ
        go_wp2
        go_ret
        refine ⟨_, rfl, below_drewN HB1.out _, fz_lt _ _ _ _, ?_⟩
        rw [HZ.out]
        unfold tmF
        simp only [cl_fz]
      · have HZ : Hid (R = fb .mul (cl zg) (fb .quo (tmF (cl zs) (cl zr1) (cl zr)) (secF (df T F)))) := HQ.out
        clear HQ
        have kS := inSeconds_any
        go_wp2_with fail
        go_fit (kS _ _)
        rintro e w9 ⟨zl, kl, rfl, rfl, hll, hzl⟩
        go_wp2
        go_ret
        refine ⟨_, rfl, below_drewN HB1.out _, fz_lt _ _ _ _, ?_⟩
        rw [HZ.out, df_w, ← hzl]
        unfold tmF
        simp only [cl_fz]
    · have HQ1 : Hid (R = fb .mul (cl zg) (if per = true then fb .quo (tmF (cl zs) (cutF (cl zs) (cl u.v) (cl zg) (cl zr1)) (cl zr)) (secF (df T F)) else tmF (cl zs) (cutF (cl zs) (cl u.v) (cl zg) (cl zr1)) (cl zr))) := HQ0.out
      clear HQ0
      have d1 := gtB_eq zg 0
      rw [cl_lit 0 (by decide)] at d1
      cases e1 : gtB (cl zg) (some 0)
      · rw [e1] at d1
        rw [cut_no1 e1] at HQ1
        have HQ : Hid (R = fb .mul (cl zg) (if per = true then fb .quo (tmF (cl zs) (cl zr1) (cl zr)) (secF (df T F)) else tmF (cl zs) (cl zr1) (cl zr))) := HQ1.out
        clear HQ1 e1
        cases per
        · have HZ : Hid (R = fb .mul (cl zg) (tmF (cl zs) (cl zr1) (cl zr))) := HQ.out
          clear HQ
          go_wp2
          go_ret
          refine ⟨_, rfl, below_drewN HB1.out _, fz_lt _ _ _ _, ?_⟩
          rw [HZ.out]
          unfold tmF
          simp only [cl_fz]
        · have HZ : Hid (R = fb .mul (cl zg) (fb .quo (tmF (cl zs) (cl zr1) (cl zr)) (secF (df T F)))) := HQ.out
          clear HQ
          have kS := inSeconds_any
          go_wp2_with fail
          go_fit (kS _ _)
          rintro e w9 ⟨zl, kl, rfl, rfl, hll, hzl⟩
          go_wp2
          go_ret
          refine ⟨_, rfl, below_drewN HB1.out _, fz_lt _ _ _ _, ?_⟩
          rw [HZ.out, df_w, ← hzl]
          unfold tmF
          simp only [cl_fz]
      rw [e1] at d1
      have d2 := geB_or u.v 0
      rw [cl_lit 0 (by decide)] at d2
      cases e2 : geB (cl u.v) (some 0)
      · rw [e2] at d2
        rw [cut_no2 e2] at HQ1
        have HQ : Hid (R = fb .mul (cl zg) (if per = true then fb .quo (tmF (cl zs) (cl zr1) (cl zr)) (secF (df T F)) else tmF (cl zs) (cl zr1) (cl zr))) := HQ1.out
        clear HQ1 e1 e2
        cases per
        · have HZ : Hid (R = fb .mul (cl zg) (tmF (cl zs) (cl zr1) (cl zr))) := HQ.out
          clear HQ
          go_wp2
          go_ret
          refine ⟨_, rfl, below_drewN HB1.out _, fz_lt _ _ _ _, ?_⟩
          rw [HZ.out]
          unfold tmF
          simp only [cl_fz]
        · have HZ : Hid (R = fb .mul (cl zg) (fb .quo (tmF (cl zs) (cl zr1) (cl zr)) (secF (df T F)))) := HQ.out
          clear HQ
          have kS := inSeconds_any
          go_wp2_with fail
          go_fit (kS _ _)
          rintro e w9 ⟨zl, kl, rfl, rfl, hll, hzl⟩
          go_wp2
          go_ret
          refine ⟨_, rfl, below_drewN HB1.out _, fz_lt _ _ _ _, ?_⟩
          rw [HZ.out, df_w, ← hzl]
          unfold tmF
          simp only [cl_fz]
      rw [e2] at d2
      have d3 : ∀ W1 W2, (FloatKind.f64.format.order (fz .mul zs (fz .quo u.v zg W1) W2) zr1 == some .lt) = ltB (fb .mul (cl zs) (fb .quo (cl u.v) (cl zg))) (cl zr1) := fun W1 W2 => by rw [ltB_eq, cl_fz, cl_fz]
      cases e3 : ltB (fb .mul (cl zs) (fb .quo (cl u.v) (cl zg))) (cl zr1)
      · rw [e3] at d3
        rw [cut_no3 e3] at HQ1
        have HQ : Hid (R = fb .mul (cl zg) (if per = true then fb .quo (tmF (cl zs) (cl zr1) (cl zr)) (secF (df T F)) else tmF (cl zs) (cl zr1) (cl zr))) := HQ1.out
        clear HQ1 e1 e2 e3
        cases per
        · have HZ : Hid (R = fb .mul (cl zg) (tmF (cl zs) (cl zr1) (cl zr))) := HQ.out
          clear HQ
          go_wp2
          go_ret
          refine ⟨_, rfl, below_drewN HB1.out _, fz_lt _ _ _ _, ?_⟩
          rw [HZ.out]
          unfold tmF
          simp only [cl_fz]
        · have HZ : Hid (R = fb .mul (cl zg) (fb .quo (tmF (cl zs) (cl zr1) (cl zr)) (secF (df T F)))) := HQ.out
          clear HQ
          have kS := inSeconds_any
          go_wp2_with fail
          go_fit (kS _ _)
          rintro e w9 ⟨zl, kl, rfl, rfl, hll, hzl⟩
          go_wp2
          go_ret
          refine ⟨_, rfl, below_drewN HB1.out _, fz_lt _ _ _ _, ?_⟩
          rw [HZ.out, df_w, ← hzl]
          unfold tmF
          simp only [cl_fz]
      · rw [e3] at d3
        rw [cut_yes e1 e2 e3] at HQ1
        have HQ : Hid (R = fb .mul (cl zg) (if per = true then fb .quo (tmF (cl zs) (fb .mul (cl zs) (fb .quo (cl u.v) (cl zg))) (cl zr)) (secF (df T F)) else tmF (cl zs) (fb .mul (cl zs) (fb .quo (cl u.v) (cl zg))) (cl zr))) := HQ1.out
        clear HQ1 e1 e2 e3
        cases per
        · have HZ : Hid (R = fb .mul (cl zg) (tmF (cl zs) (fb .mul (cl zs) (fb .quo (cl u.v) (cl zg))) (cl zr))) := HQ.out
          clear HQ
          go_wp2
          go_ret
          refine ⟨_, rfl, below_drewN HB1.out _, fz_lt _ _ _ _, ?_⟩
          rw [HZ.out]
          unfold tmF
          simp only [cl_fz]
        · have HZ : Hid (R = fb .mul (cl zg) (fb .quo (tmF (cl zs) (fb .mul (cl zs) (fb .quo (cl u.v) (cl zg))) (cl zr)) (secF (df T F)))) := HQ.out
          clear HQ
          have kS := inSeconds_any
          go_wp2_with fail
          go_fit (kS _ _)
          rintro e w9 ⟨zl, kl, rfl, rfl, hll, hzl⟩
          go_wp2
          go_ret
          refine ⟨_, rfl, below_drewN HB1.out _, fz_lt _ _ _ _, ?_⟩
          rw [HZ.out, df_w, ← hzl]
          unfold tmF
          simp only [cl_fz]
end Go.Proofs.Ytmjenemjbpimcaa
/- Over: Extrapolate and Instant. -/
namespace Go.Proofs.Ytmjenemjbpimcaa
open Go.RowKit

/-- What a function that may have no answer answers. -/
def RX (w : World) (p : Prop) (c : Option Nat) (r : Ending) (w' : World) : Prop := ∃ (z : Nat) (b : Bool), r = .returned (.tuple #[.float .f64 z, .bool b]) ∧ (b = true ↔ p) ∧ Below w.heap.size w w' ∧ z < 18446744073709551616 ∧ (b = true → cl z = c) ∧ (b = false → z = 0)

set_option maxHeartbeats 4000000 in
set_option maxRecDepth 100000 in
theorem extrapolate_any (a : Option Addr) (n c : Nat) (F T N : Int) (ss : Nat → Smp) (ctr per : Bool) (w : World) (hf : Sml w a ss n) (hsw : SW ss n) (hl : n ≤ 9223372036854775807) :
    Calls Try.prog 14 #[Wn a n c F T N, .bool ctr, .bool per] w (RX w (2 ≤ n ∧ Snd ss n F T N) (exF ss n F T ctr per)) := by
  have HW : Hid (Below w.heap.size w (w.alloc (wnX a n c F T N))) := (Below.refl _ w).alloc (Nat.le_refl _) _
  have k1 := has_any a n c F T N ss 2 (w.alloc (wnX a n c F T N)) (hf.below HW.out) hl
  have HC : Hid (∀ W, Below (w.alloc (wnX a n c F T N)).heap.size (w.alloc (wnX a n c F T N)) W → WnC a n c F T N w.heap.size W) := wnC_new a n c F T N w
  have kE : Hid (∀ W, Below w.heap.size w W → 2 ≤ n → Calls Try.prog 21 #[Wn a n c F T N, .bool ctr, .bool per] W (RB W (exF ss n F T ctr per))) := (show ∀ W, _ → _ → _ from fun W b h2 => by
    rcases hf with h | ⟨g, o, rfl, hg, hat⟩
    · omega
    · exact extrapolated_any g o n c F T N ss ctr per W (fun j hj => ⟨bcell b (hat j hj).1 hg, bcell b (hat j hj).2.1 hg, bcell b (hat j hj).2.2 hg⟩) hsw (Nat.lt_of_lt_of_le hg b.size) h2 hl)
  generalize exF ss n F T ctr per = R at *
  have HP : Hid ((2 ≤ n ∧ Snd ss n F T N) → 2 ≤ n) := fun h => h.1
  generalize (2 ≤ n ∧ Snd ss n F T N) = P at *
  clear hf hsw hl
  go_enter Try.func14, Try.ntmps14
  go_wp2_with fail
  go_fit k1
  rintro e w1 ⟨b, rfl, hb, b1⟩
  obtain ⟨x0, x1, x2, x3⟩ := HC.out w1 b1
  have B1 : Hid (Below w.heap.size w w1) := HW.out.trans (b1.mono HW.out.size)
  have HB : Hid (b = true ↔ P) := hb
  clear k1 b1 HC HW hb
  cases b
  · go_wp2
    go_ret2
    exact ⟨0, false, rfl, HB.out, B1.out, by omega, fun h => (by cases h), fun _ => rfl⟩
  · have kE := kE.out w1 B1.out (HP.out (HB.out.1 rfl))
    go_wp2_with fail
    go_fit kE
    rintro e w2 ⟨z, rfl, b2, hl, hz⟩
    have B2 : Hid (Below w.heap.size w w2) := B1.out.trans (b2.mono B1.out.size)
    have HZ : Hid (cl z = R) := hz
    clear b2 hz
    go_wp2
    go_ret2
    exact ⟨z, true, rfl, (by simpa using HB.out), B2.out, hl, fun _ => HZ.out, fun h => (by cases h)⟩

set_option maxHeartbeats 4000000 in
set_option maxRecDepth 100000 in
theorem instants_any (a : Option Addr) (n c : Nat) (F T N : Int) (ss : Nat → Smp) (ctr : Bool) (w : World) (hf : Sml w a ss n) (hsw : SW ss n) (hl : n ≤ 9223372036854775807) :
    Calls Try.prog 18 #[Wn a n c F T N, .bool ctr] w (RX w (2 ≤ n ∧ Snd ss n F T N) (inF ss n ctr)) := by
  have HW : Hid (Below w.heap.size w (w.alloc (wnX a n c F T N))) := (Below.refl _ w).alloc (Nat.le_refl _) _
  have k1 := has_any a n c F T N ss 2 (w.alloc (wnX a n c F T N)) (hf.below HW.out) hl
  have HC : Hid (∀ W, Below (w.alloc (wnX a n c F T N)).heap.size (w.alloc (wnX a n c F T N)) W → WnC a n c F T N w.heap.size W) := wnC_new a n c F T N w
  have kE : Hid (∀ W, Below w.heap.size w W → 2 ≤ n → Calls Try.prog 23 #[.slice a n c, .bool ctr] W (RB W (inF ss n ctr))) := (show ∀ W, _ → _ → _ from fun W b h2 => by
    rcases hf with h | ⟨g, o, rfl, hg, hat⟩
    · omega
    · exact instant_any g o n c ss ctr W (fun j hj => ⟨bcell b (hat j hj).1 hg, bcell b (hat j hj).2.1 hg, bcell b (hat j hj).2.2 hg⟩) hsw (Nat.lt_of_lt_of_le hg b.size) h2 hl)
  generalize inF ss n ctr = R at *
  have HP : Hid ((2 ≤ n ∧ Snd ss n F T N) → 2 ≤ n) := fun h => h.1
  generalize (2 ≤ n ∧ Snd ss n F T N) = P at *
  clear hf hsw hl
  go_enter Try.func18, Try.ntmps18
  go_wp2_with fail
  go_fit k1
  rintro e w1 ⟨b, rfl, hb, b1⟩
  obtain ⟨x0, x1, x2, x3⟩ := HC.out w1 b1
  have B1 : Hid (Below w.heap.size w w1) := HW.out.trans (b1.mono HW.out.size)
  have HB : Hid (b = true ↔ P) := hb
  clear k1 b1 HC HW hb
  cases b
  · go_wp2
    go_ret2
    exact ⟨0, false, rfl, HB.out, B1.out, by omega, fun h => (by cases h), fun _ => rfl⟩
  · have kE := kE.out w1 B1.out (HP.out (HB.out.1 rfl))
    go_wp2_with fail
    go_fit kE
    rintro e w2 ⟨z, rfl, b2, hl, hz⟩
    have B2 : Hid (Below w.heap.size w w2) := B1.out.trans (b2.mono B1.out.size)
    have HZ : Hid (cl z = R) := hz
    clear b2 hz
    go_wp2
    go_ret2
    exact ⟨z, true, rfl, (by simpa using HB.out), B2.out, hl, fun _ => HZ.out, fun h => (by cases h)⟩
end Go.Proofs.Ytmjenemjbpimcaa
