/- A bundle of texts. -/
import Derived.Test.YtmjenemjbpimcaaBk11
import Derived.Test.YtmjenemjbpimcaaBk03
import Derived.Laws.ShiftsVar
import Derived.Test.YtmjenemjbpimcaaBk10
import Derived.Test.YtmjenemjbpimcaaBk08
/- The small functions of Exp; scaled and scale. -/
namespace Go.Proofs.Ytmjenemjbpimcaa
open Go.RowKit Ieee

set_option maxHeartbeats 400000 in
theorem isNaN_any (x : Nat) (w : World) : Calls Try.prog 75 #[.float .f64 x] w fun r w' => r = .returned (.bool (nanB x)) ∧ w' = w := by
  have e := fo_self x
  cases h : nanB x
  · rw [h, if_neg (by decide)] at e
    go_enter Try.func75, Try.ntmps75
    go_wp2
    go_ret
    exact ⟨rfl, rfl⟩
  · rw [h, if_pos rfl] at e
    go_enter Try.func75, Try.ntmps75
    go_wp2
    go_ret
    exact ⟨rfl, rfl⟩
set_option maxHeartbeats 400000 in
theorem inf1_any (w : World) : Calls Try.prog 89 #[.int .i64 1] w fun r w' => r = .returned (.float .f64 9218868437227405312) ∧ w' = w := by
  have h3 := callFrom
  go_enter Try.func89, Try.ntmps89
  go_wp2
  go_ret
  exact ⟨rfl, rfl⟩
set_option maxHeartbeats 400000 in
theorem infm_any (w : World) : Calls Try.prog 89 #[.int .i64 (-1)] w fun r w' => r = .returned (.float .f64 18442240474082181120) ∧ w' = w := by
  have h3 := callFrom
  go_enter Try.func89, Try.ntmps89
  go_wp2
  go_ret
  exact ⟨rfl, rfl⟩
theorem ti_num (y : Nat) (n : String) (h : nanB y = false) : Extern.MathFloor.toIntegral n .down #[.float .f64 y] = pure (.float .f64 (flr y)) := by
  conv => lhs; whnf
  have e : FloatKind.f64.decode y = Ieee.double.read y := rfl
  rw [e]
  unfold flr
  unfold nanB at h
  cases hr : Ieee.double.read y with
  | nan s f => rw [hr] at h; simp [Datum.isNaN] at h
  | infinity s => rfl
  | number s m i => rfl
theorem p2_toNat (e : Int) (h1 : -1022 ≤ e) : ((e + 1023) * 4503599627370496).toNat = p2 e := by
  unfold p2
  rw [show (2 : Nat) ^ 52 = 4503599627370496 from rfl]
  omega
theorem p2_num (e : Int) (h1 : -1022 ≤ e) (h2 : e ≤ 1023) : cl (p2 e) = some (p2 e) := by
  apply cl_num
  unfold nanB
  rw [read_p2 e h1 h2]; rfl

/-- zc is z times 2 ^ A, rounded once. -/
def Sc (z : Nat) (A : Int) (zc : Nat) : Prop := (A = 0 ∧ zc = z) ∨ cl zc = scC (cl z) A
theorem Sc.start (z : Nat) : Sc z 0 z := .inl ⟨rfl, rfl⟩
theorem Sc.step {z : Nat} {A : Int} {zc : Nat} (h : Sc z A zc) (hz : gdS z) (a : Int) (hA : -960 ≤ A) (ha : 0 ≤ a ∨ A ≤ 0) (h1 : -1022 ≤ a) (h2 : a ≤ 1023) : fb .mul (cl zc) (cl (p2 a)) = scC (cl z) (A + a) := by
  rw [p2_num a h1 h2]
  cases hn : nanB z with
  | true =>
    rw [cl_nan hn]
    rcases h with ⟨_, rfl⟩ | h
    · rw [cl_nan hn]; rfl
    · rw [h, cl_nan hn]; rfl
  | false =>
    have hcz := cl_num hn
    cases hr : Ieee.double.read z with
    | nan s f => unfold nanB at hn; rw [hr] at hn; simp [Datum.isNaN] at hn
    | infinity s =>
      have e : ∀ B, scC (cl z) B = some (Ieee.double.word s Ieee.double.infRung) := fun B => by rw [hcz]; unfold scC; simp only [Option.bind_some, hr]
      rw [e]
      rcases h with ⟨_, rfl⟩ | h
      · rw [hcz]
        exact mul_inf _ s a hr h1 h2
      · rw [e] at h
        rw [h]
        exact mul_inf _ s a (read_inf s) h1 h2
    | number s m i =>
      have e : ∀ B, scC (cl z) B = some (Ieee.double.nearest s m (i + B)) := fun B => by rw [hcz]; unfold scC; simp only [Option.bind_some, hr]
      obtain ⟨_, m53⟩ := read_place z s m i hr
      rw [e]
      rcases h with ⟨rfl, rfl⟩ | h
      · rw [hcz, Int.zero_add]
        exact mul_p2 _ s m i a hr h1 h2
      · rw [e] at h
        rw [h]
        show floatBits .mul .f64 (Ieee.double.nearest s m (i + A)) (p2 a) = _
        by_cases h0 : m = 0
        · subst h0
          rw [nearest_zero, nearest_zero, mul_p2 _ s 0 (-1074) a (read_zero s) h1 h2, nearest_zero]
        · have hi : -105 ≤ i := by
            rcases hz s m i hr with h | h
            · exact absurd h h0
            · exact h
          have hlog : m.log2 ≤ 52 := by
            have := (Nat.log2_lt h0).2 m53
            omega
          have hi2 : i ≤ 971 := by
            have hlt : z % 2 ^ 63 < 0x7ff0000000000000 := by
              have hu := read_uv z s m i hr
              rcases Nat.lt_or_ge (z % 2 ^ 63) 0x7ff0000000000000 with h | h
              · exact h
              · exfalso
                have hb : Ieee.double.binade = 2 ^ 52 := rfl
                have hii : Ieee.double.infRung = 0x7ff0000000000000 := by decide
                have hsw : Ieee.double.signWeight = 2 ^ 63 := rfl
                unfold Format.read at hr
                simp only [hb, hii, hsw] at hr
                rw [if_neg (by omega), if_neg (by omega)] at hr
                split at hr <;> cases hr
            obtain ⟨s', m', i', hr', hle⟩ := read_top z hlt
            rw [hr] at hr'
            cases hr'
            exact hle
          have := mul_near s m (i + A) a m53 (by omega) (by omega) h1 h2
          rw [this]
          congr 2
          omega

theorem p2_100 : p2 100 = 5057542381537067008 := by decide
theorem p2_900 : p2 (-900) = 553942754166571008 := by decide
theorem p2_toNat' (e : Int) (h1 : -1022 ≤ e) : ((1023 + e) * 4503599627370496).toNat = p2 e := by rw [Int.add_comm]; exact p2_toNat e h1

end Go.Proofs.Ytmjenemjbpimcaa
/- Over: the greatest, the least, how many steps. -/
namespace Go.Proofs.Ytmjenemjbpimcaa
open Go.RowKit

set_option maxHeartbeats 4000000 in
set_option maxRecDepth 100000 in
theorem highest_any (g o n c : Nat) (ss : Nat → Smp) (w : World) (hat : SAt w g o ss n) (hsw : SW ss n) (hg : g < w.heap.size) (hn : 1 ≤ n) (hl : n ≤ 9223372036854775807) (hc : n ≤ c) :
    Calls Try.prog 44 #[.slice (some ⟨g, o, none⟩) n c] w (RB w (outI true (fun j => (ss j).v) (n - 1))) := by
  have hsf := @run_store_float Try.prog
  have HA : Hid (SAt w g o ss n) := hat
  have HS : Hid (SW ss n) := hsw
  have HG : Hid (g < w.heap.size) := hg
  have hb0 := Below.refl w.heap.size w
  have y0 := (hat 0 (by omega)).2.1
  have l0 := (hsw 0 (by omega)).2.2
  rw [show o + 0 * 3 + 1 = o + 1 by omega] at y0
  have E0 : Hid (cl (ss 0).v = outI true (fun j => (ss j).v) 0) := rfl
  obtain ⟨x0, hx0⟩ : ∃ x, x = (ss 0).v := ⟨_, rfl⟩
  rw [← hx0] at y0 l0 E0
  obtain ⟨m, hm⟩ : ∃ m, n = m + 1 := ⟨n - 1, by omega⟩
  subst hm
  rw [Nat.add_sub_cancel]
  clear hat hsw hg hx0
  by_cases hc1 : c = 1
  · obtain rfl : m = 0 := by omega
    subst hc1
    go_enter Try.func44, Try.ntmps44
    go_wp2
    go_loopw [3, 13] (fun mv iv w' => mv = .float .f64 x0 ∧ iv = .int .i64 0 ∧ w' = w) (fun _ _ _ => 0)
    case atStart => exact ⟨rfl, rfl, rfl⟩
    case round =>
      obtain ⟨rfl, rfl, rfl⟩ := hrel
      go_wp2
      go_ret
      exact ⟨x0, rfl, hb0, l0, E0.out⟩
  · go_enter Try.func44, Try.ntmps44
    go_wp2
    go_loopw [3, 13] (fun mv iv w' => ∃ i x : Nat, iv = .int .i64 (i : Int) ∧ i ≤ m ∧ mv = .float .f64 x ∧ x < 18446744073709551616 ∧ Hid (cl x = outI true (fun j => (ss j).v) i) ∧ Hid (Below w.heap.size w w')) (fun _ iv _ => m - (RowKit.intOf iv).toNat)
    case atStart => exact ⟨0, x0, rfl, by omega, rfl, l0, E0, hb0⟩
    case round =>
      obtain ⟨i, x, rfl, hi, rfl, hx, hst, hb⟩ := hrel
      by_cases hlt : i < m
      · have hii : (i : Int) < m := by omega
        obtain ⟨f1, f2, f3⟩ := HA.out (i + 1) (by omega)
        have q1 := bcell hb.out f1 HG.out
        have q2 := bcell hb.out f2 HG.out
        have q3 := bcell hb.out f3 HG.out
        rw [show o + (i + 1) * 3 = o + 3 + i * 3 by omega] at q1 q2 q3
        have lu := (HS.out (i + 1) (by omega)).2.2
        have HI : Hid (i + 1 ≤ m) := hlt
        have HN : Hid (outI true (fun j => (ss j).v) (i + 1) = if outB true (cl (ss (i + 1)).v) (cl x) = true then cl (ss (i + 1)).v else cl x) := (show _ = _ by rw [hst.out]; rfl)
        obtain ⟨u, hu⟩ : ∃ u, ss (i + 1) = u := ⟨_, rfl⟩
        rw [hu] at q1 q2 q3 lu HN
        clear hu f1 f2 f3
        have n1 := cp_cell wr u 1 (.float .f64 u.v) rfl
        have hbA : Hid (Below w.heap.size w (wr.alloc (cp u))) := hb.out.alloc hb.out.size _
        have d1 := gtB_eq u.v x
        have kN := isNaN_any x
        rw [nan_cl] at kN
        cases e1 : gtB (cl u.v) (cl x)
        · rw [e1] at d1
          cases e2 : (cl x).isNone
          · rw [e2] at kN
            have HZ : Hid (cl x = outI true (fun j => (ss j).v) (i + 1)) := (show _ = _ by
              rw [HN.out, if_neg]
              unfold outB
              simp [e1, e2])
            clear HN e1 e2 hst
            go_wp2_with fail
            go_fit (kN _)
            rintro e w5 ⟨rfl, rfl⟩
            go_wp2
            exact ⟨⟨i + 1, x, by go_num, HI.out, rfl, hx, HZ, hbA⟩, by simp [RowKit.intOf]; omega⟩
          · rw [e2] at kN
            have HZ : Hid (cl u.v = outI true (fun j => (ss j).v) (i + 1)) := (show _ = _ by
              rw [HN.out, if_pos]
              unfold outB
              simp [e2])
            clear HN e1 e2 hst
            go_wp2_with fail
            go_fit (kN _)
            rintro e w5 ⟨rfl, rfl⟩
            go_wp2
            exact ⟨⟨i + 1, u.v, by go_num, HI.out, rfl, lu, HZ, hbA⟩, by simp [RowKit.intOf]; omega⟩
        · rw [e1] at d1
          have HZ : Hid (cl u.v = outI true (fun j => (ss j).v) (i + 1)) := (show _ = _ by
            rw [HN.out, if_pos]
            unfold outB
            simp [e1])
          clear HN e1 hst
          go_wp2
          exact ⟨⟨i + 1, u.v, by go_num, HI.out, rfl, lu, HZ, hbA⟩, by simp [RowKit.intOf]; omega⟩
      · have hii : ¬ (i : Int) < m := by omega
        obtain rfl : i = m := by omega
        go_wp2
        go_ret
        exact ⟨x, rfl, hb.out, hx, hst.out⟩
set_option maxHeartbeats 4000000 in
set_option maxRecDepth 100000 in
theorem lowest_any (g o n c : Nat) (ss : Nat → Smp) (w : World) (hat : SAt w g o ss n) (hsw : SW ss n) (hg : g < w.heap.size) (hn : 1 ≤ n) (hl : n ≤ 9223372036854775807) (hc : n ≤ c) :
    Calls Try.prog 46 #[.slice (some ⟨g, o, none⟩) n c] w (RB w (outI false (fun j => (ss j).v) (n - 1))) := by
  have hsf := @run_store_float Try.prog
  have HA : Hid (SAt w g o ss n) := hat
  have HS : Hid (SW ss n) := hsw
  have HG : Hid (g < w.heap.size) := hg
  have hb0 := Below.refl w.heap.size w
  have y0 := (hat 0 (by omega)).2.1
  have l0 := (hsw 0 (by omega)).2.2
  rw [show o + 0 * 3 + 1 = o + 1 by omega] at y0
  have E0 : Hid (cl (ss 0).v = outI false (fun j => (ss j).v) 0) := rfl
  obtain ⟨x0, hx0⟩ : ∃ x, x = (ss 0).v := ⟨_, rfl⟩
  rw [← hx0] at y0 l0 E0
  obtain ⟨m, hm⟩ : ∃ m, n = m + 1 := ⟨n - 1, by omega⟩
  subst hm
  rw [Nat.add_sub_cancel]
  clear hat hsw hg hx0
  by_cases hc1 : c = 1
  · obtain rfl : m = 0 := by omega
    subst hc1
    go_enter Try.func46, Try.ntmps46
    go_wp2
    go_loopw [3, 13] (fun mv iv w' => mv = .float .f64 x0 ∧ iv = .int .i64 0 ∧ w' = w) (fun _ _ _ => 0)
    case atStart => exact ⟨rfl, rfl, rfl⟩
    case round =>
      obtain ⟨rfl, rfl, rfl⟩ := hrel
      go_wp2
      go_ret
      exact ⟨x0, rfl, hb0, l0, E0.out⟩
  · go_enter Try.func46, Try.ntmps46
    go_wp2
    go_loopw [3, 13] (fun mv iv w' => ∃ i x : Nat, iv = .int .i64 (i : Int) ∧ i ≤ m ∧ mv = .float .f64 x ∧ x < 18446744073709551616 ∧ Hid (cl x = outI false (fun j => (ss j).v) i) ∧ Hid (Below w.heap.size w w')) (fun _ iv _ => m - (RowKit.intOf iv).toNat)
    case atStart => exact ⟨0, x0, rfl, by omega, rfl, l0, E0, hb0⟩
    case round =>
      obtain ⟨i, x, rfl, hi, rfl, hx, hst, hb⟩ := hrel
      by_cases hlt : i < m
      · have hii : (i : Int) < m := by omega
        obtain ⟨f1, f2, f3⟩ := HA.out (i + 1) (by omega)
        have q1 := bcell hb.out f1 HG.out
        have q2 := bcell hb.out f2 HG.out
        have q3 := bcell hb.out f3 HG.out
        rw [show o + (i + 1) * 3 = o + 3 + i * 3 by omega] at q1 q2 q3
        have lu := (HS.out (i + 1) (by omega)).2.2
        have HI : Hid (i + 1 ≤ m) := hlt
        have HN : Hid (outI false (fun j => (ss j).v) (i + 1) = if outB false (cl (ss (i + 1)).v) (cl x) = true then cl (ss (i + 1)).v else cl x) := (show _ = _ by rw [hst.out]; rfl)
        obtain ⟨u, hu⟩ : ∃ u, ss (i + 1) = u := ⟨_, rfl⟩
        rw [hu] at q1 q2 q3 lu HN
        clear hu f1 f2 f3
        have n1 := cp_cell wr u 1 (.float .f64 u.v) rfl
        have hbA : Hid (Below w.heap.size w (wr.alloc (cp u))) := hb.out.alloc hb.out.size _
        have d1 := ltB_eq u.v x
        have kN := isNaN_any x
        rw [nan_cl] at kN
        cases e1 : ltB (cl u.v) (cl x)
        · rw [e1] at d1
          cases e2 : (cl x).isNone
          · rw [e2] at kN
            have HZ : Hid (cl x = outI false (fun j => (ss j).v) (i + 1)) := (show _ = _ by
              rw [HN.out, if_neg]
              unfold outB
              simp [e1, e2])
            clear HN e1 e2 hst
            go_wp2_with fail
            go_fit (kN _)
            rintro e w5 ⟨rfl, rfl⟩
            go_wp2
            exact ⟨⟨i + 1, x, by go_num, HI.out, rfl, hx, HZ, hbA⟩, by simp [RowKit.intOf]; omega⟩
          · rw [e2] at kN
            have HZ : Hid (cl u.v = outI false (fun j => (ss j).v) (i + 1)) := (show _ = _ by
              rw [HN.out, if_pos]
              unfold outB
              simp [e2])
            clear HN e1 e2 hst
            go_wp2_with fail
            go_fit (kN _)
            rintro e w5 ⟨rfl, rfl⟩
            go_wp2
            exact ⟨⟨i + 1, u.v, by go_num, HI.out, rfl, lu, HZ, hbA⟩, by simp [RowKit.intOf]; omega⟩
        · rw [e1] at d1
          have HZ : Hid (cl u.v = outI false (fun j => (ss j).v) (i + 1)) := (show _ = _ by
            rw [HN.out, if_pos]
            unfold outB
            simp [e1])
          clear HN e1 hst
          go_wp2
          exact ⟨⟨i + 1, u.v, by go_num, HI.out, rfl, lu, HZ, hbA⟩, by simp [RowKit.intOf]; omega⟩
      · have hii : ¬ (i : Int) < m := by omega
        obtain rfl : i = m := by omega
        go_wp2
        go_ret
        exact ⟨x, rfl, hb.out, hx, hst.out⟩
end Go.Proofs.Ytmjenemjbpimcaa
/- Turn and Beat. -/
namespace Go.Proofs.Ytmjenemjbpimcaa
open Go.RowKit

theorem run_farith {P : Program} (x y : Nat) (w : World) : (Op.floatArith .add .f64 x y).run P w = .ok (.float .f64 (fz .add x y w)) (w.drewN (fk .add x y)) := run_fadd 0 x y w
theorem run_cadd {P : Program} (t : TypeId) (a b c d : Nat) (w : World) : (binOp .add t (.complex .f64 a b) (.complex .f64 c d)).run P w =
    .ok (.complex .f64 (fz .add a c w) (fz .add b d (w.drewN (fk .add a c)))) (w.drewN (fk .add a c + fk .add b d)) := by
  simp [binOp, Op.complexOp, Op.Complex.arith, run_farith]

/-- The directions' parts. -/
def cw (k : Nat) : Nat := ([4607182418800017408, 4604544271217802189, 0, 13827916308072577997, 13830554455654793216, 13827916308072577997, 0, 4604544271217802189] : List Nat).getD k 0
def sw (k : Nat) : Nat := ([0, 4604544271217802189, 4607182418800017408, 4604544271217802189, 0, 13827916308072577997, 13830554455654793216, 13827916308072577997] : List Nat).getD k 0
theorem dir_at (k : Nat) (hk : k < 8) : dirs[k]? = some (.complex .f64 (cw k) (sw k)) := by
  rcases (show k = 0 ∨ k = 1 ∨ k = 2 ∨ k = 3 ∨ k = 4 ∨ k = 5 ∨ k = 6 ∨ k = 7 by omega) with rfl | rfl | rfl | rfl | rfl | rfl | rfl | rfl <;> rfl
theorem cw_num (k : Nat) (hk : k < 8) : cl (cw k) = some (cw k) := by
  rcases (show k = 0 ∨ k = 1 ∨ k = 2 ∨ k = 3 ∨ k = 4 ∨ k = 5 ∨ k = 6 ∨ k = 7 by omega) with rfl | rfl | rfl | rfl | rfl | rfl | rfl | rfl <;> exact cl_lit _ (by decide)
theorem sw_num (k : Nat) (hk : k < 8) : cl (sw k) = some (sw k) := by
  rcases (show k = 0 ∨ k = 1 ∨ k = 2 ∨ k = 3 ∨ k = 4 ∨ k = 5 ∨ k = 6 ∨ k = 7 by omega) with rfl | rfl | rfl | rfl | rfl | rfl | rfl | rfl <;> exact cl_lit _ (by decide)

/-- Turn's sums. -/
def trS (D : Nat → Int) (V : Nat → Nat) (p : Int) : Nat → Option Nat × Option Nat
  | 0 => (some 0, some 0)
  | i + 1 => (fb .add (trS D V p i).1 (fb .mul (cl (V i)) (some (cw (eg (D i) p).toNat))), fb .add (trS D V p i).2 (fb .mul (cl (V i)) (some (sw (eg (D i) p).toNat))))
def tuF (D : Nat → Int) (V : Nat → Nat) (n : Nat) (p : Int) : Option Nat × Option Nat := if prB p = true then trS D V p n else (some 0, some 0)
def RC (w : World) (c : Option Nat × Option Nat) (r : Ending) (w' : World) : Prop := ∃ z1 z2, r = .returned (.complex .f64 z1 z2) ∧ Below w.heap.size w w' ∧ z1 < 18446744073709551616 ∧ z2 < 18446744073709551616 ∧ (cl z1, cl z2) = c

set_option maxHeartbeats 1000000 in
set_option maxRecDepth 100000 in
theorem turn_any (a : Option Addr) (c n : Nat) (ss : Nat → Smp) (p : Int) (w : World) (hf : Sml w a ss n) (hl : n ≤ 9223372036854775807) :
    Calls Try.prog 96 #[.slice a n c, .int .i64 p] w (RC w (tuF (fun j => df (ss j).t (ss 0).t) (fun j => (ss j).v) n p)) := by
  have hb0 := Below.refl w.heap.size w
  have kP := isPeriod_any p w
  have kD := directions_any w
  cases hp : prB p
  · have e : tuF (fun j => df (ss j).t (ss 0).t) (fun j => (ss j).v) n p = (some 0, some 0) := if_neg (by rw [hp]; decide)
    rw [hp] at kP
    rw [e]
    go_enter Try.func96, Try.ntmps96
    go_wp2_with fail
    go_fit kP
    rintro r w ⟨rfl, rfl⟩
    go_wp2
    go_ret
    exact ⟨0, 0, rfl, hb0, by decide, by decide, by rw [cl_lit 0 (by decide)]⟩
  · have e : tuF (fun j => df (ss j).t (ss 0).t) (fun j => (ss j).v) n p = trS (fun j => df (ss j).t (ss 0).t) (fun j => (ss j).v) p n := if_pos hp
    rw [hp] at kP
    rw [e]
    have hp1 : 1 ≤ p ∧ p ≤ 315360000000000 := by unfold prB at hp; simpa using hp
    obtain ⟨hp1, hp2⟩ := hp1
    have ha := @run_cadd Try.prog
    have hm := @run_fmul Try.prog
    have hsc := @run_store_complex Try.prog
    have hsf := @run_store_float Try.prog
    have HF : Hid (Sml w a ss n) := hf
    obtain ⟨X, hX⟩ : ∃ X : Nat → Option Nat × Option Nat, X = trS (fun j => df (ss j).t (ss 0).t) (fun j => (ss j).v) p := ⟨_, rfl⟩
    have HX0 : Hid (X 0 = (some 0, some 0)) := by show _ = _; rw [hX]; rfl
    have HXS : Hid (∀ i, X (i + 1) = (fb .add (X i).1 (fb .mul (cl (ss i).v) (some (cw (eg (df (ss i).t (ss 0).t) p).toNat))), fb .add (X i).2 (fb .mul (cl (ss i).v) (some (sw (eg (df (ss i).t (ss 0).t) p).toNat))))) := by
      intro i
      rw [hX]; rfl
    rw [← hX]
    clear hf hX e hp
    go_enter Try.func96, Try.ntmps96
    go_wp2_with fail
    go_fit kP
    rintro r w ⟨rfl, rfl⟩
    go_wp2_with fail
    go_fit kD
    rintro r w1 ⟨rfl, hb1⟩
    clear kP kD
    go_wp2
    have hbW : Below w.heap.size w (w1.alloc (.cells dirs 93)) := hb1.alloc hb1.size _
    have hdir : ∀ k, k < 8 → (w1.alloc (.cells dirs 93)).cell? ⟨w1.heap.size, k, none⟩ = some (.complex .f64 (cw k) (sw k)) := fun k hk => by
      unfold World.cell?
      rw [show (w1.alloc (.cells dirs 93)).heap[w1.heap.size]? = some (.cells dirs 93) from heap_alloc_new w1 _]
      simpa using dir_at k hk
    have hBl : w1.heap.size < (w1.alloc (.cells dirs 93)).heap.size := by simp
    generalize w1.alloc (.cells dirs 93) = W0 at *
    generalize w1.heap.size = B at *
    have HF0 : Hid (Sml W0 a ss n) := HF.out.below hbW
    have HDI : Hid (∀ k, k < 8 → W0.cell? ⟨B, k, none⟩ = some (.complex .f64 (cw k) (sw k))) := hdir
    have HBW : Hid (Below w.heap.size w W0) := hbW
    have b0 : Below W0.heap.size W0 W0 := Below.refl _ _
    obtain ⟨G, hG⟩ : ∃ G, G = W0.heap.size := ⟨_, rfl⟩
    have HG : Hid (G = W0.heap.size) := hG
    rw [← hG] at b0 hBl
    clear hG hdir hbW hb1 hb0
    go_loopw [6, 16] (fun sv iv w' => ∃ (i z1 z2 : Nat), iv = .int .i64 (i : Int) ∧ i ≤ n ∧ sv = .complex .f64 z1 z2 ∧ z1 < 18446744073709551616 ∧ z2 < 18446744073709551616 ∧ Hid ((cl z1, cl z2) = X i) ∧ Below G W0 w') (fun _ iv _ => n - (RowKit.intOf iv).toNat)
    case atStart => exact ⟨0, 0, 0, rfl, by omega, rfl, by decide, by decide, (by rw [HX0.out, cl_lit 0 (by decide)] : _ = _), b0⟩
    case round =>
      obtain ⟨i, z1, z2, rfl, hi, rfl, hz1, hz2, hst, hb⟩ := hrel
      by_cases hlt : i < n
      · have hii : (i : Int) < n := by omega
        have hn0 : (0 : Int) < n := by omega
        rcases HF0.out with h0 | ⟨g, o, rfl, hg, hat⟩
        · rw [h0] at hlt; omega
        rw [← HG.out] at hg
        obtain ⟨f1, f2, f3⟩ := hat i hlt
        have q1 := (hb.cell (p := ⟨g, o + i * 3, none⟩) hg).trans f1
        have q2 := (hb.cell (p := ⟨g, o + i * 3 + 1, none⟩) hg).trans f2
        have q3 := (hb.cell (p := ⟨g, o + i * 3 + 2, none⟩) hg).trans f3
        have f0 := (hat 0 (by omega)).1
        rw [show o + 0 * 3 = o by omega] at f0
        have hnx := HXS.out i
        obtain ⟨u, hu⟩ : ∃ u, ss i = u := ⟨_, rfl⟩
        obtain ⟨t0, ht0⟩ : ∃ t0, (ss 0).t = t0 := ⟨_, rfl⟩
        rw [hu] at q1 q2 q3 hnx
        rw [ht0] at hnx f0
        obtain ⟨d, hd⟩ : ∃ d, df u.t t0 = d := ⟨_, rfl⟩
        rw [hd] at hnx
        have hdf : IntKind.i64.wrap (u.t - t0) = d := hd
        obtain ⟨e1, e2⟩ := eg_bd d p hp1
        obtain ⟨k, hk⟩ : ∃ k : Nat, eg d p = (k : Int) := ⟨(eg d p).toNat, by omega⟩
        have hk8 : k < 8 := by omega
        rw [hk, Int.toNat_natCast, ← hst.out] at hnx
        have HNX : Hid _ := hnx
        have kE := fun w => eighth_any d p hp1 hp2 w
        rw [hk] at kE
        have HI : Hid (i + 1 ≤ n) := hlt
        have hGw : G ≤ wr.heap.size := by rw [HG.out]; rw [HG.out] at hb; exact hb.size
        have hbA : Below G W0 (wr.alloc (cp u)) := hb.alloc hGw _
        have n0 := cp_cell wr u 0 (.int .i64 u.t) rfl
        have n1 := cp_cell wr u 1 (.float .f64 u.v) rfl
        have m0 : (wr.alloc (cp u)).cell? ⟨g, o, none⟩ = some (.int .i64 t0) := (hbA.cell (p := ⟨g, o, none⟩) hg).trans f0
        have mk : (wr.alloc (cp u)).cell? ⟨B, k, none⟩ = some (.complex .f64 (cw k) (sw k)) := (hbA.cell (p := ⟨B, k, none⟩) hBl).trans (HDI.out k hk8)
        have CW : Hid (cl (cw k) = some (cw k)) := cw_num k hk8
        have SWk : Hid (cl (sw k) = some (sw k)) := sw_num k hk8
        generalize cw k = C at *
        generalize sw k = Sn at *
        clear hu ht0 hd hat f1 f2 f3 f0 hnx hst e1 e2 hk
        go_wp2_with fail
        go_quiet (exact Calls.quiet_of_same (kE _))
        have n2 : ((wr.alloc (cp u)).drewN nq).cell? ⟨wr.heap.size, 1, none⟩ = some (.float .f64 u.v) := n1
        have hbA2 : Below G W0 ((wr.alloc (cp u)).drewN nq) := below_drewN hbA nq
        clear n0 n1 m0 mk hbA kE
        generalize (wr.alloc (cp u)).drewN nq = W2 at *
        generalize wr.heap.size = J at *
        go_wp2
        refine ⟨⟨i + 1, _, _, by go_num, HI, rfl, fz_lt _ _ _ _, fz_lt _ _ _ _, ?_, below_drewN hbA2 _⟩, by simp [RowKit.intOf]; omega⟩
        show _ = _
        rw [HNX.out]
        simp only [cl_fz]
        rw [CW.out, SWk.out]
      · have hii : ¬ (i : Int) < n := by omega
        obtain rfl : i = n := by omega
        have HB : Hid (Below w.heap.size w wr) := by
          rw [HG.out] at hb
          exact HBW.out.trans (hb.mono HBW.out.size)
        go_wp2
        go_ret
        exact ⟨z1, z2, rfl, HB.out, hz1, hz2, hst.out⟩

/-- Beat. -/
def beF (D : Nat → Int) (V : Nat → Nat) (n : Nat) (p : Int) : Option Nat :=
  if n = 0 then none else if prB p = false then none
  else fb .quo (fsq (fb .add (fb .mul (tuF D V n p).1 (tuF D V n p).1) (fb .mul (tuF D V n p).2 (tuF D V n p).2))) (some (nW n))

set_option maxHeartbeats 1000000 in
set_option maxRecDepth 100000 in
theorem beat_any (a : Option Addr) (c n : Nat) (ss : Nat → Smp) (p : Int) (w : World) (hf : Sml w a ss n) (hl : n ≤ 9223372036854775807) :
    Calls Try.prog 85 #[.slice a n c, .int .i64 p] w (RB w (beF (fun j => df (ss j).t (ss 0).t) (fun j => (ss j).v) n p)) := by
  have hb0 := Below.refl w.heap.size w
  have kN := nan_any
  by_cases h0 : n = 0
  · have e : beF (fun j => df (ss j).t (ss 0).t) (fun j => (ss j).v) n p = none := if_pos h0
    have h0' : (n : Int) = 0 := by omega
    rw [e]
    go_enter Try.func85, Try.ntmps85
    go_wp2_with fail
    go_fit (kN _)
    rintro r w ⟨rfl, rfl⟩
    go_wp2
    go_ret
    exact ⟨_, rfl, hb0, by decide, cl_theNaN⟩
  have h0' : ¬ (n : Int) = 0 := by omega
  have kP := isPeriod_any p w
  cases hp : prB p
  · have e : beF (fun j => df (ss j).t (ss 0).t) (fun j => (ss j).v) n p = none := by unfold beF; rw [if_neg h0, if_pos hp]
    rw [hp] at kP
    rw [e]
    go_enter Try.func85, Try.ntmps85
    go_wp2_with fail
    go_fit kP
    rintro r w ⟨rfl, rfl⟩
    go_wp2_with fail
    go_fit (kN _)
    rintro r w ⟨rfl, rfl⟩
    go_wp2
    go_ret
    exact ⟨_, rfl, hb0, by decide, cl_theNaN⟩
  · have E : Hid (beF (fun j => df (ss j).t (ss 0).t) (fun j => (ss j).v) n p = fb .quo (fsq (fb .add (fb .mul (tuF (fun j => df (ss j).t (ss 0).t) (fun j => (ss j).v) n p).1 (tuF (fun j => df (ss j).t (ss 0).t) (fun j => (ss j).v) n p).1) (fb .mul (tuF (fun j => df (ss j).t (ss 0).t) (fun j => (ss j).v) n p).2 (tuF (fun j => df (ss j).t (ss 0).t) (fun j => (ss j).v) n p).2))) (some (nW n))) := by
      show _ = _
      unfold beF; rw [if_neg h0, if_neg (by rw [hp]; decide)]
    rw [hp] at kP
    have kT := turn_any a c n ss p w hf hl
    have ha := @run_fadd Try.prog
    have hm := @run_fmul Try.prog
    have hq := @run_fquo Try.prog
    have hcn := cvn n
    generalize beF (fun j => df (ss j).t (ss 0).t) (fun j => (ss j).v) n p = R at *
    generalize tuF (fun j => df (ss j).t (ss 0).t) (fun j => (ss j).v) n p = T at *
    go_enter Try.func85, Try.ntmps85
    go_wp2_with fail
    go_fit kP
    rintro r w ⟨rfl, rfl⟩
    go_wp2_with fail
    go_fit kT
    rintro r w1 ⟨z1, z2, rfl, hb1, _, _, hc⟩
    have HC : Hid ((cl z1, cl z2) = T) := hc
    clear hc kT kP
    go_wp2_with fail
    go_fit (sqrt_any _ _)
    rintro r w2 ⟨z3, k3, rfl, rfl, _, h3⟩
    have H3 : Hid (cl z3 = fsq (fb .add (fb .mul T.1 T.1) (fb .mul T.2 T.2))) := by
      show _ = _
      rw [h3, ← HC.out]
      simp only [cl_fz]
    clear h3
    go_wp2
    go_ret
    refine ⟨_, rfl, below_drewN hb1 _, fz_lt _ _ _ _, ?_⟩
    rw [cl_fz, H3.out, E.out, nW_num]
end Go.Proofs.Ytmjenemjbpimcaa
