/- A reader: takeTime, takeFrame. -/
import Derived.Test.YtedlmjieclaojaaDoorDb
namespace Go.Proofs.YtedlmjieclaojaaDoor
open Go.RowKit

theorem rdT_neg (b : Nat → Nat) (N : Nat) (s : Rs) (h : ¬ s.r.n = 0) (y p2 : Nat) (b2 : Bool) (hY : wyF b N 4 s.p = (y, p2, b2)) : rdT b N s = ⟨tkP N p2 (scW y), (s.b || b2) || tkX N p2 (scW y), { s.r with st := s64 (s.r.st + s64 (scL y + s64 (tkV b N p2 (scW y)))), tm := s64 (s.r.tm + s64 (s.r.st + s64 (scL y + s64 (tkV b N p2 (scW y))))) }⟩ := by
  unfold rdT
  rw [if_neg h, hY]
theorem i64_u (x : Nat) : IntKind.i64.wrap (x : Int) = s64 x := i64_s64 _
set_option maxHeartbeats 2000000 in
set_option maxRecDepth 100000 in
theorem takeTime_any (B : Nat) (a0 : Option Addr) (xs : List Int) (s : Rs) (w : World) (h : Rdr w B a0 xs s) (hx : By xs) (hs : Scl w) (hB : 1 < B) :
    Calls Tryd.prog 50 #[.pointer (some ⟨B, 0, none⟩)] w fun e w' => e = .returned (.tuple #[]) ∧ Rdr w' B a0 xs (rdT (bt 8 xs) (8 * xs.length) s) ∧ Kp (fun k => k = B) w w' := by
  obtain ⟨p, b, n, tm, st, vl, fr, to⟩ := s
  have HR : Hid (Rdr w B a0 xs ⟨p, b, n, tm, st, vl, fr, to⟩) := h
  have c0 := h.tc.c0
  have c1 := h.tc.c1
  have c2 := h.tc.c2
  dsimp only at *
  have HX : Hid (By xs) := hx
  by_cases hn : n = 0
  · have hn' : (n : Int) = 0 := by omega
    have HD : Hid (rdT (bt 8 xs) (8 * xs.length) ⟨p, b, n, tm, st, vl, fr, to⟩ = ⟨tkP (8 * xs.length) p 64, b || tkX (8 * xs.length) p 64, n, s64 (tkV (bt 8 xs) (8 * xs.length) p 64), st, vl, fr, to⟩) := by show _ = _; unfold rdT; rw [if_pos hn]
    have k := take_any B a0 xs p b 64 w h.src hx (by decide)
    rw [HD.out]
    generalize tkV (bt 8 xs) (8 * xs.length) p 64 = V at *
    clear h hx hs hn
    have hw := i64_u V
    go_enter Tryd.func50, Tryd.ntmps50
    go_wp2_with fail
    go_fit k
    rintro e w1 ⟨rfl, s1, k1⟩
    have hT := HR.out.tc.of k1.rs
    have q1 := hT.c1
    have qf := s1.fz 4
    have HF : Hid (Rdr (w1.setCell ⟨B, 4, none⟩ (.int .i64 (s64 V))) B a0 xs ⟨tkP (8 * xs.length) p 64, b || tkX (8 * xs.length) p 64, n, s64 V, st, vl, fr, to⟩ ∧ Kp (fun k => k = B) w (w1.setCell ⟨B, 4, none⟩ (.int .i64 (s64 V)))) := ⟨⟨s1.set 4 (by decide) _, hT.setT (s64 V)⟩, k1.kp.trans (kpB_set _ _ _ _)⟩
    clear k s1 k1 hT HR c0 c1 c2 HD
    go_wp2
    exact bodyPost_ret (v := .tuple #[]) (by simp [results, Tryd.results50, go_sem]) rfl ⟨rfl, HF.out⟩
  · have hn' : ¬ (n : Int) = 0 := by omega
    have k := takeWay_any B a0 xs p b 4 w h.src hx (by decide)
    have hyl := wyF_le (bt 8 xs) (8 * xs.length) 4 p
    have HS : Hid (Scl w) := hs
    obtain ⟨y, p2, b2, hY⟩ : ∃ y p2 b2, wyF (bt 8 xs) (8 * xs.length) 4 p = (y, p2, b2) := ⟨_, _, _, rfl⟩
    rw [rdT_neg _ _ ⟨p, b, n, tm, st, vl, fr, to⟩ hn y p2 b2 hY]
    rw [hY] at k hyl
    dsimp only at k hyl ⊢
    clear hY
    have sw := scW_le y
    obtain ⟨sl, hsl⟩ : ∃ sl, scL y = sl := ⟨_, rfl⟩
    obtain ⟨sn, hsn⟩ : ∃ sn, scW y = sn := ⟨_, rfl⟩
    obtain ⟨V, hV⟩ : ∃ V, tkV (bt 8 xs) (8 * xs.length) p2 sn = V := ⟨_, rfl⟩
    have HSL : Hid (scL y = sl ∧ scW y = sn ∧ tkV (bt 8 xs) (8 * xs.length) p2 sn = V) := ⟨hsl, hsn, hV⟩
    have hi1 := i64_u V
    obtain ⟨E1, hE1⟩ : ∃ E, IntKind.i64.wrap (sl + s64 V) = E := ⟨_, rfl⟩
    obtain ⟨E2, hE2⟩ : ∃ E, IntKind.i64.wrap (st + E1) = E := ⟨_, rfl⟩
    obtain ⟨E3, hE3⟩ : ∃ E, IntKind.i64.wrap (tm + E2) = E := ⟨_, rfl⟩
    have HE : s64 (st + s64 (sl + s64 V)) = E2 ∧ s64 (tm + s64 (st + s64 (sl + s64 V))) = E3 := ⟨by rw [← hE2, ← hE1, i64_s64, i64_s64], by rw [← hE3, ← hE2, ← hE1, i64_s64, i64_s64, i64_s64]⟩
    rw [hsl, hsn, hV, HE.2, HE.1]
    rw [hsn] at sw
    clear hsl hsn hV HE
    have hy5 : (y : Int) < 5 := by omega
    clear h hx hs hn
    go_enter Tryd.func50, Tryd.ntmps50
    go_wp2_with fail
    go_fit k
    rintro e w1 ⟨rfl, s1, k1⟩
    have hs1 := HS.out.kp k1.kp (by omega)
    obtain ⟨t1, t2⟩ := hs1.2 y (by omega)
    rw [HSL.out.1] at t1
    rw [HSL.out.2.1] at t2
    have hR1 : Rdr w1 B a0 xs ⟨p2, b || b2, n, tm, st, vl, fr, to⟩ := HR.out.take k1 s1
    have HB2 : Hid (Below w1.heap.size w1 (w1.alloc (.cells #[.int .i64 sl, .int .i64 (sn : Nat)] 98))) := (Below.refl _ _).alloc (Nat.le_refl _) _
    have hR2 := hR1.below HB2.out
    have HR2 : Hid _ := hR2
    have HK1 : Hid (Kp (fun k => k = B) w (w1.alloc (.cells #[.int .i64 sl, .int .i64 (sn : Nat)] 98))) := k1.kp.trans (Kp.of HB2.out)
    have hNB : w1.heap.size ≠ B := by have := s1.lt; omega
    clear k s1 k1 hs1 hR1 HR hR2
    go_upto_region 3 with fail
    have n0 : (w1.alloc (.cells #[.int .i64 sl, .int .i64 (sn : Nat)] 98)).cell? ⟨w1.heap.size, 0, none⟩ = some (.int .i64 sl) := by simp
    have n1 : (w1.alloc (.cells #[.int .i64 sl, .int .i64 (sn : Nat)] 98)).cell? ⟨w1.heap.size, 1, none⟩ = some (.int .i64 (sn : Nat)) := by simp
    clear t1 t2 HB2 c0 c1 c2
    generalize w1.alloc (.cells #[.int .i64 sl, .int .i64 (sn : Nat)] 98) = W at *
    generalize w1.heap.size = NB at *
    have d2 : W.drew.cell? ⟨B, 5, none⟩ = some (.int .i64 st) := HR2.out.tc.c2
    have K38 := take_any B a0 xs p2 (b || b2) sn W.drew (HR2.out.src.below (Below.refl _ _).drew) HX.out sw
    rw [HSL.out.2.2] at K38
    have m0 : W.drew.cell? ⟨NB, 0, none⟩ = some (.int .i64 sl) := n0
    have m1 : W.drew.cell? ⟨NB, 1, none⟩ = some (.int .i64 (sn : Nat)) := n1
    have KK : Calls Tryd.prog 38 #[.pointer (some ⟨B, 0, none⟩), .int .i64 (sn : Nat)] W.drew fun e w' => e = .returned (.int .u64 (V : Nat)) ∧ (w'.cell? ⟨B, 5, none⟩ = some (.int .i64 st) ∧ w'.cell? ⟨NB, 0, none⟩ = some (.int .i64 sl) ∧ w'.frozen? ⟨B, 5, none⟩ = false) ∧ Hid (Rdr w' B a0 xs ⟨tkP (8 * xs.length) p2 sn, b || b2 || tkX (8 * xs.length) p2 sn, n, tm, st, vl, fr, to⟩ ∧ Kp (fun k => k = B) w w') := by
      refine K38.mono ?_
      rintro e w3 ⟨rfl, s3, k3⟩
      exact ⟨rfl, ⟨(k3.rs 5 (by decide)).trans d2, k3.kp.cell (p := ⟨NB, 0, none⟩) m0 hNB, s3.fz 5⟩, (HR2.out.below (Below.refl _ _).drew).take k3 s3, HK1.out.drew.trans k3.kp⟩
    clear K38 HR2 HK1 HS HX HSL n0 n1 hy5 hyl hB hNB sw hn'
    go_region_with (first | (go_at_call 38; go_fit KK; rintro z w3 ⟨rfl, ⟨d2', n0', df'⟩, h3⟩))
    all_goals
      have HF : Hid (Rdr ((w3.setCell ⟨B, 5, none⟩ (.int .i64 E2)).setCell ⟨B, 4, none⟩ (.int .i64 E3)).drew B a0 xs ⟨tkP (8 * xs.length) p2 sn, b || b2 || tkX (8 * xs.length) p2 sn, n, E3, E2, vl, fr, to⟩ ∧ Kp (fun k => k = B) w ((w3.setCell ⟨B, 5, none⟩ (.int .i64 E2)).setCell ⟨B, 4, none⟩ (.int .i64 E3)).drew) :=
        ⟨Rdr.below ⟨(h3.out.1.src.set 5 (by decide) _).set 4 (by decide) _, (h3.out.1.tc.setS E2).setT E3⟩ (Below.refl _ _).drew, ((h3.out.2.trans (kpB_set _ _ _ _)).trans (kpB_set _ _ _ _)).drew⟩
      have g1 : w3.cell? ⟨B, 4, none⟩ = some (.int .i64 tm) := h3.out.1.tc.c1
      have g2 := h3.out.1.src.fz 4
      clear KK h3 n0' d2 m0 m1
      go_wp2_with fail
      go_region
      go_wp2
      go_end0
      exact ⟨rfl, HF.out⟩
end Go.Proofs.YtedlmjieclaojaaDoor
