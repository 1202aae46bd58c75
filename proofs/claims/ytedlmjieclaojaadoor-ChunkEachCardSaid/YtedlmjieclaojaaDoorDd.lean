/- A reader: takeValue. -/
import Derived.Test.YtedlmjieclaojaaDoorDe
namespace Go.Proofs.YtedlmjieclaojaaDoor
open Go.RowKit

theorem run_shl {P : Program} (x n : Nat) (hn : n ≤ 64) (y : Int) (hy : y = (n : Nat)) (W : World) : (Op.shift BinOp.shl .u64 (x : Int) .i64 y).run P W = .ok (.int .u64 ((x * 2 ^ n % 18446744073709551616 : Nat) : Int)) W := by
  subst hy
  unfold Op.shift
  rw [if_neg (by omega)]
  have e : min (n : Int).toNat IntKind.u64.bits = n := by rw [Int.toNat_natCast]; exact Nat.min_eq_left hn
  have e2 : IntKind.u64.wrap ((x : Int) * 2 ^ n) = ((x * 2 ^ n % 18446744073709551616 : Nat) : Int) := by
    rw [IntKind.wrap_u64]
    simp
  simp only [e, e2]
  rfl
/-- A frame that is one, or none. -/
def Fok (r : Trl) : Prop := ((r.fr = 0 ∧ r.to = 0) ∨ (r.fr < r.to ∧ r.to ≤ 64)) ∧ r.vl < 18446744073709551616
theorem rdFr_fok (b : Nat → Nat) (N : Nat) (s : Rs) (h : Fok s.r) : Fok (rdFr b N s).r := by
  unfold rdFr
  split
  · exact h
  · rename_i h1
    refine ⟨.inr ?_, h.2⟩
    unfold rdF1 at h1
    show rdF0 b N s < rdF1 b N s ∧ rdF1 b N s ≤ 64
    unfold rdF0 rdF1
    omega
set_option maxHeartbeats 8000000 in
set_option maxRecDepth 100000 in
theorem takeValue_any (B : Nat) (a0 : Option Addr) (xs : List Int) (s : Rs) (w : World) (h : Rdr w B a0 xs s) (hx : By xs) (hf : Fok s.r) :
    Calls Tryd.prog 51 #[.pointer (some ⟨B, 0, none⟩)] w fun e w' => e = .returned (.bool (rdS (bt 8 xs) (8 * xs.length) s)) ∧ Rdr w' B a0 xs (rdV (bt 8 xs) (8 * xs.length) s) ∧ Kp (fun k => k = B) w w' := by
  have k := takeWay_any B a0 xs s.p s.b 3 w h.src hx (by decide)
  have hyl := wyF_le (bt 8 xs) (8 * xs.length) 3 s.p
  have HR : Hid (∀ w1, Sk B w w1 → Src w1 B a0 xs (wyF (bt 8 xs) (8 * xs.length) 3 s.p).2.1 (s.b || (wyF (bt 8 xs) (8 * xs.length) 3 s.p).2.2) → Rdr w1 B a0 xs (rdW (bt 8 xs) (8 * xs.length) s)) := fun w1 k1 s1 => h.take k1 s1
  have HX : Hid (By xs) := hx
  have HF : Hid (Fok (rdW (bt 8 xs) (8 * xs.length) s).r) := hf
  have HD : Hid (rdV (bt 8 xs) (8 * xs.length) s = if (wyF (bt 8 xs) (8 * xs.length) 3 s.p).1 = 3 then rdW (bt 8 xs) (8 * xs.length) s else if (wyF (bt 8 xs) (8 * xs.length) 3 s.p).1 = 0 then rdW (bt 8 xs) (8 * xs.length) s else if (wyF (bt 8 xs) (8 * xs.length) 3 s.p).1 = 2 then rdX (bt 8 xs) (8 * xs.length) (rdFr (bt 8 xs) (8 * xs.length) (rdW (bt 8 xs) (8 * xs.length) s)) else rdX (bt 8 xs) (8 * xs.length) (rdW (bt 8 xs) (8 * xs.length) s)) := rfl
  have HE : Hid (rdS (bt 8 xs) (8 * xs.length) s = decide ((wyF (bt 8 xs) (8 * xs.length) 3 s.p).1 = 3)) := rfl
  rw [HD.out, HE.out]
  clear HD HE h hx hf
  generalize rdW (bt 8 xs) (8 * xs.length) s = s1 at *
  generalize (wyF (bt 8 xs) (8 * xs.length) 3 s.p).2.1 = p2 at *
  generalize (wyF (bt 8 xs) (8 * xs.length) 3 s.p).2.2 = b2 at *
  generalize (wyF (bt 8 xs) (8 * xs.length) 3 s.p).1 = y at *
  have hcase : y = 3 ∨ y = 0 ∨ y = 2 ∨ y = 1 := by omega
  rcases hcase with rfl | rfl | rfl | rfl
  · rw [if_pos rfl]
    go_enter Tryd.func51, Tryd.ntmps51
    go_wp2_with fail
    go_fit k
    rintro e w1 ⟨rfl, s1', k1⟩
    have HFin : Hid (Rdr w1 B a0 xs s1 ∧ Kp (fun k => k = B) w w1) := ⟨HR.out w1 k1 s1', k1.kp⟩
    clear k s1' k1 HR
    go_wp2
    go_ret
    exact ⟨rfl, HFin.out⟩
  · rw [if_neg (by decide), if_pos rfl]
    go_enter Tryd.func51, Tryd.ntmps51
    go_wp2_with fail
    go_fit k
    rintro e w1 ⟨rfl, s1', k1⟩
    have HFin : Hid (Rdr w1 B a0 xs s1 ∧ Kp (fun k => k = B) w w1) := ⟨HR.out w1 k1 s1', k1.kp⟩
    clear k s1' k1 HR
    go_wp2
    go_ret
    exact ⟨rfl, HFin.out⟩
  case' inr.inr.inl =>
    rw [if_neg (by decide), if_neg (by decide), if_pos rfl]
    have HF2 : Hid (Fok (rdFr (bt 8 xs) (8 * xs.length) s1).r) := rdFr_fok _ _ _ HF.out
    have K59 : Hid (∀ w1, Rdr w1 B a0 xs s1 → _) := fun w1 h1 => takeFrame_any B a0 xs s1 w1 h1 HX.out
    generalize rdFr (bt 8 xs) (8 * xs.length) s1 = s2 at *
    have HD2 : Hid (rdX (bt 8 xs) (8 * xs.length) s2 = ⟨tkP (8 * xs.length) s2.p (s2.r.to - s2.r.fr), s2.b || tkX (8 * xs.length) s2.p (s2.r.to - s2.r.fr), { s2.r with vl := s2.r.vl ^^^ (tkV (bt 8 xs) (8 * xs.length) s2.p (s2.r.to - s2.r.fr) * 2 ^ (64 - s2.r.to) % 18446744073709551616) }⟩) := rfl
    rw [HD2.out]
    obtain ⟨p, b, n, tm, st, vl, fr, to⟩ := s2
    dsimp only
    obtain ⟨Z, hZ⟩ : ∃ Z, Z = vl ^^^ (tkV (bt 8 xs) (8 * xs.length) p (to - fr) * 2 ^ (64 - to) % 18446744073709551616) := ⟨_, rfl⟩
    rw [← hZ]
    have HZ : Hid _ := hZ
    clear hZ HD2
    go_enter Tryd.func51, Tryd.ntmps51
    go_wp2_with fail
    go_fit k
    rintro e w1 ⟨rfl, s1', k1⟩
    have h1 := HR.out w1 k1 s1'
    have HK1 : Hid _ := k1.kp
    have k2 := K59.out w1 h1
    clear k s1' k1 HR h1 K59
    go_wp2_with fail
    go_fit k2
    rintro e W ⟨rfl, h2, q2⟩
    have HR2 : Hid (Rdr W B a0 xs ⟨p, b, n, tm, st, vl, fr, to⟩) := h2
    have HKW : Hid (Kp (fun k => k = B) w W) := HK1.out.trans q2
    clear h2 q2 HK1 k2
    go_wp2_with fail
  case' inr.inr.inr =>
    rw [if_neg (by decide), if_neg (by decide), if_neg (by decide)]
    have HF2 : Hid (Fok s1.r) := HF.out
    have HD2 : Hid (rdX (bt 8 xs) (8 * xs.length) s1 = ⟨tkP (8 * xs.length) s1.p (s1.r.to - s1.r.fr), s1.b || tkX (8 * xs.length) s1.p (s1.r.to - s1.r.fr), { s1.r with vl := s1.r.vl ^^^ (tkV (bt 8 xs) (8 * xs.length) s1.p (s1.r.to - s1.r.fr) * 2 ^ (64 - s1.r.to) % 18446744073709551616) }⟩) := rfl
    rw [HD2.out]
    obtain ⟨p, b, n, tm, st, vl, fr, to⟩ := s1
    dsimp only
    obtain ⟨Z, hZ⟩ : ∃ Z, Z = vl ^^^ (tkV (bt 8 xs) (8 * xs.length) p (to - fr) * 2 ^ (64 - to) % 18446744073709551616) := ⟨_, rfl⟩
    rw [← hZ]
    have HZ : Hid _ := hZ
    clear hZ HD2
    go_enter Tryd.func51, Tryd.ntmps51
    go_wp2_with fail
    go_fit k
    rintro e W ⟨rfl, s1', k1⟩
    have h1 := HR.out W k1 s1'
    have HR2 : Hid (Rdr W B a0 xs ⟨p, b, n, tm, st, vl, fr, to⟩) := h1
    have HKW : Hid (Kp (fun k => k = B) w W) := k1.kp
    clear k s1' k1 HR h1
    go_wp2_with fail
  all_goals
    have d6 : W.drew.cell? ⟨B, 6, none⟩ = some (.int .u64 (vl : Nat)) := HR2.out.tc.c3
    have d7 : W.drew.cell? ⟨B, 7, none⟩ = some (.int .i64 (fr : Nat)) := HR2.out.tc.c4
    have d8 : W.drew.cell? ⟨B, 8, none⟩ = some (.int .i64 (to : Nat)) := HR2.out.tc.c5
    have hfo := HF2.out.1
    have hvl := HF2.out.2
    dsimp only at hfo hvl
    have K44 := size_any fr to (by omega) (by omega) W.drew
    have K38 : Hid (∀ V, Below W.drew.heap.size W.drew V → Calls Tryd.prog 38 #[.pointer (some ⟨B, 0, none⟩), .int .i64 ((to - fr : Nat) : Int)] V fun e w' => e = .returned (.int .u64 ((tkV (bt 8 xs) (8 * xs.length) p (to - fr) : Nat) : Int)) ∧ (w'.cell? ⟨B, 6, none⟩ = some (.int .u64 (vl : Nat)) ∧ w'.cell? ⟨B, 8, none⟩ = some (.int .i64 (to : Nat)) ∧ w'.frozen? ⟨B, 6, none⟩ = false) ∧ Hid (Rdr w' B a0 xs ⟨tkP (8 * xs.length) p (to - fr), b || tkX (8 * xs.length) p (to - fr), n, tm, st, vl, fr, to⟩ ∧ Kp (fun k => k = B) w w')) := fun V hV => by
      have hRV := (HR2.out.below (Below.refl _ _).drew).below hV
      refine (take_any B a0 xs p b (to - fr) V hRV.src HX.out (by omega)).mono ?_
      rintro e w5 ⟨rfl, s5, k5⟩
      have hR5 := hRV.take k5 s5
      exact ⟨rfl, ⟨hR5.tc.c3, hR5.tc.c5, s5.fz 6⟩, hR5, (HKW.out.drew.trans (Kp.of hV)).trans k5.kp⟩
    have hTl := tkV_lt (bt 8 xs) (bt_lt 8 xs) (8 * xs.length) p (to - fr)
    have HZ' := HZ.out
    generalize tkV (bt 8 xs) (8 * xs.length) p (to - fr) = T at *
    have hsh := fun W' => run_shl (P := Tryd.prog) T (64 - to) (by omega) (IntKind.i64.wrap (64 - (to : Int))) (by rw [IntKind.wrap_i64]; omega) W'
    have hxr := xor_u64 vl (T * 2 ^ (64 - to) % 18446744073709551616) hvl (Nat.mod_lt _ (by decide))
    rw [← HZ'] at hxr
    obtain ⟨Y, hY⟩ : ∃ Y : Int, Y = ((T * 2 ^ (64 - to) % 18446744073709551616 : Nat) : Int) := ⟨_, rfl⟩
    simp only [← hY] at hsh hxr
    clear hY HZ' HZ hTl HF HF2 hfo hvl HR2 HKW HX hyl
    go_region_with (first | (go_at_call 44; go_fit K44; rintro z w4 ⟨rfl, b4⟩; have e6 := bcell2 b4 d6; have e8 := bcell2 b4 d8; clear K44) | (go_at_call 38; go_fit (K38.out _ b4); rintro z w5 ⟨rfl, ⟨f6, f8, ff⟩, h5⟩; clear K38))
    all_goals
      have HFin : Hid (Rdr (w5.setCell ⟨B, 6, none⟩ (.int .u64 (Z : Nat))) B a0 xs ⟨tkP (8 * xs.length) p (to - fr), b || tkX (8 * xs.length) p (to - fr), n, tm, st, Z, fr, to⟩ ∧ Kp (fun k => k = B) w (w5.setCell ⟨B, 6, none⟩ (.int .u64 (Z : Nat)))) := ⟨⟨h5.out.1.src.set 6 (by decide) _, h5.out.1.tc.setV Z⟩, h5.out.2.trans (kpB_set _ _ _ _)⟩
      go_wp2
      go_ret
      exact ⟨rfl, HFin.out⟩
end Go.Proofs.YtedlmjieclaojaaDoor
