/- The reference's reader: take, ones. -/
import Derived.Test.YtedlmjieclaojabDoorDb
namespace Go.Proofs.YtedlmjieclaojabDoor
open Go.RowKit

/-- The reference's reader in memory: the bytes, the place, whether it is bad. -/
structure Rq (w : World) (B : Nat) (a0 : Option Addr) (c : Nat) (xs : List Int) (p : Nat) (b : Bool) : Prop where
  c0 : ∃ aa, w.cell? ⟨B, 0, none⟩ = some (.slice aa xs.length c) ∧ (0 < xs.length → aa = a0)
  c1 : w.cell? ⟨B, 1, none⟩ = some (.int .i64 (p : Nat))
  c2 : w.cell? ⟨B, 2, none⟩ = some (.bool b)
  fz : ∀ i, w.frozen? ⟨B, i, none⟩ = false
  im : Im w a0 xs
  le : p ≤ 8 * xs.length
  nB : ∀ g o, a0 = some ⟨g, o, none⟩ → g ≠ B
section
variable {w w' : World} {B c : Nat} {a0 : Option Addr} {xs : List Int} {p : Nat} {b : Bool}
theorem Rq.lt (h : Rq w B a0 c xs p b) : B < w.heap.size := World.block_lt_of_cell? w _ h.c1
theorem Rq.kp {M : Nat → Prop} (h : Rq w B a0 c xs p b) (k : Kp M w w') (hB : ¬ M B) (hg : ∀ g o, a0 = some ⟨g, o, none⟩ → ¬ M g) : Rq w' B a0 c xs p b :=
  ⟨h.c0.imp fun _ e => ⟨k.cell e.1 hB, e.2⟩, k.cell h.c1 hB, k.cell h.c2 hB, fun i => by rw [World.frozen?_of_block (w := w) (k.block B h.lt hB)]; exact h.fz i, h.im.kp k hg, h.le, h.nB⟩
theorem Rq.below (h : Rq w B a0 c xs p b) (k : Below w.heap.size w w') : Rq w' B a0 c xs p b := h.kp (M := fun _ => False) (Kp.of k) id (fun _ _ _ => id)
theorem Rq.setP (h : Rq w B a0 c xs p b) (q : Nat) (hq : q ≤ 8 * xs.length) : Rq (w.setCell ⟨B, 1, none⟩ (.int .i64 (q : Nat))) B a0 c xs q b := by
  have k : Kp (fun k => k = B) w (w.setCell ⟨B, 1, none⟩ (.int .i64 (q : Nat))) := (Kp.refl (fun k => k = B) w).setCell (p := ⟨B, 1, none⟩) rfl _
  exact ⟨h.c0.imp fun _ e => ⟨by rw [cell_off _ _ _ _ _ (by omega)]; exact e.1, e.2⟩, World.cell?_setCell_same' _ _ _ (by rw [h.c1]; rfl), by rw [cell_off _ _ _ _ _ (by omega)]; exact h.c2, fun i => by rw [World.frozen?_setCell]; exact h.fz i, h.im.kp k (fun g o e => h.nB g o e), hq, h.nB⟩
theorem Rq.setB (h : Rq w B a0 c xs p b) (b2 : Bool) : Rq (w.setCell ⟨B, 2, none⟩ (.bool b2)) B a0 c xs p b2 := by
  have k : Kp (fun k => k = B) w (w.setCell ⟨B, 2, none⟩ (.bool b2)) := (Kp.refl (fun k => k = B) w).setCell (p := ⟨B, 2, none⟩) rfl _
  exact ⟨h.c0.imp fun _ e => ⟨by rw [cell_off _ _ _ _ _ (by omega)]; exact e.1, e.2⟩, by rw [cell_off _ _ _ _ _ (by omega)]; exact h.c1, World.cell?_setCell_same' _ _ _ (by rw [h.c2]; rfl), fun i => by rw [World.frozen?_setCell]; exact h.fz i, h.im.kp k (fun g o e => h.nB g o e), h.le, h.nB⟩
end
theorem kpB_one (w : World) (B i : Nat) (u : Value) : Kp (fun k => k = B) w (w.setCell ⟨B, i, none⟩ u) := (Kp.refl (fun k => k = B) w).setCell (p := ⟨B, i, none⟩) rfl _
theorem bit8 (xs : List Int) (hx : By xs) (q : Nat) (hq : q / 8 < xs.length) : bits BinOp.and IntKind.u8 (xs.getD (q / 8) 0 / 2 ^ (7 - q % 8)) 1 = ((bt 8 xs q : Nat) : Int) := by
  have hby := hx (q / 8) hq
  have hE : bt 8 xs q = (xs.getD (q / 8) 0).toNat / 2 ^ (7 - q % 8) % 2 := by unfold bt; rfl
  have hxn : ((xs.getD (q / 8) 0).toNat : Int) = xs.getD (q / 8) 0 := Int.toNat_of_nonneg hby.1
  have h1 : xs.getD (q / 8) 0 / 2 ^ (7 - q % 8) = (((xs.getD (q / 8) 0).toNat / 2 ^ (7 - q % 8) : Nat) : Int) := by
    rw [← hxn]; simp
  have h2 : (xs.getD (q / 8) 0).toNat / 2 ^ (7 - q % 8) ≤ (xs.getD (q / 8) 0).toNat := Nat.div_le_self _ _
  have h9 : (xs.getD (q / 8) 0).toNat / 2 ^ (7 - q % 8) ≤ 255 := by have := hby.2; omega
  have h3 := bits_mask .u8 8 (by decide) wraps_u8s 1 (by decide) (((xs.getD (q / 8) 0).toNat / 2 ^ (7 - q % 8) : Nat) : Int) (Int.natCast_nonneg _) (by
    generalize (xs.getD (q / 8) 0).toNat / 2 ^ (7 - q % 8) = Y at h9 ⊢
    omega)
  rw [h1, hE]
  have h4 : ((2 : Int) ^ 1 - 1) = 1 := by decide
  rw [h4] at h3
  rw [h3]
  omega
set_option maxHeartbeats 4000000 in
set_option maxRecDepth 100000 in
theorem rtake_any (B c : Nat) (a0 : Option Addr) (xs : List Int) (p : Nat) (b : Bool) (n : Nat) (w : World) (h : Rq w B a0 c xs p b) (hx : By xs) (hn : n ≤ 64) (hN : xs.length ≤ 140737488355328) :
    Calls Tryd.prog 27 #[.pointer (some ⟨B, 0, none⟩), .int .i64 (n : Nat)] w fun e w' => e = .returned (.int .u64 (tkV (bt 8 xs) (8 * xs.length) p n : Nat)) ∧ Rq w' B a0 c xs (tkP (8 * xs.length) p n) (b || tkX (8 * xs.length) p n) ∧ Kp (fun k => k = B) w w' := by
  have H0 : Hid (Rq w B a0 c xs p b) := h
  have HX : Hid (By xs) := hx
  have HFT : Hid (p + n ≤ 8 * xs.length → tkV (bt 8 xs) (8 * xs.length) p n = bv (bt 8 xs) p n ∧ tkP (8 * xs.length) p n = p + n ∧ tkX (8 * xs.length) p n = false) := fun h => ⟨by unfold tkV; rw [if_pos h], by unfold tkP; rw [if_pos h], by unfold tkX; exact decide_eq_false (by omega)⟩
  have HFB : Hid (¬ p + n ≤ 8 * xs.length → tkV (bt 8 xs) (8 * xs.length) p n = 0 ∧ tkP (8 * xs.length) p n = 8 * xs.length ∧ tkX (8 * xs.length) p n = true) := fun h => ⟨by unfold tkV; rw [if_neg h], by unfold tkP; rw [if_neg h], by unfold tkX; exact decide_eq_true (by omega)⟩
  have hNi : (xs.length : Int) ≤ 140737488355328 := by omega
  obtain ⟨K, hK⟩ : ∃ K, K = xs.length := ⟨_, rfl⟩
  have HK : Hid (K = xs.length) := hK
  rw [← hK] at hN hNi HFT HFB ⊢
  generalize tkV (bt 8 xs) (8 * K) p n = TV at *
  generalize tkP (8 * K) p n = TP at *
  generalize tkX (8 * K) p n = TX at *
  clear h hx hK
  go_enter Tryd.func27, Tryd.ntmps27
  go_wp2_with fail
  go_loopw [5, 6] (fun vv iv w' => ∃ i : Nat, i ≤ n ∧ iv = .int .i64 (i : Nat) ∧ vv = .int .u64 (bv (bt 8 xs) p i : Nat) ∧ Hid (p + i ≤ 8 * K) ∧ Hid (Rq w' B a0 c xs (p + i) b) ∧ Hid (Kp (fun k => k = B) w w')) (fun _ iv _ => n - (RowKit.intOf iv).toNat)
  case atStart => exact ⟨0, Nat.zero_le _, rfl, rfl, by have := H0.out.le; have := HK.out; show p + 0 ≤ _; omega, H0, Kp.refl _ _⟩
  case round =>
    obtain ⟨i, hi, rfl, rfl, hpi, hrq, hkp⟩ := hrel
    by_cases hlt : i < n
    · have hii : (i : Int) < (n : Int) := by omega
      obtain ⟨aa, c0, haa⟩ := hrq.out.c0
      rw [← HK.out] at c0
      have HAA : Hid (0 < xs.length → aa = a0) := haa
      clear haa
      have c1 := hrq.out.c1
      have c2 := hrq.out.c2
      have cf := hrq.out.fz
      have hP := hpi.out
      by_cases hend : p + i < 8 * K
      · have hd : (p + i) / 8 < xs.length := by have := HK.out; omega
        obtain ⟨g, o, ha, hg, hat⟩ : ∃ g o, a0 = some ⟨g, o, none⟩ ∧ g < wr.heap.size ∧ At wr g o xs := by
          rcases hrq.out.im with h | h
          · rw [h] at hd; simp at hd
          · exact h
        have hae : aa = some ⟨g, o, none⟩ := (HAA.out (by omega)).trans ha
        subst hae
        subst ha
        have x0 := hat ((p + i) / 8) hd
        have hbit := bit8 xs HX.out (p + i) hd
        have hbt : bt 8 xs (p + i) < 2 := bt_lt 8 xs (p + i)
        have hbv := bv_lt (bt 8 xs) (bt_lt 8 xs) p i
        have hor := or_u64 (bv (bt 8 xs) p i) (bt 8 xs (p + i)) i 1 hbv (by omega) (by omega) ((bv (bt 8 xs) p i : Nat) * 2) ((bt 8 xs (p + i) : Nat) : Int) (by rw [Int.pow_succ, Int.pow_zero, Int.one_mul]) rfl
        have hsu : bv (bt 8 xs) p i * 2 ^ 1 + bt 8 xs (p + i) = bv (bt 8 xs) p (i + 1) := by show _ = 2 * bv (bt 8 xs) p i + bt 8 xs (p + i); omega
        rw [hsu] at hor
        have wb : IntKind.u64.wrap ((bt 8 xs (p + i) : Nat) : Int) = ((bt 8 xs (p + i) : Nat) : Int) := by rw [IntKind.wrap_u64]; omega
        have hbi2 : bv (bt 8 xs) p i < 18446744073709551616 := Nat.lt_of_lt_of_le hbv (Nat.pow_le_pow_right (n := 2) (by decide) (show i ≤ 64 by omega))
        have hby := HX.out ((p + i) / 8) hd
        have HRN : Hid (∀ V, Below wr.heap.size wr V → Hid (Rq (V.setCell ⟨B, 1, none⟩ (.int .i64 ((p + (i + 1) : Nat) : Int))) B (some ⟨g, o, none⟩) c xs (p + (i + 1)) b) ∧ Hid (Kp (fun k => k = B) w (V.setCell ⟨B, 1, none⟩ (.int .i64 ((p + (i + 1) : Nat) : Int))))) := fun V hV => ⟨(hrq.out.below hV).setP (p + (i + 1)) (by have := HK.out; omega), (hkp.out.trans (Kp.of hV)).trans (kpB_one _ _ _ _)⟩
        have HPN : Hid (p + (i + 1) ≤ 8 * K) := by show _ ≤ _; omega
        obtain ⟨q, hq⟩ : ∃ q, q = p + i := ⟨_, rfl⟩
        have e1 : ((q : Int)).tdiv 8 = ((q / 8 : Nat) : Int) := by rw [Int.tdiv_eq_ediv_of_nonneg (by omega)]; omega
        have e2 : ((q : Int)).tmod 8 = ((q % 8 : Nat) : Int) := by rw [Int.tmod_eq_emod_of_nonneg (by omega)]; omega
        have e3 : (q : Int) / 8 = ((q / 8 : Nat) : Int) := by omega
        have e4 : (q : Int) % 8 = ((q % 8 : Nat) : Int) := by omega
        have e5 : IntKind.i64.wrap ((q / 8 : Nat) : Int) = ((q / 8 : Nat) : Int) := by rw [IntKind.wrap_i64]; omega
        have e6 : IntKind.i64.wrap ((q % 8 : Nat) : Int) = ((q % 8 : Nat) : Int) := by rw [IntKind.wrap_i64]; omega
        have e7 : (7 : Int) - ((q % 8 : Nat) : Int) = ((7 - q % 8 : Nat) : Int) := by omega
        have e8 : IntKind.i64.wrap ((7 - q % 8 : Nat) : Int) = ((7 - q % 8 : Nat) : Int) := by rw [IntKind.wrap_i64]; omega
        have e9 : IntKind.i64.wrap ((7 : Int) - ((q % 8 : Nat) : Int)) = ((7 - q % 8 : Nat) : Int) := by rw [IntKind.wrap_i64]; omega
        have e10 : ((q / 8 : Nat) : Int) < (K : Int) := by have := HK.out; omega
        have e11 : decide (((q / 8 : Nat) : Int) ≥ (K : Int)) = false := by simp; have := HK.out; omega
        have e12 : ((7 - q % 8 : Nat) : Int) < 8 := by omega
        have e13 : IntKind.i64.wrap ((q : Int) + 1) = ((p + (i + 1) : Nat) : Int) := by rw [IntKind.wrap_i64]; omega
        have e14 : (q : Int) + 1 = ((p + (i + 1) : Nat) : Int) := by omega
        have HQ : Hid (q = p + i) := hq
        rw [← hq] at c1 x0 hbit hbt hor wb hby
        obtain ⟨X, hX⟩ : ∃ X, X = xs.getD (q / 8) 0 := ⟨_, rfl⟩
        rw [← hX] at x0 hbit hby
        obtain ⟨VI, hVI⟩ : ∃ VI : Int, VI = (bv (bt 8 xs) p i : Nat) := ⟨_, rfl⟩
        obtain ⟨VN, hVN⟩ : ∃ VN : Int, VN = (bv (bt 8 xs) p (i + 1) : Nat) := ⟨_, rfl⟩
        have v0 : 0 ≤ VI := by omega
        have v1 : VI ≤ 18446744073709551615 := by omega
        have HVN : Hid (VN = (bv (bt 8 xs) p (i + 1) : Nat)) := hVN
        rw [← hVI] at hor ⊢
        rw [← hVN] at hor
        generalize bt 8 xs q = bb at *
        clear hat hd hend hbv hsu hbi2 hX hVI hVN hrq hkp hpi hP hq
        generalize q / 8 = d at *
        generalize q % 8 = m at *
        generalize 7 - m = r at *
        rw [wb] at hor
        go_wp2_with fail
        go_big_quiet (fail)
        have hb1 : Below wr.heap.size wr (wr.drewN nq) := bdrew (Below.refl _ _) nq
        replace c0 := bcell2 hb1 c0
        replace c1 := bcell2 hb1 c1
        replace x0 := bcell2 hb1 x0
        generalize wr.drewN nq = W1 at *
        go_wp2_with fail
        go_big_quiet (fail)
        have hb2 : Below W1.heap.size W1 (W1.drewN nq) := bdrew (Below.refl _ _) nq
        have hb3 : Below wr.heap.size wr (W1.drewN nq) := hb1.trans (hb2.mono hb1.size)
        replace c1 := bcell2 hb2 c1
        have cf2 : ∀ j, (W1.drewN nq).frozen? ⟨B, j, none⟩ = false := fun j => by rw [World.frozen?_of_block (w := wr) (hb3.block B (World.block_lt_of_cell? wr _ c2))]; exact cf j
        obtain ⟨h1, h2⟩ := HRN.out _ hb3
        clear hb1 hb2 hb3 c0 x0 HRN cf c2
        generalize W1.drewN nq = W2 at *
        go_wp2
        exact ⟨⟨i + 1, by omega, by go_num, by rw [HVN.out], HPN, h1, h2⟩, by simp [RowKit.intOf]; omega⟩
      · obtain ⟨f1, f2, f3⟩ := HFB.out (by omega)
        have hq8 : p + i = 8 * K := by omega
        have e1 : (((p + i : Nat) : Int)).tdiv 8 = (K : Int) := by rw [Int.tdiv_eq_ediv_of_nonneg (by omega)]; omega
        have e3 : ((p + i : Nat) : Int) / 8 = (K : Int) := by omega
        have e5 : IntKind.i64.wrap (K : Int) = (K : Int) := by rw [IntKind.wrap_i64]; omega
        have e11 : decide ((K : Int) ≥ (K : Int)) = true := by simp
        have HE : Hid (∀ V, Below wr.heap.size wr V → Rq (V.setCell ⟨B, 2, none⟩ (.bool true)) B a0 c xs TP (b || TX) ∧ Kp (fun k => k = B) w (V.setCell ⟨B, 2, none⟩ (.bool true))) := fun V hV => by
          rw [f2, f3, Bool.or_true]
          have := (hrq.out.below hV).setB true
          rw [hq8] at this
          exact ⟨this, (hkp.out.trans (Kp.of hV)).trans (kpB_one _ _ _ _)⟩
        have HTV : Hid (TV = 0) := f1
        generalize p + i = q at *
        clear f1 f2 f3 hq8 hrq hkp hpi hP hend
        go_wp2_with fail
        go_big_quiet (fail)
        have hb1 : Below wr.heap.size wr (wr.drewN nq) := bdrew (Below.refl _ _) nq
        have c2' := bcell2 hb1 c2
        have cf2 : ∀ j, (wr.drewN nq).frozen? ⟨B, j, none⟩ = false := fun j => by rw [World.frozen?_of_block (w := wr) (hb1.block B (World.block_lt_of_cell? wr _ c2))]; exact cf j
        have HE2 : Hid _ := HE.out _ hb1
        clear HE hb1 c0 c1 c2 cf
        generalize wr.drewN nq = W1 at *
        go_wp2
        go_ret
        exact ⟨by rw [HTV.out]; rfl, HE2.out⟩
    · have hii : ¬ (i : Int) < (n : Int) := by omega
      obtain rfl : i = n := by omega
      have hP := hpi.out
      obtain ⟨f1, f2, f3⟩ := HFT.out hP
      have HE : Hid (Rq wr B a0 c xs TP (b || TX) ∧ Kp (fun k => k = B) w wr) := by
        rw [f2, f3, Bool.or_false]
        exact ⟨hrq.out, hkp.out⟩
      have HTV : Hid (TV = bv (bt 8 xs) p i) := f1
      clear hrq hkp hP f1 f2 f3
      go_wp2
      go_ret
      exact ⟨by rw [HTV.out]; rfl, HE.out⟩
set_option maxHeartbeats 2000000 in
set_option maxRecDepth 100000 in
theorem ones_any (B c : Nat) (a0 : Option Addr) (xs : List Int) (p : Nat) (b : Bool) (n : Nat) (w : World) (h : Rq w B a0 c xs p b) (hx : By xs) (hn : n ≤ 64) (hN : xs.length ≤ 140737488355328) :
    Calls Tryd.prog 43 #[.pointer (some ⟨B, 0, none⟩), .int .i64 (n : Nat)] w fun e w' => e = .returned (.int .i64 ((wyF (bt 8 xs) (8 * xs.length) n p).1 : Nat)) ∧ Rq w' B a0 c xs (wyF (bt 8 xs) (8 * xs.length) n p).2.1 (b || (wyF (bt 8 xs) (8 * xs.length) n p).2.2) ∧ Kp (fun k => k = B) w w' := by
  have H0 : Hid (Rq w B a0 c xs p b) := h
  have HX : Hid (By xs) := hx
  have HN : Hid (xs.length ≤ 140737488355328) := hN
  generalize hwy : wyF (bt 8 xs) (8 * xs.length) n p = R at *
  have HR : Hid (R = wyF (bt 8 xs) (8 * xs.length) n p) := hwy.symm
  clear h hx hN hwy
  go_enter Tryd.func43, Tryd.ntmps43
  go_wp2_with fail
  go_loopw [5] (fun kv w' => ∃ k q : Nat, k ≤ n ∧ kv = .int .i64 (k : Nat) ∧ Hid (R = ((wyF (bt 8 xs) (8 * xs.length) (n - k) q).1 + k, (wyF (bt 8 xs) (8 * xs.length) (n - k) q).2)) ∧ Hid (Rq w' B a0 c xs q b) ∧ Hid (Kp (fun k => k = B) w w')) (fun kv _ => n - (RowKit.intOf kv).toNat)
  case atStart => exact ⟨0, p, Nat.zero_le _, rfl, HR.out, H0, Kp.refl _ _⟩
  case round =>
    obtain ⟨k, q, hk, rfl, hR, hq, hkp⟩ := hrel
    by_cases hlt : k < n
    · have hii : (k : Int) < (n : Int) := by omega
      have c1 := rtake_any B c a0 xs q b 1 wr hq.out HX.out (by decide) HN.out
      obtain ⟨m, hm⟩ : ∃ m, n - k = m + 1 := ⟨n - k - 1, by omega⟩
      have hm2 : n - (k + 1) = m := by omega
      have hR2 := hR.out
      rw [hm] at hR2
      unfold wyF at hR2
      by_cases hend : 8 * xs.length < q + 1
      · rw [if_pos hend] at hR2
        have t1 : tkV (bt 8 xs) (8 * xs.length) q 1 = 0 := by unfold tkV; rw [if_neg (by omega)]
        have t2 : tkP (8 * xs.length) q 1 = 8 * xs.length := by unfold tkP; rw [if_neg (by omega)]
        have t3 : tkX (8 * xs.length) q 1 = true := by unfold tkX; exact decide_eq_true (by omega)
        rw [t1, t2, t3] at c1
        have HR2 : Hid (R = (k, 8 * xs.length, true)) := by show _ = _; rw [hR2]; simp
        clear hR hR2 t1 t2 t3 hq
        go_wp2_with fail
        go_fit c1
        rintro e w1 ⟨rfl, h1, k1⟩
        have HE : Hid (Rq w1 B a0 c xs R.2.1 (b || R.2.2) ∧ Kp (fun k => k = B) w w1) := by
          rw [HR2.out]
          exact ⟨h1, hkp.out.trans k1⟩
        have HK1 : Hid (R.1 = k) := by show _ = _; rw [HR2.out]
        clear c1 h1 k1 HR2
        go_wp2
        go_ret
        exact ⟨by rw [HK1.out]; rfl, HE.out⟩
      · rw [if_neg hend] at hR2
        have t1 : tkV (bt 8 xs) (8 * xs.length) q 1 = bt 8 xs q := by
          unfold tkV
          rw [if_pos (by omega)]
          show 2 * 0 + bt 8 xs (q + 0) = _
          simp
        have t2 : tkP (8 * xs.length) q 1 = q + 1 := by unfold tkP; rw [if_pos (by omega)]
        have t3 : tkX (8 * xs.length) q 1 = false := by unfold tkX; exact decide_eq_false (by omega)
        rw [t1, t2, t3, Bool.or_false] at c1
        have hbt := bt_lt 8 xs q
        by_cases hb1 : bt 8 xs q = 1
        · rw [if_pos hb1] at hR2
          rw [hb1] at c1
          have HR2 : Hid (R = ((wyF (bt 8 xs) (8 * xs.length) (n - (k + 1)) (q + 1)).1 + (k + 1), (wyF (bt 8 xs) (8 * xs.length) (n - (k + 1)) (q + 1)).2)) := by
            show _ = _
            rw [hR2, hm2]
            simp only [Prod.mk.injEq, and_true]
            omega
          clear hR hR2 t1 t2 t3 hq hb1 hbt
          go_wp2_with fail
          go_fit c1
          rintro e w1 ⟨rfl, h1, k1⟩
          have HQ1 : Hid (Rq w1 B a0 c xs (q + 1) b) := h1
          have HK1 : Hid (Kp (fun k => k = B) w w1) := hkp.out.trans k1
          clear c1 h1 k1
          go_wp2
          exact ⟨⟨k + 1, q + 1, by omega, by go_num, HR2, HQ1, HK1⟩, by simp [RowKit.intOf]; omega⟩
        · rw [if_neg hb1] at hR2
          have hb0 : bt 8 xs q = 0 := by omega
          rw [hb0] at c1
          have HR2 : Hid (R = (k, q + 1, false)) := by show _ = _; rw [hR2]; simp
          clear hR hR2 t1 t2 t3 hq hb1 hb0 hbt
          go_wp2_with fail
          go_fit c1
          rintro e w1 ⟨rfl, h1, k1⟩
          have HE : Hid (Rq w1 B a0 c xs R.2.1 (b || R.2.2) ∧ Kp (fun k => k = B) w w1) := by
            rw [HR2.out, Bool.or_false]
            exact ⟨h1, hkp.out.trans k1⟩
          have HK1 : Hid (R.1 = k) := by show _ = _; rw [HR2.out]
          clear c1 h1 k1 HR2
          go_wp2
          go_ret
          exact ⟨by rw [HK1.out]; rfl, HE.out⟩
    · have hii : ¬ (k : Int) < (n : Int) := by omega
      have hR2 := hR.out
      rw [show n - k = 0 by omega] at hR2
      unfold wyF at hR2
      have HR2 : Hid (R = (k, q, false)) := by show _ = _; rw [hR2]; simp
      have HE : Hid (Rq wr B a0 c xs R.2.1 (b || R.2.2) ∧ Kp (fun k => k = B) w wr) := by
        rw [HR2.out, Bool.or_false]
        exact ⟨hq.out, hkp.out⟩
      have HK1 : Hid (R.1 = k) := by show _ = _; rw [HR2.out]
      clear hR hR2 HR2 hq hkp
      go_wp2
      go_ret
      exact ⟨by rw [HK1.out]; rfl, HE.out⟩
end Go.Proofs.YtedlmjieclaojabDoor
