/- A source is read: takeWay. A reader in memory: takeTime, takeFrame. -/
import Derived.Test.YtedlmjieclaojaaDoorDa
namespace Go.Proofs.YtedlmjieclaojaaDoor
open Go.RowKit

theorem bv_one (b : Nat → Nat) (p : Nat) : bv b p 1 = b p := by simp [bv]
theorem wyF_end (b : Nat → Nat) (N k p : Nat) (h : N < p + 1) : wyF b N (k + 1) p = (0, N, true) := by unfold wyF; rw [if_pos h]
theorem wyF_one (b : Nat → Nat) (N k p : Nat) (h : ¬ N < p + 1) (h1 : b p = 1) : wyF b N (k + 1) p = ((wyF b N k (p + 1)).1 + 1, (wyF b N k (p + 1)).2) := by
  conv => lhs; unfold wyF
  rw [if_neg h, if_pos h1]
theorem wyF_zero (b : Nat → Nat) (N k p : Nat) (h : ¬ N < p + 1) (h1 : ¬ b p = 1) : wyF b N (k + 1) p = (0, p + 1, false) := by unfold wyF; rw [if_neg h, if_neg h1]
set_option maxHeartbeats 2000000 in
set_option maxRecDepth 100000 in
theorem takeWay_any (B : Nat) (a0 : Option Addr) (xs : List Int) (p : Nat) (b : Bool) (last : Nat) (w : World) (h : Src w B a0 xs p b) (hx : By xs) (hn : last ≤ 4) :
    Calls Tryd.prog 58 #[.pointer (some ⟨B, 0, none⟩), .int .i64 (last : Nat)] w fun e w' => e = .returned (.int .i64 ((wyF (bt 8 xs) (8 * xs.length) last p).1 : Nat)) ∧ Src w' B a0 xs (wyF (bt 8 xs) (8 * xs.length) last p).2.1 (b || (wyF (bt 8 xs) (8 * xs.length) last p).2.2) ∧ Sk B w w' := by
  have H0 : Hid (Src w B a0 xs p b) := h
  have HX : Hid (By xs) := hx
  have hbl := bt_lt 8 xs
  obtain ⟨F, hF⟩ : ∃ F, F = wyF (bt 8 xs) (8 * xs.length) last p := ⟨_, rfl⟩
  have HF : Hid (F = wyF (bt 8 xs) (8 * xs.length) last p) := hF
  rw [← hF]
  clear h hx hF
  go_enter Tryd.func58, Tryd.ntmps58
  go_wp2_with fail
  go_loopw [5] (fun kv w' => ∃ i q : Nat, i + q = last ∧ kv = .int .i64 (i : Nat) ∧ Hid (Src w' B a0 xs (p + i) b) ∧ Hid (F = ((wyF (bt 8 xs) (8 * xs.length) q (p + i)).1 + i, (wyF (bt 8 xs) (8 * xs.length) q (p + i)).2)) ∧ Hid (Sk B w w')) (fun kv _ => last - (RowKit.intOf kv).toNat)
  case atStart => exact ⟨0, last, by omega, rfl, H0.out, HF.out, Sk.refl _ _⟩
  case round =>
    obtain ⟨i, q, hiq, rfl, hs, hf, hk⟩ := hrel
    cases q with
    | zero =>
      have hii : ¬ (i : Int) < (last : Int) := by omega
      have HR : Hid (Ending.returned (.int .i64 (i : Nat)) = .returned (.int .i64 (F.1 : Nat)) ∧ Src wr B a0 xs F.2.1 (b || F.2.2) ∧ Sk B w wr) := by
        rw [hf.out]
        refine ⟨by simp [wyF], ?_, hk.out⟩
        simp only [wyF, Bool.or_false]
        exact hs.out
      clear hs hf hk
      go_wp2
      go_ret
      exact HR.out
    | succ q =>
      have hii : (i : Int) < (last : Int) := by omega
      have k := take_any B a0 xs (p + i) b 1 wr hs.out HX.out (by decide)
      by_cases hend : 8 * xs.length < p + i + 1
      · have e1 : tkV (bt 8 xs) (8 * xs.length) (p + i) 1 = 0 := by unfold tkV; rw [if_neg (by omega)]
        have e2 : tkP (8 * xs.length) (p + i) 1 = 8 * xs.length := by unfold tkP; rw [if_neg (by omega)]
        have e3 : tkX (8 * xs.length) (p + i) 1 = true := by unfold tkX; exact decide_eq_true (by omega)
        rw [e1, e2, e3] at k
        have HE : Hid (F = (i, 8 * xs.length, true)) := by
          show _ = _
          rw [hf.out, wyF_end _ _ _ _ hend]
          simp
        clear e1 e2 e3 hf hs hend
        go_wp2_with fail
        go_fit k
        rintro e w1 ⟨rfl, s1, k1⟩
        have HR : Hid (Ending.returned (.int .i64 (i : Nat)) = .returned (.int .i64 (F.1 : Nat)) ∧ Src w1 B a0 xs F.2.1 (b || F.2.2) ∧ Sk B w w1) := by
          rw [HE.out]; exact ⟨rfl, s1, hk.out.trans k1⟩
        clear k s1 k1 hk HE
        go_wp2
        go_ret
        exact HR.out
      · have e1 : tkV (bt 8 xs) (8 * xs.length) (p + i) 1 = bt 8 xs (p + i) := by unfold tkV; rw [if_pos (by omega), bv_one]
        have e2 : tkP (8 * xs.length) (p + i) 1 = p + i + 1 := by unfold tkP; rw [if_pos (by omega)]
        have e3 : tkX (8 * xs.length) (p + i) 1 = false := by unfold tkX; exact decide_eq_false (by omega)
        rw [e1, e2, e3, Bool.or_false] at k
        by_cases h1 : bt 8 xs (p + i) = 1
        · rw [h1] at k
          have HE : Hid (F = ((wyF (bt 8 xs) (8 * xs.length) q (p + (i + 1))).1 + (i + 1), (wyF (bt 8 xs) (8 * xs.length) q (p + (i + 1))).2)) := by
            show _ = _
            rw [hf.out, wyF_one _ _ _ _ hend h1, Nat.add_assoc p i 1]
            simp only [Nat.add_assoc, Nat.add_comm 1 i]
          clear e1 e2 e3 hf hs hend h1
          go_wp2_with fail
          go_fit k
          rintro e w1 ⟨rfl, s1, k1⟩
          have HS1 : Hid (Src w1 B a0 xs (p + (i + 1)) b) := s1
          have HK1 : Hid _ := hk.out.trans k1
          clear k s1 k1 hk
          go_wp2
          exact ⟨⟨i + 1, q, by omega, by go_num, HS1, HE, HK1⟩, by simp [RowKit.intOf]; omega⟩
        · have h0 : bt 8 xs (p + i) = 0 := by have := hbl (p + i); omega
          rw [h0] at k
          have HE : Hid (F = (i, p + i + 1, false)) := by
            show _ = _
            rw [hf.out, wyF_zero _ _ _ _ hend h1]
            simp
          clear e1 e2 e3 hf hs hend h1 h0
          go_wp2_with fail
          go_fit k
          rintro e w1 ⟨rfl, s1, k1⟩
          have HR : Hid (Ending.returned (.int .i64 (i : Nat)) = .returned (.int .i64 (F.1 : Nat)) ∧ Src w1 B a0 xs F.2.1 (b || F.2.2) ∧ Sk B w w1) := by
            rw [HE.out]; exact ⟨rfl, by rw [Bool.or_false]; exact s1, hk.out.trans k1⟩
          clear k s1 k1 hk HE
          go_wp2
          go_ret
          exact HR.out

/-- A reader in the block B. -/
structure Rdr (w : World) (B : Nat) (a0 : Option Addr) (xs : List Int) (s : Rs) : Prop where
  src : Src w B a0 xs s.p s.b
  tc : Tc w B 3 s.r
theorem Rdr.below {w w' : World} {B : Nat} {a0 : Option Addr} {xs : List Int} {s : Rs} (h : Rdr w B a0 xs s) (b : Below w.heap.size w w') : Rdr w' B a0 xs s := ⟨h.src.below b, h.tc.below b⟩
theorem Rdr.take {w w' : World} {B : Nat} {a0 : Option Addr} {xs : List Int} {s : Rs} (h : Rdr w B a0 xs s) (k : Sk B w w') {p' : Nat} {b' : Bool} (s' : Src w' B a0 xs p' b') : Rdr w' B a0 xs ⟨p', b', s.r⟩ := ⟨s', h.tc.of k.rs⟩
theorem Src.set {w : World} {B : Nat} {a0 : Option Addr} {xs : List Int} {p : Nat} {b : Bool} (h : Src w B a0 xs p b) (i : Nat) (hi : 3 ≤ i) (u : Value) : Src (w.setCell ⟨B, i, none⟩ u) B a0 xs p b :=
  h.of ((Kp.refl (fun k => k = B) w).setCell (p := ⟨B, i, none⟩) rfl _) (fun j hj => cell_off _ _ _ _ _ (by omega)) (fun j => by rw [World.frozen?_setCell]; exact h.fz j)
theorem kpB_set (w : World) (B i : Nat) (u : Value) : Kp (fun k => k = B) w (w.setCell ⟨B, i, none⟩ u) := (Kp.refl (fun k => k = B) w).setCell (p := ⟨B, i, none⟩) rfl _
end Go.Proofs.YtedlmjieclaojaaDoor
