/- A reader: takeFrame, takeValue. -/
import Derived.Test.YtedlmjieclaojaaDoorDb
namespace Go.Proofs.YtedlmjieclaojaaDoor
open Go.RowKit

theorem Src.brk {w : World} {B : Nat} {a0 : Option Addr} {xs : List Int} {p : Nat} {b : Bool} (h : Src w B a0 xs p b) : Src (w.setCell ⟨B, 2, none⟩ (.bool true)) B a0 xs p true := by
  obtain ⟨a, c, q0, q0'⟩ := h.c0
  exact ⟨⟨a, c, by rw [cell_off _ _ _ _ _ (by decide)]; exact q0, q0'⟩, by rw [cell_off _ _ _ _ _ (by decide)]; exact h.c1, same_c _ _ _ _ _ h.c2, fun i => by rw [World.frozen?_setCell]; exact h.fz i, h.le, h.im.kp ((Kp.refl (fun k => k = B) w).setCell (p := ⟨B, 2, none⟩) rfl _) h.nB, h.nB⟩
theorem Tc.low {w : World} {B o : Nat} {r : Trl} (h : Tc w B o r) (i : Nat) (hi : i < o) (u : Value) : Tc (w.setCell ⟨B, i, none⟩ u) B o r := h.of (fun j hj => cell_off _ _ _ _ _ (by omega))
set_option maxHeartbeats 2000000 in
set_option maxRecDepth 100000 in
theorem takeFrame_any (B : Nat) (a0 : Option Addr) (xs : List Int) (s : Rs) (w : World) (h : Rdr w B a0 xs s) (hx : By xs) :
    Calls Tryd.prog 59 #[.pointer (some ⟨B, 0, none⟩)] w fun e w' => e = .returned (.tuple #[]) ∧ Rdr w' B a0 xs (rdFr (bt 8 xs) (8 * xs.length) s) ∧ Kp (fun k => k = B) w w' := by
  obtain ⟨p, b, r⟩ := s
  have k1 := take_any B a0 xs p b 6 w h.src hx (by decide)
  have l1 := tkV_lt (bt 8 xs) (bt_lt 8 xs) (8 * xs.length) p 6
  have l2 := tkV_lt (bt 8 xs) (bt_lt 8 xs) (8 * xs.length) (tkP (8 * xs.length) p 6) 6
  have HR : Hid (Rdr w B a0 xs ⟨p, b, r⟩) := h
  have HX : Hid (By xs) := hx
  have HD : Hid (∀ F f, F = tkV (bt 8 xs) (8 * xs.length) p 6 → f = tkV (bt 8 xs) (8 * xs.length) (tkP (8 * xs.length) p 6) 6 → (64 < F + f + 1 → rdFr (bt 8 xs) (8 * xs.length) ⟨p, b, r⟩ = ⟨tkP (8 * xs.length) (tkP (8 * xs.length) p 6) 6, true, r⟩) ∧ (¬ 64 < F + f + 1 → rdFr (bt 8 xs) (8 * xs.length) ⟨p, b, r⟩ = ⟨tkP (8 * xs.length) (tkP (8 * xs.length) p 6) 6, (b || tkX (8 * xs.length) p 6) || tkX (8 * xs.length) (tkP (8 * xs.length) p 6) 6, { r with fr := F, to := F + f + 1 }⟩)) := fun F f hF hf => by
    subst hF hf
    unfold rdFr rdF1 rdF0
    exact ⟨fun h => by rw [if_pos h], fun h => by rw [if_neg h]⟩
  obtain ⟨F, hF⟩ : ∃ F, F = tkV (bt 8 xs) (8 * xs.length) p 6 := ⟨_, rfl⟩
  obtain ⟨f, hf⟩ : ∃ f, f = tkV (bt 8 xs) (8 * xs.length) (tkP (8 * xs.length) p 6) 6 := ⟨_, rfl⟩
  have HD' := HD.out F f hF hf
  have HFf : Hid (f = tkV (bt 8 xs) (8 * xs.length) (tkP (8 * xs.length) p 6) 6) := hf
  rw [← hF] at k1 l1
  rw [← hf] at l2
  generalize tkP (8 * xs.length) p 6 = p1 at *
  have w1' : IntKind.i64.wrap (F : Int) = F := by rw [IntKind.wrap_i64]; omega
  have w2' : IntKind.i64.wrap (f : Int) = f := by rw [IntKind.wrap_i64]; omega
  have w3' : IntKind.i64.wrap ((F : Int) + f) = F + f := by rw [IntKind.wrap_i64]; omega
  have w4' : IntKind.i64.wrap ((F : Int) + f + 1) = F + f + 1 := by rw [IntKind.wrap_i64]; omega
  clear HD hF hf h hx
  by_cases hbig : 64 < F + f + 1
  · rw [HD'.1 hbig]
    have hb' : (64 : Int) < (F : Int) + f + 1 := by omega
    clear HD' hbig
    go_enter Tryd.func59, Tryd.ntmps59
    go_wp2_with fail
    go_fit k1
    rintro e v1 ⟨rfl, s1, q1⟩
    have k2 := take_any B a0 xs p1 _ 6 v1 s1 HX.out (by decide)
    rw [← HFf.out] at k2
    clear k1
    go_wp2_with fail
    go_fit k2
    rintro e v2 ⟨rfl, s2, q2⟩
    have c2 := s2.c2
    have cf := s2.fz 2
    have HF : Hid (Rdr (v2.setCell ⟨B, 2, none⟩ (.bool true)) B a0 xs ⟨tkP (8 * xs.length) p1 6, true, r⟩ ∧ Kp (fun k => k = B) w (v2.setCell ⟨B, 2, none⟩ (.bool true))) := ⟨⟨s2.brk, ((HR.out.tc.of q1.rs).of q2.rs).low 2 (by decide) _⟩, (q1.kp.trans q2.kp).trans (kpB_set _ _ _ _)⟩
    clear k2 s1 s2 q1 q2 HR HFf
    go_wp2
    exact bodyPost_ret (v := .tuple #[]) (by simp [results, Tryd.results59, go_sem]) rfl ⟨rfl, HF.out⟩
  · rw [HD'.2 hbig]
    have hb' : ¬ (64 : Int) < (F : Int) + f + 1 := by omega
    clear HD' hbig
    go_enter Tryd.func59, Tryd.ntmps59
    go_wp2_with fail
    go_fit k1
    rintro e v1 ⟨rfl, s1, q1⟩
    have k2 := take_any B a0 xs p1 _ 6 v1 s1 HX.out (by decide)
    rw [← HFf.out] at k2
    clear k1
    go_wp2_with fail
    go_fit k2
    rintro e v2 ⟨rfl, s2, q2⟩
    have hT := (HR.out.tc.of q1.rs).of q2.rs
    have c7 := hT.c4
    have c8 := hT.c5
    have cf := s2.fz
    have HF : Hid (Rdr ((v2.setCell ⟨B, 7, none⟩ (.int .i64 (F : Nat))).setCell ⟨B, 8, none⟩ (.int .i64 ((F : Int) + f + 1))) B a0 xs ⟨tkP (8 * xs.length) p1 6, (b || tkX (8 * xs.length) p 6) || tkX (8 * xs.length) p1 6, { r with fr := F, to := F + f + 1 }⟩ ∧ Kp (fun k => k = B) w ((v2.setCell ⟨B, 7, none⟩ (.int .i64 (F : Nat))).setCell ⟨B, 8, none⟩ (.int .i64 ((F : Int) + f + 1)))) := by
      have e : (F : Int) + f + 1 = ((F + f + 1 : Nat) : Int) := by omega
      rw [e]
      exact ⟨⟨(s2.set 7 (by decide) _).set 8 (by decide) _, hT.setF F (F + f + 1)⟩, ((q1.kp.trans q2.kp).trans (kpB_set _ _ _ _)).trans (kpB_set _ _ _ _)⟩
    clear k2 s1 s2 q1 q2 HR HFf hT
    go_wp2
    go_end0
    exact ⟨rfl, HF.out⟩
end Go.Proofs.YtedlmjieclaojaaDoor
