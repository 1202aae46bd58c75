/- The parser: escapes of signs. -/
import Derived.Test.YtajaadagejhllaaGreatDoorZa
namespace Go.Proofs.YtajaadagejhllaaGreatDoor
open Go.RowKit Go.Lib

/-- A sign of ASCII: no letter, no digit. -/
def pnR (r : Int) : Prop := 33 ≤ r ∧ r ≤ 126 ∧ (r < 48 ∨ 57 < r) ∧ (r < 65 ∨ 90 < r) ∧ (r < 97 ∨ 122 < r)
set_option maxRecDepth 100000 in
theorem markOf_no (r : Int) (w : World) (h : pnR r) : Calls Tryz.prog 136 #[.int .i32 r] w fun e w' => e = .returned (.int .i64 0) ∧ w' = w := by
  obtain ⟨h1, h2, h3, h4, h5⟩ := h
  have e1 : (r == 65) = false := by simp; omega
  have e2 : (r == 122) = false := by simp; omega
  have e3 : (r == 98) = false := by simp; omega
  have e4 : (r == 66) = false := by simp; omega
  clear h1 h2 h3 h4 h5
  go_enter Tryz.func136, Tryz.ntmps136
  go_wp2
  go_ret
  exact ⟨rfl, rfl⟩
set_option maxRecDepth 100000 in
theorem setOf_no (r : Int) (w : World) (h : pnR r) : Calls Tryz.prog 137 #[.int .i32 r] w fun e w' => e = .returned (.tuple #[.slice none 0 0, .bool false]) ∧ w' = w := by
  obtain ⟨h1, h2, h3, h4, h5⟩ := h
  have e1 : (r == 100) = false := by simp; omega
  have e2 : (r == 115) = false := by simp; omega
  have e3 : (r == 119) = false := by simp; omega
  have e4 : (r == 68) = false := by simp; omega
  have e5 : (r == 83) = false := by simp; omega
  have e6 : (r == 87) = false := by simp; omega
  clear h1 h2 h3 h4 h5
  go_enter Tryz.func137, Tryz.ntmps137
  go_wp2
  refine bodyPost_ret (v := .tuple #[.slice none 0 0, .bool false]) (by simp [results, Tryz.results137, go_sem]) rfl ?_
  exact ⟨rfl, rfl⟩
set_option maxRecDepth 100000 in
theorem isLetter_no (r : Int) (w : World) (h : pnR r) : Calls Tryz.prog 105 #[.int .i32 r] w fun e w' => e = .returned (.bool false) ∧ w' = w := by
  obtain ⟨h1, h2, h3, h4, h5⟩ := h
  by_cases a1 : 65 ≤ r
  · have a2 : ¬ r ≤ 90 := by omega
    by_cases a3 : 97 ≤ r
    · have a4 : ¬ r ≤ 122 := by omega
      clear h1 h2 h3 h4 h5
      go_enter Tryz.func105, Tryz.ntmps105
      go_wp2
      go_ret
      exact ⟨rfl, rfl⟩
    · clear h1 h2 h3 h4 h5
      go_enter Tryz.func105, Tryz.ntmps105
      go_wp2
      go_ret
      exact ⟨rfl, rfl⟩
  · have a3 : ¬ 97 ≤ r := by omega
    clear h1 h2 h3 h4 h5
    go_enter Tryz.func105, Tryz.ntmps105
    go_wp2
    go_ret
    exact ⟨rfl, rfl⟩
set_option maxRecDepth 100000 in
theorem isDigit_no (r : Int) (w : World) (h : pnR r) : Calls Tryz.prog 106 #[.int .i32 r] w fun e w' => e = .returned (.bool false) ∧ w' = w := by
  obtain ⟨h1, h2, h3, h4, h5⟩ := h
  by_cases a1 : 48 ≤ r
  · have a2 : ¬ r ≤ 57 := by omega
    clear h1 h2 h3 h4 h5
    go_enter Tryz.func106, Tryz.ntmps106
    go_wp2
    go_ret
    exact ⟨rfl, rfl⟩
  · clear h1 h2 h3 h4 h5
    go_enter Tryz.func106, Tryz.ntmps106
    go_wp2
    go_ret
    exact ⟨rfl, rfl⟩
set_option maxRecDepth 100000 in
set_option maxHeartbeats 1000000 in
theorem escaped_pn {S B : Nat} {v : Value} {a : Option Addr} {c : Nat} {R : List Int} {s : Ps} {w w1 : World} (h : Tk S B v a c R s w w1) (hS : S ≤ w.heap.size) (hat : s.p ≤ 4600) (r : Int) (hr : ahR R s.p = r) (hp : pnR r) :
    Calls Tryz.prog 138 #[.pointer (some ⟨B, 0, none⟩)] w1 fun e w' => e = .returned (.int .i32 r) ∧ Tk S B v a c R { s with p := s.p + 1 } w w' := by
  have HL : Hid (∀ W, Calls Tryz.prog 105 #[.int .i32 r] W fun e w' => e = .returned (.bool false) ∧ w' = W) := fun W => isLetter_no r W hp
  have HD : Hid (∀ W, Calls Tryz.prog 106 #[.int .i32 r] W fun e w' => e = .returned (.bool false) ∧ w' = W) := fun W => isDigit_no r W hp
  obtain ⟨h1, h2, h3, h4, h5⟩ := hp
  have k1 := take_tk h hS (by omega) (by rw [hr]; omega)
  rw [hr] at k1
  have e1 : (r == 97) = false := by simp; omega
  have e2 : (r == 102) = false := by simp; omega
  have e3 : (r == 116) = false := by simp; omega
  have e4 : (r == 110) = false := by simp; omega
  have e5 : (r == 114) = false := by simp; omega
  have e6 : (r == 118) = false := by simp; omega
  have e7 : (r == 120) = false := by simp; omega
  have e8 : (r == -1) = false := by simp; omega
  have e9 : ¬ 127 < r := by omega
  clear h1 h2 h3 h4 h5 h hr
  go_enter Tryz.func138, Tryz.ntmps138
  go_wp2_with fail
  go_fit k1
  rintro e w2 ⟨rfl, h2⟩
  have H2 : Hid _ := h2
  have k2 := HL.out w2
  have k3 := HD.out w2
  clear h2 k1
  go_wp2_with fail
  go_fit k2
  rintro e w3 ⟨rfl, rfl⟩
  go_wp2_with fail
  go_fit k3
  rintro e w4 ⟨rfl, rfl⟩
  go_wp2
  go_ret
  exact ⟨rfl, H2.out⟩
set_option maxRecDepth 100000 in
set_option maxHeartbeats 1000000 in
theorem escape_pn {S B : Nat} {v : Value} {a : Option Addr} {c : Nat} {R : List Int} {s : Ps} (hat : s.p ≤ 4600) (hf : s.fl = 0) (r : Int) (hr : ahR R s.p = r) (hp : pnR r) :
    Gv 117 S B v a c R s { s with p := s.p + 1 } (fun t => t = ltT r) := by
  intro w w1 hS h
  have hS1 : S ≤ w1.heap.size := Nat.le_trans hS h.2.size
  obtain ⟨h1, hS2, hG, hlt⟩ := h.1.box hS1 (ndX zN)
  have HK : Hid (Kp (Mv B v) w (w1.alloc (ndX zN))) := h.2.trans (Kp.of ((Below.refl _ w1).alloc (Nat.le_refl _) _))
  have hsz : w.heap.size ≤ w1.heap.size := h.2.size
  have k1 := ahead_tk (Tk.refl h1) hS2 0 (by omega) (by omega)
  rw [show ahR R (s.p + 0) = r from hr] at k1
  have HKM : Hid (∀ W, Calls Tryz.prog 136 #[.int .i32 r] W fun e w' => e = .returned (.int .i64 0) ∧ w' = W) := fun W => markOf_no r W hp
  have HKS : Hid (∀ W, Calls Tryz.prog 137 #[.int .i32 r] W fun e w' => e = .returned (.tuple #[.slice none 0 0, .bool false]) ∧ w' = W) := fun W => setOf_no r W hp
  clear h h1
  go_enter Tryz.func117, Tryz.ntmps117
  go_wp2_with fail
  go_fit k1
  rintro e w2 ⟨rfl, h2⟩
  have k2 := HKM.out w2
  clear k1
  go_wp2_with fail
  go_fit k2
  rintro e w2' ⟨rfl, rfl⟩
  have k3 := ahead_tk h2 hS2 0 (by omega) (by omega)
  rw [show ahR R (s.p + 0) = r from hr] at k3
  clear k2 h2
  go_wp2_with fail
  go_fit k3
  rintro e w3 ⟨rfl, h3⟩
  have k4 := HKS.out w3
  clear k3
  go_wp2_with fail
  go_fit k4
  rintro e w3' ⟨rfl, rfl⟩
  have k5 := escaped_pn h3 hS2 hat r hr hp
  clear k4 h3
  go_wp2_with fail
  go_fit k5
  rintro e w4 ⟨rfl, h4⟩
  have k6 := literal_any h4.1 hf r
  have H4 : Hid (Tk S B v a c R { s with p := s.p + 1 } (w1.alloc (ndX zN)) w4) := h4
  clear k5 h4
  go_wp2_with fail
  go_fit k6
  rintro e w5 ⟨rfl, b5⟩
  have h5 : Tk S B v a c R { s with p := s.p + 1 } (w1.alloc (ndX zN)) w5 := H4.out.below hS2 b5
  obtain ⟨cc, ff, hE, hN, hT⟩ := box_end hS hG hsz hlt HK.out h5 (lt_nw _ _ r)
  have HE : Hid (Cs (st9 w5 w1.heap.size (ltN r)) w1.heap.size 0 (ltN r)) := hE
  have HN : Hid (Nw w1.heap.size (st9 w5 w1.heap.size (ltN r)) (ltT r) ∧ Tk S B v a c R { s with p := s.p + 1 } w (st9 w5 w1.heap.size (ltN r))) := ⟨hN, hT⟩
  clear k6 b5 h5 hE hN hT
  obtain ⟨q0, q1, q2, q3, q4, q5, q6, q7, q8⟩ := cc
  simp only [Nat.zero_add] at q0 q1 q2 q3 q4 q5 q6 q7 q8
  go_wp2_with fail
  clear q0 q1 q2 q3 q4 q5 q6 q7 q8
  obtain ⟨q0, q1, q2, q3, q4, q5, q6, q7, q8⟩ := HE.out
  have HT := HN.out
  change bodyPost _ _ _ _ _ (st9 w5 w1.heap.size (ltN r))
  generalize (st9 w5 w1.heap.size (ltN r)) = W9 at *
  simp only [Nat.zero_add] at q0 q1 q2 q3 q4 q5 q6 q7 q8
  refine bodyPost_ret (v := ndV (ltN r)) (by simp [results, Tryz.results117, go_sem, q0, q1, q2, q3, q4, q5, q6, q7, q8]; try rfl) rfl ?_
  exact ⟨ltT r, rfl, rfl, HT.1, HT.2⟩
set_option maxRecDepth 100000 in
set_option maxHeartbeats 1000000 in
theorem single_esc {S B : Nat} {v : Value} {a : Option Addr} {c : Nat} {R : List Int} {s : Ps} (hat : s.p ≤ 4500) (hf : s.fl = 0) (h92 : ahR R s.p = 92) (r : Int) (hr : ahR R (s.p + 1) = r) (hp : pnR r) :
    Gv 99 S B v a c R s { s with p := s.p + 2 } (fun t => t = ltT r) := by
  intro w w1 hS h
  have hS1 : S ≤ w1.heap.size := Nat.le_trans hS h.2.size
  obtain ⟨h1, hS2, hG, hlt⟩ := h.1.box hS1 (ndX zN)
  have HK : Hid (Kp (Mv B v) w (w1.alloc (ndX zN))) := h.2.trans (Kp.of ((Below.refl _ w1).alloc (Nat.le_refl _) _))
  have hsz : w.heap.size ≤ w1.heap.size := h.2.size
  have k1 := take_tk (Tk.refl h1) hS2 (by omega) (by rw [h92]; decide)
  rw [h92] at k1
  clear h h1
  go_enter Tryz.func99, Tryz.ntmps99
  go_wp2_with fail
  go_fit k1
  rintro e w2 ⟨rfl, h2⟩
  have k2 := escape_pn (S := S) (B := B) (v := v) (a := a) (c := c) (R := R) (s := { s with p := s.p + 1 }) (by show s.p + 1 ≤ 4600; omega) hf r hr hp _ _ hS2 h2
  have hs22 : (w1.alloc (ndX zN)).heap.size ≤ w2.heap.size := h2.2.size
  clear k1 h2
  go_wp2_with fail
  go_fit k2
  rintro e w5 ⟨t, ht, rfl, hn5, h5⟩
  have HTT : Hid (t = ltT r) := ht
  clear ht
  have h5' : Tk S B v a c R { s with p := s.p + 2 } (w1.alloc (ndX zN)) w5 := h5
  obtain ⟨cc, ff, hE, hN, hT⟩ := box_end hS hG hsz hlt HK.out h5' (hn5.mono hs22)
  have HE : Hid (Cs (st9 w5 w1.heap.size (t [])) w1.heap.size 0 (t [])) := hE
  have HN : Hid (Nw w1.heap.size (st9 w5 w1.heap.size (t [])) t ∧ Tk S B v a c R { s with p := s.p + 2 } w (st9 w5 w1.heap.size (t []))) := ⟨hN, hT⟩
  clear k2 h5 h5' hE hN hT hn5
  obtain ⟨q0, q1, q2, q3, q4, q5, q6, q7, q8⟩ := cc
  simp only [Nat.zero_add] at q0 q1 q2 q3 q4 q5 q6 q7 q8
  go_wp2_with fail
  clear q0 q1 q2 q3 q4 q5 q6 q7 q8
  obtain ⟨q0, q1, q2, q3, q4, q5, q6, q7, q8⟩ := HE.out
  have HT := HN.out
  change bodyPost _ _ _ _ _ (st9 w5 w1.heap.size (t []))
  generalize (st9 w5 w1.heap.size (t [])) = W9 at *
  simp only [Nat.zero_add] at q0 q1 q2 q3 q4 q5 q6 q7 q8
  refine bodyPost_ret (v := ndV (t [])) (by simp [results, Tryz.results99, go_sem, q0, q1, q2, q3, q4, q5, q6, q7, q8]; try rfl) rfl ?_
  exact ⟨t, HTT.out, rfl, HT.1, HT.2⟩
end Go.Proofs.YtajaadagejhllaaGreatDoor
