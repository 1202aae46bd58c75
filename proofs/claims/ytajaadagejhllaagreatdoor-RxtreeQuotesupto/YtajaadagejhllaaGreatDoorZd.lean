/- The parser: a row of literals. -/
import Derived.Test.YtajaadagejhllaaGreatDoorZa
namespace Go.Proofs.YtajaadagejhllaaGreatDoor
open Go.RowKit Go.Lib

/-- A row of literals under way. -/
def AlR (S B : Nat) (v : Value) (a : Option Addr) (c : Nat) (R : List Int) (s : Ps) (x : Nat → Int) (W : World) (i : Nat) (row : Value) (w' : World) : Prop :=
  w'.ownsRow W.heap.size 25 9 row i (n9 (fun j => ltN (x j)) i) ∧ Tk S B v a c R s W w'
set_option maxRecDepth 100000 in
set_option maxHeartbeats 2000000 in
theorem alternative_row {S B : Nat} {v : Value} {a : Option Addr} {c : Nat} {R : List Int} (n : Nat) (P : Nat → Ps) (x : Nat → Int) (hn : n ≤ 4500) (hat : ∀ i, i ≤ n → (P i).p ≤ 4500)
    (hP : ∀ i, i < n → PiC S B v a c R (P i) (P (i + 1)) (fun t => t = ltT (x i))) (hR : ∀ i, i < n → ReC S B v a c R (P (i + 1)) (P (i + 1)) (fun t => t = ltT (x i)) (fun t => t = ltT (x i)))
    (hx : ∀ i, i < n → ¬ ahR R (P i).p = -1 ∧ seB R (P i).p [124] = false ∧ seB R (P i).p [41] = false) (he : ahR R (P n).p = -1) : Gv 63 S B v a c R (P 0) (P n) (RwT x n) := by
  intro w w1 hS h
  have hS1 : S ≤ w1.heap.size := Nat.le_trans hS h.2.size
  obtain ⟨h1, hS2, hG, hlt⟩ := h.1.box hS1 (ndX zN)
  have HK : Hid (Kp (Mv B v) w (w1.alloc (ndX zN))) := h.2.trans (Kp.of ((Below.refl _ w1).alloc (Nat.le_refl _) _))
  have hsz : w.heap.size ≤ w1.heap.size := h.2.size
  have HM : Hid (∀ k, Mv B v k → k < (w1.alloc (ndX zN)).heap.size) := fun k e => (h1.base k e).2
  have HR1 : Hid (AlR S B v a c R (P 0) x (w1.alloc (ndX zN)) 0 (.slice none 0 0) (w1.alloc (ndX zN))) := ⟨World.ownsRow_nil _ _ _ _, Tk.refl h1⟩
  clear h h1
  go_enter Tryz.func63, Tryz.ntmps63
  go_wp2_with fail
  generalize hW : w1.alloc (ndX zN) = W1 at *
  go_loopw [3] (fun row w' => ∃ i a' c', row = .slice a' i c' ∧ i ≤ n ∧ Hid (AlR S B v a c R (P i) x W1 i row w')) (fun row _ => n - slN row)
  case atStart => exact ⟨0, none, 0, rfl, Nat.zero_le _, by subst hW; exact HR1⟩
  case round =>
    obtain ⟨i, a', c', rfl, hi, HA⟩ := hrel
    have h6 := HA.out.2
    have hS6 : S ≤ wr.heap.size := Nat.le_trans hS2 h6.2.size
    have hW6 : W1.heap.size ≤ wr.heap.size := h6.2.size
    have hati := hat i hi
    by_cases hin : i < n
    · obtain ⟨x1, hs1, hs2⟩ := hx i hin
      obtain ⟨y, hy⟩ : ∃ y, y = ahR R (P i).p := ⟨_, rfl⟩
      have k1 := ahead_tk (Tk.refl h6.1) hS6 0 (by omega) (by omega)
      rw [show ahR R ((P i).p + 0) = y from hy.symm] at k1
      rw [← hy] at x1
      have e1 : (y != -1) = true := by simpa using x1
      clear h6
      go_wp2_with fail
      go_fit k1
      rintro e w2 ⟨rfl, h2⟩
      have k2 := sees_tk (x := ⟨#[124]⟩) h2 hS6 (by decide) (by omega)
      rw [show seB R (P i).p (ByteArray.mk #[124]).data.toList = false from hs1] at k2
      clear k1 h2
      go_wp2_with fail
      go_fit k2
      rintro e w3 ⟨rfl, h3⟩
      have k3 := sees_tk (x := ⟨#[41]⟩) h3 hS6 (by decide) (by omega)
      rw [show seB R (P i).p (ByteArray.mk #[41]).data.toList = false from hs2] at k3
      clear k2 h3
      go_wp2_with fail
      go_fit k3
      rintro e w4 ⟨rfl, h4⟩
      have k4 := hP i hin wr w4 hS6 h4
      have hs4 : wr.heap.size ≤ w4.heap.size := h4.2.size
      clear k3 h4
      go_wp2_with fail
      go_fit k4
      rintro e w5 ⟨t, g, ht, rfl, hc, hff, hg1, hg2, hz, h5⟩
      have k5 := hR i hin w5 t (fun k => w4.heap.size ≤ k ∧ k < g) (Nat.le_trans hS6 h5.2.size) h5.1 ht hz (fun k hk e => by have := HM.out k e; omega)
      have H5 : Hid (Tk S B v a c R (P (i + 1)) wr w5) := h5
      have HCg : Hid (Cs w5 g 0 (t [])) := hc
      obtain ⟨q0, q1, q2, q3, q4, q5, q6, q7, q8⟩ := hc
      simp only [Nat.zero_add] at q0 q1 q2 q3 q4 q5 q6 q7 q8
      clear k4 hz h5 ht
      go_wp2_with fail
      go_fit k5
      rintro e w6 ⟨t', ht', rfl, hz', h6⟩
      have hgM : ¬ Mv B v g := fun e => by have := HM.out g e; omega
      have cg : Cs w6 g 0 (t []) := HCg.out.kp h6.2 hgM
      have fg : ∀ i, w6.frozen? ⟨g, i, none⟩ = false := kp_ff h6.2 hgM hg2 hff
      have HT6 : Hid (Tk S B v a c R (P (i + 1)) wr w6) := Tk.trans H5.out h6
      have HCs : Hid (Cs (st9 w6 g (t' [])) g 0 (t' [])) := st9_cs _ cg
      have hlow := own_bd HA.out.1
      have hks := (st9_kp w6 g (t' [])).size
      have h2 := HT6.out.2.size
      have ho6 := (st9_kp w6 g (t' [])).row (HT6.out.2.row HA.out.1 (fun G e hM => by have := HM.out G hM; have := (hlow G e).1; omega)) (fun G e e' => by have := (hlow G e).2; omega)
      obtain ⟨G, cc, w7, r, ho, k7⟩ := append_nx (st9 w6 g (t' [])) W1.heap.size (.slice a' i c') i (fun j => ltN (x j)) g (t' []) (by omega) (by omega) ho6 HCs.out
      have HAl : Hid (AlR S B v a c R (P (i + 1)) x W1 (i + 1) (.slice (some ⟨G, 0, none⟩) (i + 1) cc) w7) := by
        refine ⟨?_, ?_⟩
        · have e : n9 (up (fun j => ltN (x j)) i (t' [])) (i + 1) = n9 (fun j => ltN (x j)) (i + 1) := n9_congr _ _ _ (fun j hj => by
            by_cases e : j = i
            · subst e; rw [up_same, ht']; rfl
            · rw [up_other _ _ _ _ e])
          rw [e] at ho
          exact ho
        · exact Tk.pastM (Tk.past (Tk.trans HA.out.2 HT6.out) hS2 (st9_kp _ _ _) hgM (by omega)) hS2 k7 (fun G' e hM => by have := HM.out G' hM; have := (hlow G' e).1; omega) (fun G' e => (hlow G' e).1)
      obtain ⟨p0, p1, p2, p3, p4, p5, p6, p7, p8⟩ := cg
      simp only [Nat.zero_add] at p0 p1 p2 p3 p4 p5 p6 p7 p8
      clear ht' k5 h6 hz' HCs ho k7 ho6 hlow hks h2 q0 q1 q2 q3 q4 q5 q6 q7 q8 HCg H5 HT6
      go_wp2_with (at_builtin; refine wpList_append_run rfl (.tmp 35) (.tmp 36) 23 23 rfl _ _ rfl rfl r ?_)
      exact ⟨⟨i + 1, _, _, rfl, by omega, HAl⟩, by show n - (i + 1) < n - i; omega⟩
    · obtain rfl : i = n := by omega
      have k1 := ahead_tk (Tk.refl h6.1) hS6 0 (by omega) (by omega)
      rw [show ahR R ((P i).p + 0) = -1 from he] at k1
      clear h6
      go_wp2_with fail
      go_fit k1
      rintro e w8 ⟨rfl, h8⟩
      have hlow := own_bd HA.out.1
      have ho8 := h8.2.row HA.out.1 (fun G e hM => by have := HM.out G hM; have := (hlow G e).1; omega)
      have k9 := joinedR x i W1.heap.size a' c' w8 (by omega) ho8
      have H8 : Hid (Tk S B v a c R (P i) W1 w8) := Tk.trans HA.out.2 h8
      clear k1 h8 HA ho8 hlow
      go_wp2_with fail
      go_fit k9
      rintro e w9 ⟨t, ht, rfl, hn9, b9⟩
      have HTT : Hid (RwT x i t) := ht
      clear ht
      subst hW
      obtain ⟨cb, ff, hE, hN, hT⟩ := box_end hS hG hsz hlt HK.out (H8.out.below hS2 b9) hn9
      have HE : Hid (Cs (st9 w9 w1.heap.size (t [])) w1.heap.size 0 (t [])) := hE
      have HN : Hid (Nw w1.heap.size (st9 w9 w1.heap.size (t [])) t ∧ Tk S B v a c R (P i) w (st9 w9 w1.heap.size (t []))) := ⟨hN, hT⟩
      clear k9 b9 hE hN hT H8 hn9
      obtain ⟨q0, q1, q2, q3, q4, q5, q6, q7, q8⟩ := cb
      simp only [Nat.zero_add] at q0 q1 q2 q3 q4 q5 q6 q7 q8
      go_wp2_with fail
      clear q0 q1 q2 q3 q4 q5 q6 q7 q8
      obtain ⟨q0, q1, q2, q3, q4, q5, q6, q7, q8⟩ := HE.out
      have HT := HN.out
      change bodyPost _ _ _ _ _ (st9 w9 w1.heap.size (t []))
      generalize (st9 w9 w1.heap.size (t [])) = W9 at *
      simp only [Nat.zero_add] at q0 q1 q2 q3 q4 q5 q6 q7 q8
      refine bodyPost_ret (v := ndV (t [])) (by simp [results, Tryz.results63, go_sem, q0, q1, q2, q3, q4, q5, q6, q7, q8]; try rfl) rfl ?_
      exact ⟨t, HTT.out, rfl, HT.1, HT.2⟩
end Go.Proofs.YtajaadagejhllaaGreatDoor
