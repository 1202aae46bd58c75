/- A bundle of texts. -/
import Derived.Test.YtajaadagejhllaaGreatDoorBs22
/- The parser: expression of two alternatives. -/
namespace Go.Proofs.YtajaadagejhllaaGreatDoor
open Go.RowKit Go.Lib

def alT (g c : Nat) (t1 t2 : Tr) : Tr := topT (jnN 5 g 2 c) (fun j => if j = 0 then t1 else t2)
theorem own_one {S g : Nat} {w : World} {d : Nd} (h : w.heap[g]? = some (ndX d)) (hS : S ≤ g) : w.ownsRow S 25 9 (.slice (some ⟨g, 0, none⟩) 1 1) 1 (n9 (fun _ => d) 1) := by
  refine ⟨by rw [n9_len], .inr ⟨g, 1, _, rfl, hS, h, Nat.le_refl _, by decide, rfl, ?_⟩⟩
  rw [n9_succ]
  rfl
/-- Two alternatives, under way. -/
def Ex2 (S B : Nat) (v : Value) (a : Option Addr) (c : Nat) (R : List Int) (s : Ps) (T1 T2 : Tr → Prop) (W : World) (row : Value) (w' : World) : Prop :=
  ∃ t1 t2 G cc, row = .slice (some ⟨G, 0, none⟩) 2 cc ∧ T1 t1 ∧ T2 t2 ∧ Cs w' G 0 (t1 []) ∧ Cs w' G 9 (t2 []) ∧ G < w'.heap.size ∧ W.heap.size ≤ G ∧ 2 ≤ cc ∧ Nw W.heap.size w' t1 ∧ Nw W.heap.size w' t2 ∧ Tk S B v a c R s W w'
theorem al_nw {n G cc : Nat} {w : World} {t1 t2 : Tr} (h1 : Cs w G 0 (t1 [])) (h2 : Cs w G 9 (t2 [])) (hl : G < w.heap.size) (hn : n ≤ G) (hc : 2 ≤ cc) (n1 : Nw n w t1) (n2 : Nw n w t2) : Nw n w (alT G cc t1 t2) := by
  refine topT_z ⟨by show 0 * 8 ≤ 140737488351232; decide, by show 2 * 8 ≤ 140737488351232; decide, by show (0 : Nat) ≤ 140737488351232; decide, hc⟩ (.inl rfl) (.inr ⟨G, 0, rfl, ⟨hn, hl⟩, fun j hj => ?_⟩) (fun j hj => ?_)
  · have hj2 : j < 2 := hj
    by_cases e : j = 0
    · subst e; exact h1
    · have : j = 1 := by omega
      subst this; exact h2
  · by_cases e : j = 0
    · subst e; exact n1
    · show Tz _ _ (if j = 0 then t1 else t2)
      rw [if_neg e]; exact n2
set_option maxRecDepth 100000 in
set_option maxHeartbeats 2000000 in
theorem expression_two {S B : Nat} {v : Value} {a : Option Addr} {c : Nat} {R : List Int} {s s1 s2 : Ps} {T1 T2 : Tr → Prop} (hat1 : s1.p ≤ 4000) (hat2 : s2.p ≤ 4000) (hA : Gv 63 S B v a c R s s1 T1) (hA2 : Gv 63 S B v a c R { s1 with p := s1.p + 1 } s2 T2) (hs1 : seB R s1.p [124] = true) (hs2 : seB R s2.p [124] = false) :
    Gv 46 S B v a c R s s2 (fun t => ∃ g cc t1 t2, T1 t1 ∧ T2 t2 ∧ t = alT g cc t1 t2) := by
  intro w w1 hS h
  have hS1 : S ≤ w1.heap.size := Nat.le_trans hS h.2.size
  obtain ⟨h1, hS2, hG, hlt⟩ := h.1.box hS1 (ndX zN)
  have HK : Hid (Kp (Mv B v) w (w1.alloc (ndX zN))) := h.2.trans (Kp.of ((Below.refl _ w1).alloc (Nat.le_refl _) _))
  have hsz : w.heap.size ≤ w1.heap.size := h.2.size
  have HM : Hid (∀ k, Mv B v k → k < (w1.alloc (ndX zN)).heap.size) := fun k e => (h1.base k e).2
  have k1 := hA _ _ hS2 (Tk.refl h1)
  clear h h1
  go_enter Tryz.func46, Tryz.ntmps46
  go_wp2_with fail
  go_fit k1
  rintro e w2 ⟨t1, ht1, rfl, hn1, h2⟩
  clear k1
  generalize hW : w1.alloc (ndX zN) = W1 at *
  have hs2W : W1.heap.size ≤ w2.heap.size := h2.2.size
  have b3 : Below w2.heap.size w2 (w2.alloc (ndX (t1 []))) := (Below.refl _ _).alloc (Nat.le_refl _) _
  have H3 : Hid (Tk S B v a c R s1 W1 (w2.alloc (ndX (t1 [])))) := h2.below hS2 b3
  have HN3 : Hid (Tz (fun k => W1.heap.size ≤ k ∧ k < w2.heap.size) (w2.alloc (ndX (t1 []))) t1) := Tz.kp hn1 (Kp.of (M := fun _ => False) b3) (fun _ _ => id)
  have HB3 : Hid ((w2.alloc (ndX (t1 []))).heap[w2.heap.size]? = some (ndX (t1 []))) := heap_alloc_new w2 _
  have hl3 : w2.heap.size < (w2.alloc (ndX (t1 []))).heap.size := by simp
  clear h2 b3 hn1
  go_wp2_with fail
  generalize hW3 : w2.alloc (ndX (t1 [])) = W3 at *
  go_loopw [3] (fun row w' => (row = .slice (some ⟨w2.heap.size, 0, none⟩) 1 1 ∧ w' = W3) ∨ Hid (Ex2 S B v a c R s2 T1 T2 W1 row w')) (fun row _ => 2 - slN row)
  case atStart => exact .inl ⟨rfl, rfl⟩
  case round =>
    rcases hrel with ⟨rfl, rfl⟩ | HA
    · have k2 := takes_yes (x := ⟨#[124]⟩) (Tk.refl H3.out.1) (Nat.le_trans hS2 H3.out.2.size) (by decide) (by omega) hs1
      have hS3 : S ≤ wr.heap.size := Nat.le_trans hS2 H3.out.2.size
      go_wp2_with fail
      go_fit k2
      rintro e w4 ⟨rfl, h4⟩
      have k3 := hA2 wr w4 hS3 h4
      have hs34 : wr.heap.size ≤ w4.heap.size := h4.2.size
      clear k2 h4
      go_wp2_with fail
      go_fit k3
      rintro e w5 ⟨t2, ht2, rfl, hn2, h5⟩
      have hGM : ¬ Mv B v w2.heap.size := fun e => by have := HM.out _ e; omega
      have hb5 : w5.heap[w2.heap.size]? = some (ndX (t1 [])) := (h5.2.block _ hl3 hGM).trans HB3.out
      have hs5 : wr.heap.size ≤ w5.heap.size := h5.2.size
      have n15 : Tz (fun k => W1.heap.size ≤ k ∧ k < w2.heap.size) w5 t1 := HN3.out.kp h5.2 (fun k hk e => by have := HM.out k e; omega)
      have h5' : Tk S B v a c R s2 W1 w5 := Tk.trans H3.out h5
      obtain ⟨G, cc, w6, r, ho, k6, hG6⟩ := append_9 w5 W1.heap.size (.slice (some ⟨w2.heap.size, 0, none⟩) 1 1) 1 (fun _ => t1 []) (t2 []) (by omega) (by decide) (own_one hb5 hs2W)
      have HAl : Hid (Ex2 S B v a c R s2 T1 T2 W1 (.slice (some ⟨G, 0, none⟩) 2 cc) w6) := by
        obtain ⟨a', c', e', hcc, hkz⟩ := row_kz ho
        cases e'
        have hGl : G < w6.heap.size := by
          rcases ho.2 with ⟨_, h0⟩ | ⟨g', _, _, e', _, hh, _⟩
          · omega
          · cases e'
            exact (Array.getElem?_eq_some_iff.1 hh).1
        have hWG : W1.heap.size ≤ G := by
          rcases ho.2 with ⟨_, h0⟩ | ⟨g', _, _, e', hh, _⟩
          · omega
          · cases e'
            exact hh
        rcases hkz with h0 | ⟨g', o, e', _, hcs⟩
        · omega
        · cases e'
          have hk6 := k6.size
          have how : (Value.slice (some ⟨w2.heap.size, 0, none⟩) 1 1).ownBlock = some w2.heap.size := rfl
          have z1 : Tz (fun k => W1.heap.size ≤ k ∧ k < w2.heap.size) w6 t1 := n15.kp k6 (fun k hk e => by rw [how] at e; have := Option.some.inj e; omega)
          have z2 : Tz (fun k => w4.heap.size ≤ k ∧ k < w5.heap.size) w6 t2 := Tz.kp hn2 k6 (fun k hk e => by rw [how] at e; have := Option.some.inj e; omega)
          refine ⟨t1, t2, G, cc, rfl, ht1, ht2, ?_, ?_, hGl, hWG, hcc, z1.mono (fun k hk => by omega), z2.mono (fun k hk => by omega), Tk.past h5' hS2 (k6.mono (N := fun k => k = w2.heap.size) (fun k _ e => by rw [how] at e; exact (Option.some.inj e).symm)) hGM hs2W⟩
          · exact hcs 0 (by omega)
          · exact hcs 1 (by omega)
      clear k3 hn2 h5 h5' n15 hb5 ho k6 hG6
      go_wp2_with (at_builtin; refine wpList_append_run rfl (.tmp 9) (.tmp 12) 23 23 rfl _ _ rfl rfl r ?_)
      exact ⟨.inr HAl, by show 2 - 2 < 2 - 1; decide⟩
    · obtain ⟨t1', t2, G, cc, rfl, ht1', ht2, c1, c2, hGl, hG1, hcc, n1, n2, h6⟩ := HA.out
      clear HN3 HB3 H3 hW3
      have hS6 : S ≤ wr.heap.size := Nat.le_trans hS2 h6.2.size
      have k7 := takes_no (x := ⟨#[124]⟩) (Tk.refl h6.1) hS6 (by decide) (by omega) hs2
      go_wp2_with fail
      go_fit k7
      rintro e w8 ⟨rfl, h8⟩
      have k9 := joined2 5 G cc w8
      have H8 : Hid (Tk S B v a c R s2 W1 w8) := Tk.trans h6 h8
      have HN8 : Hid (Nw W1.heap.size w8 (alT G cc t1' t2)) := (al_nw c1 c2 hGl hG1 hcc n1 n2).kp h8.2 (fun k hk _ e => by have := HM.out k e; omega)
      clear k7 h8 c1 c2 n1 n2 h6 HA
      go_wp2_with fail
      go_fit k9
      rintro e w9 ⟨rfl, b9⟩
      subst hW
      obtain ⟨cb, ff, hE, hN, hT⟩ := box_end hS hG hsz hlt HK.out (H8.out.below hS2 b9) (HN8.out.below b9)
      have HE : Hid (Cs (st9 w9 w1.heap.size (jnN 5 G 2 cc)) w1.heap.size 0 (jnN 5 G 2 cc)) := hE
      have HN : Hid (Nw w1.heap.size (st9 w9 w1.heap.size (jnN 5 G 2 cc)) (alT G cc t1' t2) ∧ Tk S B v a c R s2 w (st9 w9 w1.heap.size (jnN 5 G 2 cc))) := ⟨hN, hT⟩
      clear k9 b9 hE hN hT H8 HN8
      obtain ⟨q0, q1, q2, q3, q4, q5, q6, q7, q8⟩ := cb
      simp only [Nat.zero_add] at q0 q1 q2 q3 q4 q5 q6 q7 q8
      go_wp2_with fail
      clear q0 q1 q2 q3 q4 q5 q6 q7 q8
      obtain ⟨q0, q1, q2, q3, q4, q5, q6, q7, q8⟩ := HE.out
      have HT := HN.out
      change bodyPost _ _ _ _ _ (st9 w9 w1.heap.size (jnN 5 G 2 cc))
      generalize (st9 w9 w1.heap.size (jnN 5 G 2 cc)) = W9 at *
      simp only [Nat.zero_add] at q0 q1 q2 q3 q4 q5 q6 q7 q8
      refine bodyPost_ret (v := ndV (jnN 5 G 2 cc)) (by simp [results, Tryz.results46, go_sem, q0, q1, q2, q3, q4, q5, q6, q7, q8]; try rfl) rfl ?_
      exact ⟨alT G cc t1' t2, ⟨G, cc, t1', t2, ht1', ht2, rfl⟩, rfl, HT.1, HT.2⟩
end Go.Proofs.YtajaadagejhllaaGreatDoor
/- The parser: alternatives of nothing; expression of one alternative. -/
namespace Go.Proofs.YtajaadagejhllaaGreatDoor
open Go.RowKit Go.Lib

def emT : Tr := topT emN (fun _ _ => nd0)
theorem em_nw (n : Nat) (w : World) : Nw n w emT :=
  topT_z ⟨by show 0 * 8 ≤ 140737488351232; decide, by show 0 * 8 ≤ 140737488351232; decide, by show (0 : Nat) ≤ 140737488351232; decide, by show 0 ≤ 0; decide⟩ (.inl rfl) (.inl rfl) (fun j hj => absurd hj (Nat.not_lt_zero _))
set_option maxRecDepth 100000 in
set_option maxHeartbeats 2000000 in
theorem alternative_none {S B : Nat} {v : Value} {a : Option Addr} {c : Nat} {R : List Int} {s : Ps} (hat : s.p ≤ 4000) (hx : ahR R s.p = -1) : Gv 63 S B v a c R s s (fun t => t = emT) := by
  intro w w1 hS h
  have hS1 : S ≤ w1.heap.size := Nat.le_trans hS h.2.size
  obtain ⟨h1, hS2, hG, hlt⟩ := h.1.box hS1 (ndX zN)
  have HK : Hid (Kp (Mv B v) w (w1.alloc (ndX zN))) := h.2.trans (Kp.of ((Below.refl _ w1).alloc (Nat.le_refl _) _))
  have hsz : w.heap.size ≤ w1.heap.size := h.2.size
  have HR1 : Hid (Rd S (w1.alloc (ndX zN)) B v a c R s) := h1
  clear h h1
  go_enter Tryz.func63, Tryz.ntmps63
  go_wp2_with fail
  generalize hW : w1.alloc (ndX zN) = W1 at *
  go_loopw [3] (fun row w' => row = .slice none 0 0 ∧ w' = W1) (fun _ _ => 0)
  case atStart => exact ⟨rfl, hW⟩
  case round =>
    obtain ⟨rfl, rfl⟩ := hrel
    have k1 := ahead_tk (Tk.refl HR1.out) hS2 0 (by omega) (by omega)
    rw [show ahR R (s.p + 0) = -1 from hx] at k1
    go_wp2_with fail
    go_fit k1
    rintro e w8 ⟨rfl, h8⟩
    have k9 := joined0 4 w8
    have H8 : Hid (Tk S B v a c R s wr w8) := h8
    clear k1 h8
    go_wp2_with fail
    go_fit k9
    rintro e w9 ⟨rfl, b9⟩
    subst hW
    obtain ⟨cb, ff, hE, hN, hT⟩ := box_end hS hG hsz hlt HK.out (H8.out.below hS2 b9) (em_nw _ _)
    have HE : Hid (Cs (st9 w9 w1.heap.size emN) w1.heap.size 0 emN) := hE
    have HN : Hid (Nw w1.heap.size (st9 w9 w1.heap.size emN) emT ∧ Tk S B v a c R s w (st9 w9 w1.heap.size emN)) := ⟨hN, hT⟩
    clear k9 b9 hE hN hT H8
    obtain ⟨q0, q1, q2, q3, q4, q5, q6, q7, q8⟩ := cb
    simp only [Nat.zero_add] at q0 q1 q2 q3 q4 q5 q6 q7 q8
    go_wp2_with fail
    clear q0 q1 q2 q3 q4 q5 q6 q7 q8
    obtain ⟨q0, q1, q2, q3, q4, q5, q6, q7, q8⟩ := HE.out
    have HT := HN.out
    change bodyPost _ _ _ _ _ (st9 w9 w1.heap.size emN)
    generalize (st9 w9 w1.heap.size emN) = W9 at *
    simp only [Nat.zero_add] at q0 q1 q2 q3 q4 q5 q6 q7 q8
    refine bodyPost_ret (v := ndV emN) (by simp [results, Tryz.results63, go_sem, q0, q1, q2, q3, q4, q5, q6, q7, q8]; try rfl) rfl ?_
    exact ⟨emT, rfl, rfl, HT.1, HT.2⟩
set_option maxRecDepth 100000 in
set_option maxHeartbeats 2000000 in
theorem expression_one {S B : Nat} {v : Value} {a : Option Addr} {c : Nat} {R : List Int} {s s1 : Ps} {T : Tr → Prop} (hat1 : s1.p ≤ 4000) (hA : Gv 63 S B v a c R s s1 T) (hs1 : seB R s1.p [124] = false) :
    Gv 46 S B v a c R s s1 T := by
  intro w w1 hS h
  have hS1 : S ≤ w1.heap.size := Nat.le_trans hS h.2.size
  obtain ⟨h1, hS2, hG, hlt⟩ := h.1.box hS1 (ndX zN)
  have HK : Hid (Kp (Mv B v) w (w1.alloc (ndX zN))) := h.2.trans (Kp.of ((Below.refl _ w1).alloc (Nat.le_refl _) _))
  have hsz : w.heap.size ≤ w1.heap.size := h.2.size
  have HM : Hid (∀ k, Mv B v k → k < (w1.alloc (ndX zN)).heap.size) := fun k e => (h1.base k e).2
  have k1 := hA _ _ hS2 (Tk.refl h1)
  clear h h1
  go_enter Tryz.func46, Tryz.ntmps46
  go_wp2_with fail
  go_fit k1
  rintro e w2 ⟨t1, ht1, rfl, hn1, h2⟩
  clear k1
  generalize hW : w1.alloc (ndX zN) = W1 at *
  have hs2W : W1.heap.size ≤ w2.heap.size := h2.2.size
  have b3 : Below w2.heap.size w2 (w2.alloc (ndX (t1 []))) := (Below.refl _ _).alloc (Nat.le_refl _) _
  have H3 : Hid (Tk S B v a c R s1 W1 (w2.alloc (ndX (t1 [])))) := h2.below hS2 b3
  have HN3 : Hid (Nw W1.heap.size (w2.alloc (ndX (t1 []))) t1) := hn1.below b3
  have HC3 : Hid (Cs (w2.alloc (ndX (t1 []))) w2.heap.size 0 (t1 [])) := cells_ndX _
  have hl3 : w2.heap.size < (w2.alloc (ndX (t1 []))).heap.size := by simp
  clear h2 b3 hn1
  go_wp2_with fail
  generalize hW3 : w2.alloc (ndX (t1 [])) = W3 at *
  go_loopw [3] (fun row w' => row = .slice (some ⟨w2.heap.size, 0, none⟩) 1 1 ∧ w' = W3) (fun _ _ => 0)
  case atStart => exact ⟨rfl, rfl⟩
  case round =>
    obtain ⟨rfl, rfl⟩ := hrel
    have hS3 : S ≤ wr.heap.size := Nat.le_trans hS2 H3.out.2.size
    have k7 := takes_no (x := ⟨#[124]⟩) (Tk.refl H3.out.1) hS3 (by decide) (by omega) hs1
    go_wp2_with fail
    go_fit k7
    rintro e w8 ⟨rfl, h8⟩
    have k9 := joined1 5 w2.heap.size 1 (t1 []) w8 (Nat.lt_of_lt_of_le hl3 h8.2.size) (HC3.out.kp h8.2 (fun e => by have := HM.out _ e; omega))
    have H8 : Hid (Tk S B v a c R s1 W1 w8) := Tk.trans H3.out h8
    have HN8 : Hid (Nw W1.heap.size w8 t1) := HN3.out.kp h8.2 (fun k hk _ e => by have := HM.out k e; omega)
    clear k7 h8 HC3 HN3 H3 hW3
    go_wp2_with fail
    go_fit k9
    rintro e w9 ⟨rfl, b9⟩
    subst hW
    obtain ⟨cb, ff, hE, hN, hT⟩ := box_end hS hG hsz hlt HK.out (H8.out.below hS2 b9) (HN8.out.below b9)
    have HE : Hid (Cs (st9 w9 w1.heap.size (t1 [])) w1.heap.size 0 (t1 [])) := hE
    have HN : Hid (Nw w1.heap.size (st9 w9 w1.heap.size (t1 [])) t1 ∧ Tk S B v a c R s1 w (st9 w9 w1.heap.size (t1 []))) := ⟨hN, hT⟩
    clear k9 b9 hE hN hT H8 HN8
    obtain ⟨q0, q1, q2, q3, q4, q5, q6, q7, q8⟩ := cb
    simp only [Nat.zero_add] at q0 q1 q2 q3 q4 q5 q6 q7 q8
    go_wp2_with fail
    clear q0 q1 q2 q3 q4 q5 q6 q7 q8
    obtain ⟨q0, q1, q2, q3, q4, q5, q6, q7, q8⟩ := HE.out
    have HT := HN.out
    change bodyPost _ _ _ _ _ (st9 w9 w1.heap.size (t1 []))
    generalize (st9 w9 w1.heap.size (t1 [])) = W9 at *
    simp only [Nat.zero_add] at q0 q1 q2 q3 q4 q5 q6 q7 q8
    refine bodyPost_ret (v := ndV (t1 [])) (by simp [results, Tryz.results46, go_sem, q0, q1, q2, q3, q4, q5, q6, q7, q8]; try rfl) rfl ?_
    exact ⟨t1, ht1, rfl, HT.1, HT.2⟩
end Go.Proofs.YtajaadagejhllaaGreatDoor
/- The parser: a group that opens. -/
namespace Go.Proofs.YtajaadagejhllaaGreatDoor
open Go.RowKit Go.Lib

def grN : Nd := ⟨7, 0, none, 0, 0, fun _ => (0, 0), 0, 0, false, 1, ⟨#[]⟩, none, 0, 0⟩
/-- A reader goes on, with whatever names. -/
def Tj (S B : Nat) (a : Option Addr) (c : Nat) (R : List Int) (p : Nat) (w w' : World) : Prop := ∃ v s, Rd S w' B v a c R s ∧ s.p = p ∧ s.fl = 0 ∧ (∀ g, v.ownBlock = some g → w.heap.size ≤ g) ∧ Kp (· = B) w w'
theorem Rd.set4 {S : Nat} {w : World} {B : Nat} {v v' : Value} {a : Option Addr} {c : Nat} {R : List Int} {s : Ps} (h : Rd S w B v a c R s) {n : Nat} {f : Nat → ByteArray} (ho : w.ownsRow S 9 1 v' n (sc f n)) (hb : v'.ownBlock ≠ some B) :
    Rd S (w.setCell ⟨B, 4, none⟩ v') B v' a c R { s with n := n, f := f } := by
  have kk : Kp (· = B) w (w.setCell ⟨B, 4, none⟩ v') := (Kp.refl (· = B) w).setCell (p := ⟨B, 4, none⟩) rfl _
  refine ⟨?_, ?_, ?_, ?_, ?_, ?_, kk.row ho (fun i e e' => hb (by rw [e, e'])), h.rs.below (((Below.refl S w).setCell (p := ⟨B, 4, none⟩) h.SB _)), hb, h.SB⟩
  · rw [World.cell?_setCell_other _ _ _ _ (by simp)]; exact h.c0
  · rw [World.cell?_setCell_other _ _ _ _ (by simp)]; exact h.c1
  · rw [World.cell?_setCell_other _ _ _ _ (by simp)]; exact h.c2
  · rw [World.cell?_setCell_other _ _ _ _ (by simp)]; exact h.c3
  · exact World.cell?_setCell_same' _ _ _ (by rw [h.c4]; rfl)
  · intro o
    rw [World.frozen?_setCell]
    exact h.fz o
theorem Rd.set3 {S : Nat} {w : World} {B : Nat} {v : Value} {a : Option Addr} {c : Nat} {R : List Int} {s : Ps} (h : Rd S w B v a c R s) (i : Int) :
    Rd S (w.setCell ⟨B, 3, none⟩ (.int .i64 i)) B v a c R { s with op := i } := by
  have kk : Kp (· = B) w (w.setCell ⟨B, 3, none⟩ (.int .i64 i)) := (Kp.refl (· = B) w).setCell (p := ⟨B, 3, none⟩) rfl _
  refine ⟨?_, ?_, ?_, ?_, ?_, ?_, kk.row h.row (fun i e e' => h.gb (by rw [e, e'])), h.rs.below (((Below.refl S w).setCell (p := ⟨B, 3, none⟩) h.SB _)), h.gb, h.SB⟩
  · rw [World.cell?_setCell_other _ _ _ _ (by simp)]; exact h.c0
  · rw [World.cell?_setCell_other _ _ _ _ (by simp)]; exact h.c1
  · rw [World.cell?_setCell_other _ _ _ _ (by simp)]; exact h.c2
  · exact World.cell?_setCell_same' _ _ _ (by rw [h.c3]; rfl)
  · rw [World.cell?_setCell_other _ _ _ _ (by simp)]; exact h.c4
  · intro o
    rw [World.frozen?_setCell]
    exact h.fz o
set_option maxRecDepth 100000 in
set_option maxHeartbeats 400000 in
theorem group0 {S B : Nat} {a : Option Addr} {c : Nat} {R : List Int} {s : Ps} {w : World} (h : Rd S w B (.slice none 0 0) a c R s) (hS : S ≤ w.heap.size) (hn : s.n = 0) (hf : s.fl = 0) :
    Calls Tryz.prog 129 #[.pointer (some ⟨B, 0, none⟩), .string ⟨#[]⟩] w fun e w' => e = .returned (ndV grN) ∧ Tj S B a c R s.p w w' := by
  obtain ⟨h1, hS2, hG, hlt⟩ := h.box hS (ndX zN)
  have c4 := h1.c4
  have hrow : (w.alloc (ndX zN)).ownsRow S 9 1 (.slice none 0 0) 0 (sc s.f 0) := by have := h1.row; rwa [hn] at this
  obtain ⟨g, cc, w2, r, ho, k2, hg2⟩ := append_t (w.alloc (ndX zN)) S (.slice none 0 0) 0 s.f ⟨#[]⟩ hS2 (by decide) hrow
  have hg3 : (w.alloc (ndX zN)).heap.size ≤ g := by
    rcases hg2 with e | e
    · cases e
    · exact e
  have b2 : Below (w.alloc (ndX zN)).heap.size (w.alloc (ndX zN)) w2 := k2.below (Nat.le_refl _) (fun k hk e => by cases e)
  have h2 : Rd S w2 B (.slice none 0 0) a c R s := h1.below hS2 b2
  have hgB : (Value.slice (some ⟨g, 0, none⟩) 1 cc).ownBlock ≠ some B := fun e => by
    have e1 : g = B := Option.some.inj e
    have := h1.lt
    omega
  have h3 := h2.set4 ho hgB
  have c24 := h2.c4
  have f24 := h2.fz 4
  have c34 := h3.c4
  have hB : B < w.heap.size := h.lt
  have b3 : Below w.heap.size w w2 := box_b.trans (b2.mono (by simp))
  have cz : Cs w2 w.heap.size 0 zN := (cells_ndX (w := w) zN).below b2 (by simp)
  have kk : Kp (· = B) w2 (w2.setCell ⟨B, 4, none⟩ (.slice (some ⟨g, 0, none⟩) 1 cc)) := (Kp.refl (· = B) w2).setCell (p := ⟨B, 4, none⟩) rfl _
  have cz3 : Cs (w2.setCell ⟨B, 4, none⟩ (.slice (some ⟨g, 0, none⟩) 1 cc)) w.heap.size 0 zN := cz.kp kk (by omega)
  have fz3 : ∀ i, (w2.setCell ⟨B, 4, none⟩ (.slice (some ⟨g, 0, none⟩) 1 cc)).frozen? ⟨w.heap.size, i, none⟩ = false := kp_ff kk (by omega) (by have := b2.size; omega) (fun i => (b2.frozen (p := ⟨w.heap.size, i, none⟩) (by simp)).trans (box_ff w zN i))
  have HT3 : Hid (Tj S B a c R s.p w (st9 (w2.setCell ⟨B, 4, none⟩ (.slice (some ⟨g, 0, none⟩) 1 cc)) w.heap.size grN)) := by
    have ks := st9_kp (w2.setCell ⟨B, 4, none⟩ (.slice (some ⟨g, 0, none⟩) 1 cc)) w.heap.size grN
    have bS : Below S (w2.setCell ⟨B, 4, none⟩ (.slice (some ⟨g, 0, none⟩) 1 cc)) _ := ks.below (by have := b3.size; have := kk.size; omega) (fun k hk e => by omega)
    refine ⟨_, _, h3.kp ks (by omega) (fun j e e' => ?_) bS, rfl, hf, (fun j e => by have e1 : g = j := Option.some.inj e; have := hlt; omega), ((Kp.of b3).trans kk).trans' ks (fun i hi e => by omega)⟩
    have e1 : g = j := Option.some.inj e
    have : w.heap.size < (w.alloc (ndX zN)).heap.size := by simp
    omega
  have HE : Hid (Cs (st9 (w2.setCell ⟨B, 4, none⟩ (.slice (some ⟨g, 0, none⟩) 1 cc)) w.heap.size grN) w.heap.size 0 grN) := st9_cs _ cz3
  obtain ⟨q0, q1, q2, q3, q4, q5, q6, q7, q8⟩ := cz3
  simp only [Nat.zero_add] at q0 q1 q2 q3 q4 q5 q6 q7 q8
  simp only [ndX, rxX, zN, tX, World.size_alloc, Nat.zero_add] at c4 r c34
  clear h h1 h2 h3 hrow ho k2 hg2 b2 b3 cz kk
  go_enter Tryz.func129, Tryz.ntmps129
  go_wp2_with (at_builtin; refine wpList_append_run rfl (.tmp 28) (.tmp 30) 36 36 rfl _ _ rfl rfl r ?_)
  clear q0 q1 q2 q3 q4 q5 q6 q7 q8 fz3
  obtain ⟨q0, q1, q2, q3, q4, q5, q6, q7, q8⟩ := HE.out
  have HT := HT3.out
  change bodyPost _ _ _ _ _ (st9 (w2.setCell ⟨B, 4, none⟩ (.slice (some ⟨g, 0, none⟩) 1 cc)) w.heap.size grN)
  generalize (st9 (w2.setCell ⟨B, 4, none⟩ (.slice (some ⟨g, 0, none⟩) 1 cc)) w.heap.size grN) = W9 at *
  simp only [Nat.zero_add] at q0 q1 q2 q3 q4 q5 q6 q7 q8
  refine bodyPost_ret (v := ndV grN) (by simp [results, Tryz.results129, go_sem, q0, q1, q2, q3, q4, q5, q6, q7, q8]; try rfl) rfl ?_
  exact ⟨rfl, HT⟩
set_option maxRecDepth 100000 in
set_option maxHeartbeats 1000000 in
theorem opening0 {S B : Nat} {a : Option Addr} {c : Nat} {R : List Int} {s : Ps} {w : World} (h : Rd S w B (.slice none 0 0) a c R s) (hS : S ≤ w.heap.size) (hat : s.p ≤ 4000) (hn : s.n = 0) (hf : s.fl = 0) (hx : ¬ ahR R s.p = -1)
    (hs1 : seB R s.p [40, 63] = false) (hs2 : seB R s.p [40, 63, 58] = false) (hs3 : seB R s.p [40, 63, 80, 60] = false) (hs4 : seB R s.p [40, 63, 60] = false) :
    Calls Tryz.prog 111 #[.pointer (some ⟨B, 0, none⟩)] w fun e w' => e = .returned (ndV grN) ∧ Tj S B a c R (s.p + 1) w w' := by
  obtain ⟨h1, hS2, hG, hlt⟩ := h.box hS (ndX zN)
  have k1 := takes_no (x := ⟨#[40, 63, 58]⟩) (Tk.refl h1) hS2 (by decide) (by omega) hs2
  have hB : B < w.heap.size := h.lt
  clear h h1
  go_enter Tryz.func111, Tryz.ntmps111
  go_wp2_with fail
  go_fit k1
  rintro e w2 ⟨rfl, h2⟩
  have k2 := turns_no h2 hS2 (by omega) ⟨#[58]⟩ hs1
  clear k1 h2
  go_wp2_with fail
  go_fit k2
  rintro e w3 ⟨rfl, h3⟩
  have k3 := takes_no (x := ⟨#[40, 63, 80, 60]⟩) h3 hS2 (by decide) (by omega) hs3
  clear k2 h3
  go_wp2_with fail
  go_fit k3
  rintro e w4 ⟨rfl, h4⟩
  have k4 := takes_no (x := ⟨#[40, 63, 60]⟩) h4 hS2 (by decide) (by omega) hs4
  clear k3 h4
  go_wp2_with fail
  go_fit k4
  rintro e w5 ⟨rfl, h5⟩
  have k5 := sees_tk (x := ⟨#[40, 63]⟩) h5 hS2 (by decide) (by omega)
  rw [show seB R s.p (ByteArray.mk #[40, 63]).data.toList = false from hs1] at k5
  clear k4 h5
  go_wp2_with fail
  go_fit k5
  rintro e w6 ⟨rfl, h6⟩
  have k6 := take_tk h6 hS2 (by omega) hx
  clear k5 h6
  go_wp2_with fail
  go_fit k6
  rintro e w7 ⟨rfl, h7⟩
  have k7 := group0 h7.1 (Nat.le_trans hS2 h7.2.size) hn hf
  have H7 : Hid (Kp (Mv B (.slice none 0 0)) (w.alloc (ndX zN)) w7) := h7.2
  clear k6 h7
  go_wp2_with fail
  go_fit k7
  rintro e w8 ⟨rfl, v', s', h8, hp, hf8, hv8, k8⟩
  have kA : Kp (· = B) (w.alloc (ndX zN)) w8 := (H7.out.mono (fun i _ e => by
    rcases e with e | e
    · exact e
    · cases e)).trans k8
  have hGB : ¬ w.heap.size = B := by omega
  have cz : Cs w8 w.heap.size 0 zN := (cells_ndX (w := w) zN).kp kA hGB
  have ff := kp_ff kA hGB hlt (box_ff w zN)
  have HE : Hid (Cs (st9 w8 w.heap.size grN) w.heap.size 0 grN) := st9_cs _ cz
  have h7s : (w.alloc (ndX zN)).heap.size ≤ w7.heap.size := H7.out.size
  have hgv : ∀ g, v'.ownBlock = some g → ¬ g = w.heap.size := fun g e => by have := hv8 g e; omega
  have HT8 : Hid (Tj S B a c R (s.p + 1) w (st9 w8 w.heap.size grN)) := by
    have ks := st9_kp w8 w.heap.size grN
    exact ⟨v', s', h8.kp ks (fun e => hGB e.symm) hgv (ks.below (by have := kA.size; omega) (fun k hk e => by omega)), hp, hf8, (fun g e => by have := hv8 g e; omega), ((Kp.of box_b).trans kA).trans' ks (fun i hi e => by omega)⟩
  clear k7 k8 h8
  obtain ⟨q0, q1, q2, q3, q4, q5, q6, q7, q8⟩ := cz
  simp only [Nat.zero_add] at q0 q1 q2 q3 q4 q5 q6 q7 q8
  go_wp2_with fail
  clear q0 q1 q2 q3 q4 q5 q6 q7 q8
  obtain ⟨q0, q1, q2, q3, q4, q5, q6, q7, q8⟩ := HE.out
  have HT := HT8.out
  change bodyPost _ _ _ _ _ (st9 w8 w.heap.size grN)
  generalize (st9 w8 w.heap.size grN) = W9 at *
  simp only [Nat.zero_add] at q0 q1 q2 q3 q4 q5 q6 q7 q8
  refine bodyPost_ret (v := ndV grN) (by simp [results, Tryz.results111, go_sem, q0, q1, q2, q3, q4, q5, q6, q7, q8]; try rfl) rfl ?_
  exact ⟨rfl, HT⟩
end Go.Proofs.YtajaadagejhllaaGreatDoor
