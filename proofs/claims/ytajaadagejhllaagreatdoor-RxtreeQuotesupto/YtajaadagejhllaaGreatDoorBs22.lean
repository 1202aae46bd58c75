/- A bundle of texts. -/
import Derived.Test.YtajaadagejhllaaGreatDoorBs21
/- The parser: a piece with the repeat about it. -/
namespace Go.Proofs.YtajaadagejhllaaGreatDoor
open Go.RowKit Go.Lib

def rpN (g : Nat) : Nd := ⟨6, 0, none, 0, 0, fun _ => (0, 0), 1, -1, true, 0, ⟨#[]⟩, some ⟨g, 0, none⟩, 1, 1⟩
abbrev rpX (g : Nat) : Nd := { rzN with ka := some ⟨g, 0, none⟩, kn := 1, kc := 1 }
set_option maxRecDepth 100000 in
set_option maxHeartbeats 1000000 in
theorem repeated_yes {S B : Nat} {v : Value} {a : Option Addr} {c : Nat} {R : List Int} {s : Ps} {w1 : World} (h : Rd S w1 B v a c R s) (hS : S ≤ w1.heap.size) (hat : s.p ≤ 4000) (hf : s.fl = 0) (hs1 : seB R s.p [42] = false) (hs2 : seB R s.p [43] = true) (hs3 : seB R (s.p + 1) [63] = true) (d : Nd) :
    Calls Tryz.prog 82 #[.pointer (some ⟨B, 0, none⟩), ndV d] w1 fun e w' => ∃ g, e = .returned (ndV (rpN g)) ∧ Cs w' g 0 d ∧ w1.heap.size ≤ g ∧ g < w'.heap.size ∧ Tk S B v a c R { s with p := s.p + 2 } w1 w' := by
  obtain ⟨h0, hS0, hG0, hlt0⟩ := h.box hS (ndX d)
  obtain ⟨h1, hS2, hG, hlt⟩ := h0.box hS0 (ndX zN)
  have HK : Hid (Kp (Mv B v) w1 ((w1.alloc (ndX d)).alloc (ndX zN))) := ((Kp.refl _ _).alloc _).alloc _
  have k := repeat_plus (Tk.refl h1) hS2 hat hf hs1 hs2 hs3
  clear h h0 h1 hs1 hs2 hs3
  go_enter Tryz.func82, Tryz.ntmps82
  go_wp2_with fail
  go_fit k
  rintro e w2 ⟨rfl, h2⟩
  have b0 : Below (w1.alloc (ndX d)).heap.size (w1.alloc (ndX d)) ((w1.alloc (ndX d)).alloc (ndX zN)) := (Below.refl _ _).alloc (Nat.le_refl _) _
  have l2 : w1.heap.size + 1 < w2.heap.size := by have := h2.2.size; simp at this; omega
  have cd2 : Cs w2 w1.heap.size 0 d := ((cells_ndX (w := w1) d).below b0 hlt0).kp h2.2 hG0
  have cd : Cs (w2.alloc (ndX rzN)) w1.heap.size 0 d := cd2.below ((Below.refl _ w2).alloc (Nat.le_refl _) (ndX rzN)) (by omega)
  have cz2 : Cs w2 (w1.heap.size + 1) 0 zN := by
    have := (cells_ndX (w := w1.alloc (ndX d)) zN).kp h2.2 hG
    rwa [World.size_alloc] at this
  have ff2 : ∀ i, w2.frozen? ⟨w1.heap.size + 1, i, none⟩ = false := fun i => by
    have := kp_ff h2.2 hG hlt (box_ff _ zN) i
    rwa [World.size_alloc] at this
  obtain ⟨W5, hW5⟩ : ∃ W5, W5 = (w2.alloc (ndX (rpX (w2.heap.size + 1)))).alloc (ndX d) := ⟨_, rfl⟩
  have b3 : Below w2.heap.size w2 (w2.alloc (ndX (rpX (w2.heap.size + 1)))) := (Below.refl _ _).alloc (Nat.le_refl _) _
  have b4 : Below (w2.alloc (ndX (rpX (w2.heap.size + 1)))).heap.size (w2.alloc (ndX (rpX (w2.heap.size + 1)))) W5 := by rw [hW5]; exact (Below.refl _ _).alloc (Nat.le_refl _) _
  have b5 : Below w2.heap.size w2 W5 := b3.trans (b4.mono (by simp))
  have hsz5 : W5.heap.size = w2.heap.size + 2 := by rw [hW5]; simp
  have cz5 : Cs W5 (w1.heap.size + 1) 0 zN := cz2.below b5 l2
  have fz5 : ∀ i, W5.frozen? ⟨w1.heap.size + 1, i, none⟩ = false := fun i => (b5.frozen (p := ⟨w1.heap.size + 1, i, none⟩) l2).trans (ff2 i)
  have cd5 : Cs W5 (w2.heap.size + 1) 0 d := by
    have := cells_ndX (w := w2.alloc (ndX (rpX (w2.heap.size + 1)))) d
    rw [← hW5, World.size_alloc] at this
    exact this
  have hG' : ¬ Mv B v (w1.heap.size + 1) := by rw [World.size_alloc] at hG; exact hG
  have HT5 : Tk S B v a c R { s with p := s.p + 2 } w1 W5 := Tk.below ⟨h2.1, HK.out.trans h2.2⟩ hS b5
  have HE : Hid (Cs (st9 W5 (w1.heap.size + 1) (rpN (w2.heap.size + 1))) (w1.heap.size + 1) 0 (rpN (w2.heap.size + 1))) := st9_cs _ cz5
  have HH : Hid (Cs (st9 W5 (w1.heap.size + 1) (rpN (w2.heap.size + 1))) (w2.heap.size + 1) 0 d ∧ w2.heap.size + 1 < (st9 W5 (w1.heap.size + 1) (rpN (w2.heap.size + 1))).heap.size ∧ Tk S B v a c R { s with p := s.p + 2 } w1 (st9 W5 (w1.heap.size + 1) (rpN (w2.heap.size + 1)))) :=
    ⟨cd5.kp (st9_kp _ _ _) (by omega), by have h1 := (st9_kp W5 (w1.heap.size + 1) (rpN (w2.heap.size + 1))).size; omega, Tk.past HT5 hS (st9_kp _ _ _) hG' (by omega)⟩
  obtain ⟨d0, d1, d2, d3, d4, d5, d6, d7, d8⟩ := cd
  obtain ⟨q0, q1, q2, q3, q4, q5, q6, q7, q8⟩ := cz5
  clear k h2 b3 b4 b0 b5 cd5 cz2 cd2 ff2 HT5 hsz5
  subst hW5
  simp only [Nat.zero_add, ndX, rxX] at d0 d1 d2 d3 d4 d5 d6 d7 d8 q0 q1 q2 q3 q4 q5 q6 q7 q8 fz5
  go_wp2_with fail
  clear q0 q1 q2 q3 q4 q5 q6 q7 q8 d0 d1 d2 d3 d4 d5 d6 d7 d8 fz5
  obtain ⟨q0, q1, q2, q3, q4, q5, q6, q7, q8⟩ := HE.out
  have HT := HH.out
  change bodyPost _ _ _ _ _ (st9 ((w2.alloc (ndX (rpX (w2.heap.size + 1)))).alloc (ndX d)) (w1.heap.size + 1) (rpN (w2.heap.size + 1)))
  generalize (st9 ((w2.alloc (ndX (rpX (w2.heap.size + 1)))).alloc (ndX d)) (w1.heap.size + 1) (rpN (w2.heap.size + 1))) = W9 at *
  simp only [Nat.zero_add] at q0 q1 q2 q3 q4 q5 q6 q7 q8
  refine bodyPost_ret (v := ndV (rpN (w2.heap.size + 1))) (by simp [results, Tryz.results82, go_sem, q0, q1, q2, q3, q4, q5, q6, q7, q8]; try rfl) rfl ?_
  exact ⟨_, rfl, HT.1, by omega, HT.2.1, HT.2.2⟩
end Go.Proofs.YtajaadagejhllaaGreatDoor
/- The parser: joined; pieces. -/
namespace Go.Proofs.YtajaadagejhllaaGreatDoor
open Go.RowKit Go.Lib

def emN : Nd := ⟨1, 0, none, 0, 0, fun _ => (0, 0), 0, 0, false, 0, ⟨#[]⟩, none, 0, 0⟩
def jnN (k : Int) (g n c : Nat) : Nd := ⟨k, 0, none, 0, 0, fun _ => (0, 0), 0, 0, false, 0, ⟨#[]⟩, some ⟨g, 0, none⟩, n, c⟩
theorem box_b {w : World} : Below w.heap.size w (w.alloc (ndX zN)) := (Below.refl _ w).alloc (Nat.le_refl _) _
theorem box_st {w : World} (d : Nd) : Cs (st9 (w.alloc (ndX zN)) w.heap.size d) w.heap.size 0 d ∧ Below w.heap.size w (st9 (w.alloc (ndX zN)) w.heap.size d) := ⟨st9_cs _ (cells_ndX zN), st9_below box_b (Nat.le_refl _) d⟩
set_option maxRecDepth 100000 in
set_option maxHeartbeats 1000000 in
theorem joined0 (k : Int) (w : World) : Calls Tryz.prog 65 #[.int .i64 k, .slice none 0 0] w fun e w' => e = .returned (ndV emN) ∧ Below w.heap.size w w' := by
  have HB : Hid (Below w.heap.size w (w.alloc (ndX emN))) := (Below.refl _ w).alloc (Nat.le_refl _) _
  have HC : Hid (Cs (w.alloc (ndX emN)) w.heap.size 0 emN) := cells_ndX emN
  go_enter Tryz.func65, Tryz.ntmps65
  go_wp2_with fail
  obtain ⟨q0, q1, q2, q3, q4, q5, q6, q7, q8⟩ := HC.out
  have HT := HB.out
  change bodyPost _ _ _ _ _ (w.alloc (ndX emN))
  generalize (w.alloc (ndX emN)) = W9 at *
  simp only [Nat.zero_add] at q0 q1 q2 q3 q4 q5 q6 q7 q8
  refine bodyPost_ret (v := ndV emN) (by simp [results, Tryz.results65, go_sem, q0, q1, q2, q3, q4, q5, q6, q7, q8]; try rfl) rfl ?_
  exact ⟨rfl, HT⟩
set_option maxRecDepth 100000 in
set_option maxHeartbeats 1000000 in
theorem joined1 (k : Int) (g c : Nat) (d : Nd) (w : World) (hg : g < w.heap.size) (h : Cs w g 0 d) : Calls Tryz.prog 65 #[.int .i64 k, .slice (some ⟨g, 0, none⟩) 1 c] w fun e w' => e = .returned (ndV d) ∧ Below w.heap.size w w' := by
  have HB : Hid (Below w.heap.size w (w.alloc (ndX d))) := (Below.refl _ w).alloc (Nat.le_refl _) _
  have HC : Hid (Cs (w.alloc (ndX d)) w.heap.size 0 d) := cells_ndX d
  obtain ⟨d0, d1, d2, d3, d4, d5, d6, d7, d8⟩ := h.below box_b hg
  clear h
  simp only [Nat.zero_add, ndX, rxX, zN] at d0 d1 d2 d3 d4 d5 d6 d7 d8
  go_enter Tryz.func65, Tryz.ntmps65
  go_wp2_with fail
  clear d0 d1 d2 d3 d4 d5 d6 d7 d8
  obtain ⟨q0, q1, q2, q3, q4, q5, q6, q7, q8⟩ := HC.out
  have HT := HB.out
  change bodyPost _ _ _ _ _ (w.alloc (ndX d))
  generalize (w.alloc (ndX d)) = W9 at *
  simp only [Nat.zero_add] at q0 q1 q2 q3 q4 q5 q6 q7 q8
  refine bodyPost_ret (v := ndV d) (by simp [results, Tryz.results65, go_sem, q0, q1, q2, q3, q4, q5, q6, q7, q8]; try rfl) rfl ?_
  exact ⟨rfl, HT⟩
set_option maxRecDepth 100000 in
set_option maxHeartbeats 1000000 in
theorem joined2 (k : Int) (g c : Nat) (w : World) : Calls Tryz.prog 65 #[.int .i64 k, .slice (some ⟨g, 0, none⟩) 2 c] w fun e w' => e = .returned (ndV (jnN k g 2 c)) ∧ Below w.heap.size w w' := by
  have HB : Hid (Below w.heap.size w (w.alloc (ndX (jnN k g 2 c)))) := (Below.refl _ w).alloc (Nat.le_refl _) _
  have HC : Hid (Cs (w.alloc (ndX (jnN k g 2 c))) w.heap.size 0 (jnN k g 2 c)) := cells_ndX (jnN k g 2 c)
  go_enter Tryz.func65, Tryz.ntmps65
  go_wp2_with fail
  obtain ⟨q0, q1, q2, q3, q4, q5, q6, q7, q8⟩ := HC.out
  have HT := HB.out
  change bodyPost _ _ _ _ _ (w.alloc (ndX (jnN k g 2 c)))
  generalize (w.alloc (ndX (jnN k g 2 c))) = W9 at *
  simp only [Nat.zero_add] at q0 q1 q2 q3 q4 q5 q6 q7 q8
  refine bodyPost_ret (v := ndV (jnN k g 2 c)) (by simp [results, Tryz.results65, go_sem, q0, q1, q2, q3, q4, q5, q6, q7, q8]; try rfl) rfl ?_
  exact ⟨rfl, HT⟩
set_option maxRecDepth 100000 in
set_option maxHeartbeats 1000000 in
theorem pieces_one {S B : Nat} {v : Value} {a : Option Addr} {c : Nat} {R : List Int} {s s' : Ps} {T : Tr → Prop} {w w1 : World} (h : Tk S B v a c R s w w1) (hS : S ≤ w.heap.size) (hat : s.p ≤ 4000) (hg : Gv 99 S B v a c R s s' T)
    (hs1 : seB R s.p [42] = false) (hs2 : seB R s.p [43] = false) (hs3 : seB R s.p [63] = false) (hs4 : seB R s.p [123] = false) (hs5 : seB R s.p [40, 63] = false) (hs6 : seB R s.p [40] = false) (hs7 : seB R s.p [92, 81] = false) :
    Calls Tryz.prog 81 #[.pointer (some ⟨B, 0, none⟩)] w1 fun e w' => ∃ t g, T t ∧ e = .returned (.slice (some ⟨g, 0, none⟩) 1 1) ∧ Cs w' g 0 (t []) ∧ (∀ i, w'.frozen? ⟨g, i, none⟩ = false) ∧ w1.heap.size ≤ g ∧ g < w'.heap.size ∧ Tz (fun k => w1.heap.size ≤ k ∧ k < g) w' t ∧ Tk S B v a c R s' w w' := by
  have k1 := repeat_no (Tk.refl h.1) (Nat.le_trans hS h.2.size) (by omega) hs1 hs2 hs3 hs4
  have HT0 : Hid (Kp (Mv B v) w w1) := h.2
  have hS1 : S ≤ w1.heap.size := Nat.le_trans hS h.2.size
  clear h hs1 hs2 hs3 hs4
  go_enter Tryz.func81, Tryz.ntmps81
  go_wp2_with fail
  go_fit k1
  rintro e w2 ⟨rfl, h2⟩
  have h3 : Tk S B v a c R s w1 (w2.alloc (ndX zN)) := h2.below hS1 box_b
  have k3 := turns_no h3 hS1 (by omega) ⟨#[41]⟩ hs5
  clear k1 h2 h3
  go_wp2_with fail
  go_fit k3
  rintro e w4 ⟨rfl, h4⟩
  have k4 := sees_tk (x := ⟨#[40]⟩) h4 hS1 (by decide) (by omega)
  rw [show seB R s.p (ByteArray.mk #[40]).data.toList = false from hs6] at k4
  clear k3 h4
  go_wp2_with fail
  go_fit k4
  rintro e w5 ⟨rfl, h5⟩
  have k5 := takes_no (x := ⟨#[92, 81]⟩) h5 hS1 (by decide) (by omega) hs7
  clear k4 h5
  go_wp2_with fail
  go_fit k5
  rintro e w6 ⟨rfl, h6⟩
  have k6 := hg w1 w6 hS1 h6
  have hs16 : w1.heap.size ≤ w6.heap.size := h6.2.size
  clear k5 h6
  go_wp2_with fail
  go_fit k6
  rintro e w7 ⟨t, ht, rfl, hn, h7⟩
  have HQ : Hid (T t ∧ Cs (w7.alloc (ndX (t []))) w7.heap.size 0 (t []) ∧ (∀ i, (w7.alloc (ndX (t []))).frozen? ⟨w7.heap.size, i, none⟩ = false) ∧ w1.heap.size ≤ w7.heap.size ∧ w7.heap.size < (w7.alloc (ndX (t []))).heap.size ∧ Tz (fun k => w1.heap.size ≤ k ∧ k < w7.heap.size) (w7.alloc (ndX (t []))) t ∧ Tk S B v a c R s' w (w7.alloc (ndX (t [])))) :=
    ⟨ht, cells_ndX _, box_ff _ _, h7.2.size, by simp, (Tz.kp hn (Kp.of (M := fun _ => False) ((Below.refl _ w7).alloc (Nat.le_refl _) _)) (fun _ _ => id)).mono (fun _ hk => ⟨Nat.le_trans hs16 hk.1, hk.2⟩), Tk.below ⟨h7.1, HT0.out.trans h7.2⟩ hS ((Below.refl _ w7).alloc (Nat.le_refl _) _)⟩
  clear k6 hn h7
  go_wp2
  go_ret
  obtain ⟨p1, p2, p3, p4, p5, p6, p7⟩ := HQ.out
  exact ⟨t, _, p1, rfl, p2, p3, p4, p5, p6, p7⟩
end Go.Proofs.YtajaadagejhllaaGreatDoor
/- The parser: alternative. -/
namespace Go.Proofs.YtajaadagejhllaaGreatDoor
open Go.RowKit Go.Lib

def PiC (S B : Nat) (v : Value) (a : Option Addr) (c : Nat) (R : List Int) (s s' : Ps) (T : Tr → Prop) : Prop := ∀ w w1, S ≤ w.heap.size → Tk S B v a c R s w w1 →
    Calls Tryz.prog 81 #[.pointer (some ⟨B, 0, none⟩)] w1 fun e w' => ∃ t g, T t ∧ e = .returned (.slice (some ⟨g, 0, none⟩) 1 1) ∧ Cs w' g 0 (t []) ∧ (∀ i, w'.frozen? ⟨g, i, none⟩ = false) ∧ w1.heap.size ≤ g ∧ g < w'.heap.size ∧ Tz (fun k => w1.heap.size ≤ k ∧ k < g) w' t ∧ Tk S B v a c R s' w w'
def ReC (S B : Nat) (v : Value) (a : Option Addr) (c : Nat) (R : List Int) (s s' : Ps) (T T' : Tr → Prop) : Prop := ∀ w1 t (Z : Nat → Prop), S ≤ w1.heap.size → Rd S w1 B v a c R s → T t → Tz Z w1 t → (∀ k, Z k → ¬ Mv B v k) →
    Calls Tryz.prog 82 #[.pointer (some ⟨B, 0, none⟩), ndV (t [])] w1 fun e w' => ∃ t', T' t' ∧ e = .returned (ndV (t' [])) ∧ Tz (fun k => Z k ∨ w1.heap.size ≤ k ∧ k < w'.heap.size) w' t' ∧ Tk S B v a c R s' w1 w'
theorem rec_no {S B : Nat} {v : Value} {a : Option Addr} {c : Nat} {R : List Int} {s : Ps} {T : Tr → Prop} (hat : s.p ≤ 4000) (hs1 : seB R s.p [42] = false) (hs2 : seB R s.p [43] = false) (hs3 : seB R s.p [63] = false) (hs4 : seB R s.p [123] = false) : ReC S B v a c R s s T T := by
  intro w1 t Z hS h ht hz hm
  refine (repeated_no (Tk.refl h) hS (by omega) hs1 hs2 hs3 hs4 (t [])).mono ?_
  rintro e w' ⟨he, hk⟩
  exact ⟨t, ht, he, (hz.kp hk.2 hm).mono (fun _ => .inl), hk⟩
def rpT (g : Nat) (t : Tr) : Tr := topT (rpN g) (fun _ => t)
theorem rec_yes {S B : Nat} {v : Value} {a : Option Addr} {c : Nat} {R : List Int} {s : Ps} {T : Tr → Prop} (hat : s.p ≤ 4000) (hf : s.fl = 0) (hs1 : seB R s.p [42] = false) (hs2 : seB R s.p [43] = true) (hs3 : seB R (s.p + 1) [63] = true) : ReC S B v a c R s { s with p := s.p + 2 } T (fun u => ∃ g t, T t ∧ u = rpT g t) := by
  intro w1 t Z hS h ht hz hm
  refine (repeated_yes h hS hat hf hs1 hs2 hs3 (t [])).mono ?_
  rintro e w' ⟨g, he, hc, hg1, hg2, hk⟩
  refine ⟨rpT g t, ⟨g, t, ht, rfl⟩, he, ?_, hk⟩
  refine topT_z ⟨by show 0 * 8 ≤ 140737488351232; decide, by show 1 * 8 ≤ 140737488351232; decide, by show (0 : Nat) ≤ 140737488351232; decide, by show 1 ≤ 1; decide⟩ (.inl rfl) (.inr ⟨g, 0, rfl, .inr ⟨hg1, hg2⟩, fun j hj => ?_⟩) (fun j hj => (hz.kp hk.2 hm).mono (fun _ => .inl))
  have : j = 0 := by have : j < 1 := hj; omega
  subst this
  exact hc
def slN : Value → Nat
  | .slice _ n _ => n
  | _ => 0
/-- A row of one node, under way. -/
def Al1 (S B : Nat) (v : Value) (a : Option Addr) (c : Nat) (R : List Int) (s : Ps) (T : Tr → Prop) (W : World) (row : Value) (w' : World) : Prop :=
  ∃ t G cc, row = .slice (some ⟨G, 0, none⟩) 1 cc ∧ T t ∧ Cs w' G 0 (t []) ∧ G < w'.heap.size ∧ W.heap.size ≤ G ∧ Nw W.heap.size w' t ∧ Tk S B v a c R s W w'
set_option maxRecDepth 100000 in
set_option maxHeartbeats 2000000 in
theorem alternative_one {S B : Nat} {v : Value} {a : Option Addr} {c : Nat} {R : List Int} {s s1 s2 : Ps} {T T' : Tr → Prop} (hat : s.p ≤ 4000) (hat2 : s2.p ≤ 4000) (hP : PiC S B v a c R s s1 T) (hR : ReC S B v a c R s1 s2 T T') (x : Int) (hx : ahR R s.p = x) (x1 : ¬ x = -1) (hs1 : seB R s.p [124] = false) (hs2 : seB R s.p [41] = false)
    (he : ahR R s2.p = -1 ∨ (¬ ahR R s2.p = -1 ∧ seB R s2.p [124] = true)) : Gv 63 S B v a c R s s2 T' := by
  intro w w1 hS h
  have hS1 : S ≤ w1.heap.size := Nat.le_trans hS h.2.size
  obtain ⟨h1, hS2, hG, hlt⟩ := h.1.box hS1 (ndX zN)
  have HK : Hid (Kp (Mv B v) w (w1.alloc (ndX zN))) := h.2.trans (Kp.of ((Below.refl _ w1).alloc (Nat.le_refl _) _))
  have hsz : w.heap.size ≤ w1.heap.size := h.2.size
  have HM : Hid (∀ k, Mv B v k → k < (w1.alloc (ndX zN)).heap.size) := fun k e => (h1.base k e).2
  have HR1 : Hid (Rd S (w1.alloc (ndX zN)) B v a c R s) := h1
  clear h h1
  go_enter Tryz.func63, Tryz.ntmps63
  go_wp2_with fail
  generalize hW : w1.alloc (ndX zN) = W1 at *
  go_loopw [3] (fun row w' => (row = .slice none 0 0 ∧ w' = W1) ∨ Hid (Al1 S B v a c R s2 T' W1 row w')) (fun row _ => 1 - slN row)
  case atStart => exact .inl ⟨rfl, hW⟩
  case round =>
    rcases hrel with ⟨rfl, rfl⟩ | HA
    · have k1 := ahead_tk (Tk.refl HR1.out) hS2 0 (by omega) (by omega)
      rw [show ahR R (s.p + 0) = x from hx] at k1
      have e1 : (x != -1) = true := by simpa using x1
      go_wp2_with fail
      go_fit k1
      rintro e w2 ⟨rfl, h2⟩
      have k2 := sees_tk (x := ⟨#[124]⟩) h2 hS2 (by decide) (by omega)
      rw [show seB R s.p (ByteArray.mk #[124]).data.toList = false from hs1] at k2
      clear k1 h2
      go_wp2_with fail
      go_fit k2
      rintro e w3 ⟨rfl, h3⟩
      have k3 := sees_tk (x := ⟨#[41]⟩) h3 hS2 (by decide) (by omega)
      rw [show seB R s.p (ByteArray.mk #[41]).data.toList = false from hs2] at k3
      clear k2 h3
      go_wp2_with fail
      go_fit k3
      rintro e w4 ⟨rfl, h4⟩
      have k4 := hP wr w4 hS2 h4
      have hs4 : wr.heap.size ≤ w4.heap.size := h4.2.size
      clear k3 h4
      go_wp2_with fail
      go_fit k4
      rintro e w5 ⟨t, g, ht, rfl, hc, hff, hg1, hg2, hz, h5⟩
      have k5 := hR w5 t (fun k => w4.heap.size ≤ k ∧ k < g) (Nat.le_trans hS2 h5.2.size) h5.1 ht hz (fun k hk e => by have := HM.out k e; omega)
      have H5 : Hid (Tk S B v a c R s1 wr w5) := h5
      have HCg : Hid (Cs w5 g 0 (t [])) := hc
      obtain ⟨q0, q1, q2, q3, q4, q5, q6, q7, q8⟩ := hc
      simp only [Nat.zero_add] at q0 q1 q2 q3 q4 q5 q6 q7 q8
      clear k4 hz h5
      go_wp2_with fail
      go_fit k5
      rintro e w6 ⟨t', ht', rfl, hz', h6⟩
      have hgM : ¬ Mv B v g := fun e => by have := HM.out g e; omega
      have cg : Cs w6 g 0 (t []) := HCg.out.kp h6.2 hgM
      have fg : ∀ i, w6.frozen? ⟨g, i, none⟩ = false := kp_ff h6.2 hgM hg2 hff
      have HT6 : Hid (Tk S B v a c R s2 wr w6) := Tk.trans H5.out h6
      have hg6 : g < w6.heap.size := Nat.lt_of_lt_of_le hg2 h6.2.size
      have HZ6 : Hid (Tz (fun k => (w4.heap.size ≤ k ∧ k < g) ∨ w5.heap.size ≤ k ∧ k < w6.heap.size) w6 t') := hz'
      have HCs : Hid (Cs (st9 w6 g (t' [])) g 0 (t' [])) := st9_cs _ cg
      obtain ⟨G, cc, w7, r, ho, b7, hG7⟩ := append_n1 (st9 w6 g (t' [])) wr.heap.size g (t' []) (by have h1 := (st9_kp w6 g (t' [])).size; have h2 := HT6.out.2.size; omega) HCs.out
      have HAl : Hid (Al1 S B v a c R s2 T' wr (.slice (some ⟨G, 0, none⟩) 1 cc) w7) := by
        have hks := (st9_kp w6 g (t' [])).size
        have h2 := HT6.out.2.size
        obtain ⟨a', c', e', _, hkz⟩ := row_kz ho
        cases e'
        refine ⟨t', G, cc, rfl, ht', ?_, ?_, by omega, ?_, ?_⟩
        · rcases hkz with h0 | ⟨g', o, e', _, hcs⟩
          · omega
          · cases e'
            exact hcs 0 (by omega)
        · rcases ho.2 with ⟨_, h0⟩ | ⟨g', _, _, e', _, hh, _⟩
          · omega
          · cases e'
            exact (Array.getElem?_eq_some_iff.1 hh).1
        · have z1 : Tz (fun k => (w4.heap.size ≤ k ∧ k < g) ∨ w5.heap.size ≤ k ∧ k < w6.heap.size) (st9 w6 g (t' [])) t' := HZ6.out.kp (st9_kp _ _ _) (fun k hk e => by omega)
          have hb7 := b7.size
          have h5s := H5.out.2.size
          exact (z1.kp (Kp.of (M := fun _ => False) b7) (fun _ _ => id)).mono (fun k hk => by omega)
        · exact (Tk.past HT6.out hS2 (st9_kp _ _ _) hgM (by omega)).below hS2 b7
      obtain ⟨p0, p1, p2, p3, p4, p5, p6, p7, p8⟩ := cg
      simp only [Nat.zero_add] at p0 p1 p2 p3 p4 p5 p6 p7 p8
      clear k5 h6 hz' HZ6 HCs ho b7 q0 q1 q2 q3 q4 q5 q6 q7 q8 HCg H5 HT6
      go_wp2_with (at_builtin; refine wpList_append_run rfl (.tmp 35) (.tmp 36) 23 23 rfl _ _ rfl rfl r ?_)
      exact ⟨.inr HAl, by show 1 - 1 < 1 - 0; decide⟩
    · obtain ⟨t, G, cc, rfl, ht, hc, hGl, hG1, hn, h6⟩ := HA.out
      have HGM : ¬ Mv B v G := fun e => by have := HM.out G e; omega
      have hGM : ¬ Mv B v G := HGM
      have hS6 : S ≤ wr.heap.size := Nat.le_trans hS2 h6.2.size
      rcases he with he | ⟨he, he2⟩
      · have k1 := ahead_tk (Tk.refl h6.1) hS6 0 (by omega) (by omega)
        rw [show ahR R (s2.p + 0) = -1 from he] at k1
        go_wp2_with fail
        go_fit k1
        rintro e w8 ⟨rfl, h8⟩
        have k9 := joined1 4 G cc (t []) w8 (Nat.lt_of_lt_of_le hGl h8.2.size) (hc.kp h8.2 hGM)
        have H8 : Hid (Tk S B v a c R s2 W1 w8) := Tk.trans h6 h8
        have HN8 : Hid (Nw W1.heap.size w8 t) := hn.kp h8.2 (fun k hk _ e => by have := HM.out k e; omega)
        clear k1 h8 hc hn h6 HA
        go_wp2_with fail
        go_fit k9
        rintro e w9 ⟨rfl, b9⟩
        subst hW
        obtain ⟨cb, ff, hE, hN, hT⟩ := box_end hS hG hsz hlt HK.out (H8.out.below hS2 b9) (HN8.out.below b9)
        have HE : Hid (Cs (st9 w9 w1.heap.size (t [])) w1.heap.size 0 (t [])) := hE
        have HN : Hid (Nw w1.heap.size (st9 w9 w1.heap.size (t [])) t ∧ Tk S B v a c R s2 w (st9 w9 w1.heap.size (t []))) := ⟨hN, hT⟩
        clear k9 b9 hE hN hT H8 HN8
        obtain ⟨q0, q1, q2, q3, q4, q5, q6, q7, q8⟩ := cb
        simp only [Nat.zero_add] at q0 q1 q2 q3 q4 q5 q6 q7 q8
        go_wp2_with fail
        clear q0 q1 q2 q3 q4 q5 q6 q7 q8
        obtain ⟨q0, q1, q2, q3, q4, q5, q6, q7, q8⟩ := HE.out
        have HT := HN.out
        change bodyPost _ _ _ _ _ (st9 w9 w1.heap.size (t []))
        generalize (st9 w9 w1.heap.size (t [])) = W9 at *
        simp only [Nat.zero_add] at q0 q1 q2 q3 q4 q5 q6 q7 q8
        refine bodyPost_ret (v := ndV (t [])) (by simp [results, Tryz.results63, go_sem, q0, q1, q2, q3, q4, q5, q6, q7, q8]; try rfl) rfl ?_
        exact ⟨t, ht, rfl, HT.1, HT.2⟩
      · have k1 := ahead_tk (Tk.refl h6.1) hS6 0 (by omega) (by omega)
        obtain ⟨y, hy⟩ : ∃ y, y = ahR R s2.p := ⟨_, rfl⟩
        rw [show ahR R (s2.p + 0) = y from hy.symm] at k1
        rw [← hy] at he
        have e1 : (y != -1) = true := by simpa using he
        go_wp2_with fail
        go_fit k1
        rintro e w7 ⟨rfl, h7⟩
        have k2 := sees_tk (x := ⟨#[124]⟩) h7 hS6 (by decide) (by omega)
        rw [show seB R s2.p (ByteArray.mk #[124]).data.toList = true from he2] at k2
        clear k1 h7
        go_wp2_with fail
        go_fit k2
        rintro e w8 ⟨rfl, h8⟩
        have k9 := joined1 4 G cc (t []) w8 (Nat.lt_of_lt_of_le hGl h8.2.size) (hc.kp h8.2 hGM)
        have H8 : Hid (Tk S B v a c R s2 W1 w8) := Tk.trans h6 h8
        have HN8 : Hid (Nw W1.heap.size w8 t) := hn.kp h8.2 (fun k hk _ e => by have := HM.out k e; omega)
        clear k2 h8 hc hn h6 HA
        go_wp2_with fail
        go_fit k9
        rintro e w9 ⟨rfl, b9⟩
        subst hW
        obtain ⟨cb, ff, hE, hN, hT⟩ := box_end hS hG hsz hlt HK.out (H8.out.below hS2 b9) (HN8.out.below b9)
        have HE : Hid (Cs (st9 w9 w1.heap.size (t [])) w1.heap.size 0 (t [])) := hE
        have HN : Hid (Nw w1.heap.size (st9 w9 w1.heap.size (t [])) t ∧ Tk S B v a c R s2 w (st9 w9 w1.heap.size (t []))) := ⟨hN, hT⟩
        clear k9 b9 hE hN hT H8 HN8
        obtain ⟨q0, q1, q2, q3, q4, q5, q6, q7, q8⟩ := cb
        simp only [Nat.zero_add] at q0 q1 q2 q3 q4 q5 q6 q7 q8
        go_wp2_with fail
        clear q0 q1 q2 q3 q4 q5 q6 q7 q8
        obtain ⟨q0, q1, q2, q3, q4, q5, q6, q7, q8⟩ := HE.out
        have HT := HN.out
        change bodyPost _ _ _ _ _ (st9 w9 w1.heap.size (t []))
        generalize (st9 w9 w1.heap.size (t [])) = W9 at *
        simp only [Nat.zero_add] at q0 q1 q2 q3 q4 q5 q6 q7 q8
        refine bodyPost_ret (v := ndV (t [])) (by simp [results, Tryz.results63, go_sem, q0, q1, q2, q3, q4, q5, q6, q7, q8]; try rfl) rfl ?_
        exact ⟨t, ht, rfl, HT.1, HT.2⟩
end Go.Proofs.YtajaadagejhllaaGreatDoor
