/- The parser: rows of literals. -/
import Derived.Test.YtajaadagejhllaaGreatDoorBs23
namespace Go.Proofs.YtajaadagejhllaaGreatDoor
open Go.RowKit Go.Lib

set_option maxRecDepth 100000 in
set_option maxHeartbeats 1000000 in
theorem single_litW {S B : Nat} {v : Value} {a : Option Addr} {c : Nat} {R : List Int} {s : Ps} (hat : s.p ≤ 4500) (hf : s.fl = 0) (x : Int) (hx : ahR R s.p = x) (x1 : ¬ x = -1) (x2 : ¬ x = 46) (x3 : ¬ x = 94) (x4 : ¬ x = 36) (x5 : ¬ x = 91) (x6 : ¬ x = 92) :
    Gv 99 S B v a c R s { s with p := s.p + 1 } (fun t => t = ltT x) := by
  intro w w1 hS h
  have hS1 : S ≤ w1.heap.size := Nat.le_trans hS h.2.size
  obtain ⟨h1, hS2, hG, hlt⟩ := h.1.box hS1 (ndX zN)
  have HK : Hid (Kp (Mv B v) w (w1.alloc (ndX zN))) := h.2.trans (Kp.of ((Below.refl _ w1).alloc (Nat.le_refl _) _))
  have hsz : w.heap.size ≤ w1.heap.size := h.2.size
  have k1 := take_tk (Tk.refl h1) hS2 (by omega) (by rw [hx]; exact x1)
  rw [hx] at k1
  have e2 : (x == 46) = false := by simpa using x2
  have e3 : (x == 94) = false := by simpa using x3
  have e4 : (x == 36) = false := by simpa using x4
  have e5 : (x == 91) = false := by simpa using x5
  have e6 : (x == 92) = false := by simpa using x6
  clear h h1 hx x1 x2 x3 x4 x5 x6
  go_enter Tryz.func99, Tryz.ntmps99
  go_wp2_with fail
  go_fit k1
  rintro e w2 ⟨rfl, h2⟩
  have k2 := literal_any h2.1 hf x
  have H2 : Hid (Tk S B v a c R { s with p := s.p + 1 } (w1.alloc (ndX zN)) w2) := h2
  clear k1 h2
  go_wp2_with fail
  go_fit k2
  rintro e w5 ⟨rfl, b5⟩
  have h5 : Tk S B v a c R { s with p := s.p + 1 } (w1.alloc (ndX zN)) w5 := H2.out.below hS2 b5
  obtain ⟨cc, ff, hE, hN, hT⟩ := box_end hS hG hsz hlt HK.out h5 (lt_nw _ _ x)
  have HE : Hid (Cs (st9 w5 w1.heap.size (ltN x)) w1.heap.size 0 (ltN x)) := hE
  have HN : Hid (Nw w1.heap.size (st9 w5 w1.heap.size (ltN x)) (ltT x) ∧ Tk S B v a c R { s with p := s.p + 1 } w (st9 w5 w1.heap.size (ltN x))) := ⟨hN, hT⟩
  clear k2 b5 h5 hE hN hT
  obtain ⟨q0, q1, q2, q3, q4, q5, q6, q7, q8⟩ := cc
  simp only [Nat.zero_add] at q0 q1 q2 q3 q4 q5 q6 q7 q8
  go_wp2_with fail
  clear q0 q1 q2 q3 q4 q5 q6 q7 q8
  obtain ⟨q0, q1, q2, q3, q4, q5, q6, q7, q8⟩ := HE.out
  have HT := HN.out
  change bodyPost _ _ _ _ _ (st9 w5 w1.heap.size (ltN x))
  generalize (st9 w5 w1.heap.size (ltN x)) = W9 at *
  simp only [Nat.zero_add] at q0 q1 q2 q3 q4 q5 q6 q7 q8
  refine bodyPost_ret (v := ndV (ltN x)) (by simp [results, Tryz.results99, go_sem, q0, q1, q2, q3, q4, q5, q6, q7, q8]; try rfl) rfl ?_
  exact ⟨ltT x, rfl, rfl, HT.1, HT.2⟩
set_option maxRecDepth 100000 in
set_option maxHeartbeats 1000000 in
theorem pieces_oneW {S B : Nat} {v : Value} {a : Option Addr} {c : Nat} {R : List Int} {s s' : Ps} {T : Tr → Prop} {w w1 : World} (h : Tk S B v a c R s w w1) (hS : S ≤ w.heap.size) (hat : s.p ≤ 4500) (hg : Gv 99 S B v a c R s s' T)
    (hs1 : seB R s.p [42] = false) (hs2 : seB R s.p [43] = false) (hs3 : seB R s.p [63] = false) (hs4 : seB R s.p [123] = false) (hs5 : seB R s.p [40, 63] = false) (hs6 : seB R s.p [40] = false) (hs7 : seB R s.p [92, 81] = false) :
    Calls Tryz.prog 81 #[.pointer (some ⟨B, 0, none⟩)] w1 fun e w' => ∃ t g, T t ∧ e = .returned (.slice (some ⟨g, 0, none⟩) 1 1) ∧ Cs w' g 0 (t []) ∧ (∀ i, w'.frozen? ⟨g, i, none⟩ = false) ∧ w1.heap.size ≤ g ∧ g < w'.heap.size ∧ Tz (fun k => w1.heap.size ≤ k ∧ k < g) w' t ∧ Tk S B v a c R s' w w' := by
  have k1 := repeat_no (Tk.refl h.1) (Nat.le_trans hS h.2.size) (by omega) hs1 hs2 hs3 hs4
  have HT0 : Hid (Kp (Mv B v) w w1) := h.2
  have hS1 : S ≤ w1.heap.size := Nat.le_trans hS h.2.size
  clear h hs1 hs2 hs3 hs4
  go_enter Tryz.func81, Tryz.ntmps81
  go_wp2_with fail
  go_fit k1
  rintro e w2 ⟨rfl, h2⟩
  have h3 : Tk S B v a c R s w1 (w2.alloc (ndX zN)) := h2.below hS1 box_b
  have k3 := turns_no h3 hS1 (by omega) ⟨#[41]⟩ hs5
  clear k1 h2 h3
  go_wp2_with fail
  go_fit k3
  rintro e w4 ⟨rfl, h4⟩
  have k4 := sees_tk (x := ⟨#[40]⟩) h4 hS1 (by decide) (by omega)
  rw [show seB R s.p (ByteArray.mk #[40]).data.toList = false from hs6] at k4
  clear k3 h4
  go_wp2_with fail
  go_fit k4
  rintro e w5 ⟨rfl, h5⟩
  have k5 := takes_no (x := ⟨#[92, 81]⟩) h5 hS1 (by decide) (by omega) hs7
  clear k4 h5
  go_wp2_with fail
  go_fit k5
  rintro e w6 ⟨rfl, h6⟩
  have k6 := hg w1 w6 hS1 h6
  have hs16 : w1.heap.size ≤ w6.heap.size := h6.2.size
  clear k5 h6
  go_wp2_with fail
  go_fit k6
  rintro e w7 ⟨t, ht, rfl, hn, h7⟩
  have HQ : Hid (T t ∧ Cs (w7.alloc (ndX (t []))) w7.heap.size 0 (t []) ∧ (∀ i, (w7.alloc (ndX (t []))).frozen? ⟨w7.heap.size, i, none⟩ = false) ∧ w1.heap.size ≤ w7.heap.size ∧ w7.heap.size < (w7.alloc (ndX (t []))).heap.size ∧ Tz (fun k => w1.heap.size ≤ k ∧ k < w7.heap.size) (w7.alloc (ndX (t []))) t ∧ Tk S B v a c R s' w (w7.alloc (ndX (t [])))) :=
    ⟨ht, cells_ndX _, box_ff _ _, h7.2.size, by simp, (Tz.kp hn (Kp.of (M := fun _ => False) ((Below.refl _ w7).alloc (Nat.le_refl _) _)) (fun _ _ => id)).mono (fun _ hk => ⟨Nat.le_trans hs16 hk.1, hk.2⟩), Tk.below ⟨h7.1, HT0.out.trans h7.2⟩ hS ((Below.refl _ w7).alloc (Nat.le_refl _) _)⟩
  clear k6 hn h7
  go_wp2
  go_ret
  obtain ⟨p1, p2, p3, p4, p5, p6, p7⟩ := HQ.out
  exact ⟨t, _, p1, rfl, p2, p3, p4, p5, p6, p7⟩
theorem rec_noW {S B : Nat} {v : Value} {a : Option Addr} {c : Nat} {R : List Int} {s : Ps} {T : Tr → Prop} (hat : s.p ≤ 4500) (hs1 : seB R s.p [42] = false) (hs2 : seB R s.p [43] = false) (hs3 : seB R s.p [63] = false) (hs4 : seB R s.p [123] = false) : ReC S B v a c R s s T T := by
  intro w1 t Z hS h ht hz hm
  refine (repeated_no (Tk.refl h) hS (by omega) hs1 hs2 hs3 hs4 (t [])).mono ?_
  rintro e w' ⟨he, hk⟩
  exact ⟨t, ht, he, (hz.kp hk.2 hm).mono (fun _ => .inl), hk⟩
set_option maxRecDepth 100000 in
set_option maxHeartbeats 2000000 in
theorem expression_oneW {S B : Nat} {v : Value} {a : Option Addr} {c : Nat} {R : List Int} {s s1 : Ps} {T : Tr → Prop} (hat1 : s1.p ≤ 4500) (hA : Gv 63 S B v a c R s s1 T) (hs1 : seB R s1.p [124] = false) :
    Gv 46 S B v a c R s s1 T := by
  intro w w1 hS h
  have hS1 : S ≤ w1.heap.size := Nat.le_trans hS h.2.size
  obtain ⟨h1, hS2, hG, hlt⟩ := h.1.box hS1 (ndX zN)
  have HK : Hid (Kp (Mv B v) w (w1.alloc (ndX zN))) := h.2.trans (Kp.of ((Below.refl _ w1).alloc (Nat.le_refl _) _))
  have hsz : w.heap.size ≤ w1.heap.size := h.2.size
  have HM : Hid (∀ k, Mv B v k → k < (w1.alloc (ndX zN)).heap.size) := fun k e => (h1.base k e).2
  have k1 := hA _ _ hS2 (Tk.refl h1)
  clear h h1
  go_enter Tryz.func46, Tryz.ntmps46
  go_wp2_with fail
  go_fit k1
  rintro e w2 ⟨t1, ht1, rfl, hn1, h2⟩
  clear k1
  generalize hW : w1.alloc (ndX zN) = W1 at *
  have hs2W : W1.heap.size ≤ w2.heap.size := h2.2.size
  have b3 : Below w2.heap.size w2 (w2.alloc (ndX (t1 []))) := (Below.refl _ _).alloc (Nat.le_refl _) _
  have H3 : Hid (Tk S B v a c R s1 W1 (w2.alloc (ndX (t1 [])))) := h2.below hS2 b3
  have HN3 : Hid (Nw W1.heap.size (w2.alloc (ndX (t1 []))) t1) := hn1.below b3
  have HC3 : Hid (Cs (w2.alloc (ndX (t1 []))) w2.heap.size 0 (t1 [])) := cells_ndX _
  have hl3 : w2.heap.size < (w2.alloc (ndX (t1 []))).heap.size := by simp
  clear h2 b3 hn1
  go_wp2_with fail
  generalize hW3 : w2.alloc (ndX (t1 [])) = W3 at *
  go_loopw [3] (fun row w' => row = .slice (some ⟨w2.heap.size, 0, none⟩) 1 1 ∧ w' = W3) (fun _ _ => 0)
  case atStart => exact ⟨rfl, rfl⟩
  case round =>
    obtain ⟨rfl, rfl⟩ := hrel
    have hS3 : S ≤ wr.heap.size := Nat.le_trans hS2 H3.out.2.size
    have k7 := takes_no (x := ⟨#[124]⟩) (Tk.refl H3.out.1) hS3 (by decide) (by omega) hs1
    go_wp2_with fail
    go_fit k7
    rintro e w8 ⟨rfl, h8⟩
    have k9 := joined1 5 w2.heap.size 1 (t1 []) w8 (Nat.lt_of_lt_of_le hl3 h8.2.size) (HC3.out.kp h8.2 (fun e => by have := HM.out _ e; omega))
    have H8 : Hid (Tk S B v a c R s1 W1 w8) := Tk.trans H3.out h8
    have HN8 : Hid (Nw W1.heap.size w8 t1) := HN3.out.kp h8.2 (fun k hk _ e => by have := HM.out k e; omega)
    clear k7 h8 HC3 HN3 H3 hW3
    go_wp2_with fail
    go_fit k9
    rintro e w9 ⟨rfl, b9⟩
    subst hW
    obtain ⟨cb, ff, hE, hN, hT⟩ := box_end hS hG hsz hlt HK.out (H8.out.below hS2 b9) (HN8.out.below b9)
    have HE : Hid (Cs (st9 w9 w1.heap.size (t1 [])) w1.heap.size 0 (t1 [])) := hE
    have HN : Hid (Nw w1.heap.size (st9 w9 w1.heap.size (t1 [])) t1 ∧ Tk S B v a c R s1 w (st9 w9 w1.heap.size (t1 []))) := ⟨hN, hT⟩
    clear k9 b9 hE hN hT H8 HN8
    obtain ⟨q0, q1, q2, q3, q4, q5, q6, q7, q8⟩ := cb
    simp only [Nat.zero_add] at q0 q1 q2 q3 q4 q5 q6 q7 q8
    go_wp2_with fail
    clear q0 q1 q2 q3 q4 q5 q6 q7 q8
    obtain ⟨q0, q1, q2, q3, q4, q5, q6, q7, q8⟩ := HE.out
    have HT := HN.out
    change bodyPost _ _ _ _ _ (st9 w9 w1.heap.size (t1 []))
    generalize (st9 w9 w1.heap.size (t1 [])) = W9 at *
    simp only [Nat.zero_add] at q0 q1 q2 q3 q4 q5 q6 q7 q8
    refine bodyPost_ret (v := ndV (t1 [])) (by simp [results, Tryz.results46, go_sem, q0, q1, q2, q3, q4, q5, q6, q7, q8]; try rfl) rfl ?_
    exact ⟨t1, ht1, rfl, HT.1, HT.2⟩

theorem Tk.pastM {S B : Nat} {v : Value} {a : Option Addr} {c : Nat} {R : List Int} {s : Ps} {w W W' : World} {M : Nat → Prop} (h : Tk S B v a c R s w W) (hS : S ≤ w.heap.size) (k : Kp M W W') (hM : ∀ g, M g → ¬ Mv B v g) (hw : ∀ g, M g → w.heap.size ≤ g) : Tk S B v a c R s w W' :=
  ⟨h.1.kp k (fun e => hM _ e (.inl rfl)) (fun _ e e' => hM _ e' (.inr e)) (k.below (Nat.le_trans hS h.2.size) (fun i hi e => by have := hw i e; omega)), h.2.trans' k (fun i hi e => by have := hw i e; omega)⟩
/-- One node more, from wherever it lies. -/
theorem append_nx (w : World) (S : Nat) (v : Value) (n : Nat) (f : Nat → Nd) (g : Nat) (x : Nd) (hS : S ≤ w.heap.size) (hn : (n + 1) * 112 ≤ 140737488355328) (o : w.ownsRow S 25 9 v n (n9 f n)) (h : Cs w g 0 x) :
    ∃ G c w', (Builtin.append_ #[23, 23] 23 #[v, .slice (some ⟨g, 0, none⟩) 1 1]).run Tryz.prog w = .ok (.slice (some ⟨G, 0, none⟩) (n + 1) c) w' ∧ w'.ownsRow S 25 9 (.slice (some ⟨G, 0, none⟩) (n + 1) c) (n + 1) (n9 (up f n x) (n + 1)) ∧ Kp (fun k => v.ownBlock = some k) w w' := by
  obtain ⟨i0, hi, hz0, hz1, hz2⟩ := info_parts infX
  obtain ⟨q0, q1, q2, q3, q4, q5, q6, q7, q8⟩ := h
  simp only [Nat.zero_add] at q0 q1 q2 q3 q4 q5 q6 q7 q8
  obtain ⟨v', w', r, o', g', _, h5⟩ := run_append_own_at (P := Tryz.prog) w S 23 23 25 i0 _ 9 112 Tryz.underlying23 hi hz0 hz1 hz2 rfl (by decide) v n (n9 f n) o ⟨g, 0, none⟩ 1 1 (ndC x) (by rfl)
    (fun j u hj => by
      rw [Go.WideShapes.add_plain, Nat.zero_add]
      match j, hj with
      | 0, hj => cases hj; exact q0
      | 1, hj => cases hj; exact q1
      | 2, hj => cases hj; exact q2
      | 3, hj => cases hj; exact q3
      | 4, hj => cases hj; exact q4
      | 5, hj => cases hj; exact q5
      | 6, hj => cases hj; exact q6
      | 7, hj => cases hj; exact q7
      | 8, hj => cases hj; exact q8
      | j + 9, hj => simp at hj) (by intro u hu; simp at hu; rcases hu with rfl | rfl | rfl | rfl | rfl | rfl | rfl | rfl | rfl <;> rfl) (by unfold maxLen; omega) hn hS
  rw [← n9_push] at o'
  rcases o'.2 with ⟨_, h0⟩ | ⟨G, C, cur, rfl, _⟩
  · omega
  · exact ⟨G, C, w', r, o', (Kp.refl _ w).grown g' (fun k hk _ => hk)⟩
theorem own_bd {S e s n : Nat} {w : World} {v : Value} {xs : List Value} (h : w.ownsRow S e s v n xs) : ∀ G, v.ownBlock = some G → S ≤ G ∧ G < w.heap.size := by
  intro G hG
  rcases h.2 with ⟨rfl, _⟩ | ⟨g, cap, cur, rfl, hg, hh, _⟩
  · cases hG
  · have : g = G := Option.some.inj hG
    subst this
    exact ⟨hg, (Array.getElem?_eq_some_iff.1 hh).1⟩
set_option maxRecDepth 100000 in
set_option maxHeartbeats 1000000 in
theorem joined0g (k : Int) (a : Option Addr) (c : Nat) (w : World) : Calls Tryz.prog 65 #[.int .i64 k, .slice a 0 c] w fun e w' => e = .returned (ndV emN) ∧ Below w.heap.size w w' := by
  have HB : Hid (Below w.heap.size w (w.alloc (ndX emN))) := (Below.refl _ w).alloc (Nat.le_refl _) _
  have HC : Hid (Cs (w.alloc (ndX emN)) w.heap.size 0 emN) := cells_ndX emN
  go_enter Tryz.func65, Tryz.ntmps65
  go_wp2_with fail
  obtain ⟨q0, q1, q2, q3, q4, q5, q6, q7, q8⟩ := HC.out
  have HT := HB.out
  change bodyPost _ _ _ _ _ (w.alloc (ndX emN))
  generalize (w.alloc (ndX emN)) = W9 at *
  simp only [Nat.zero_add] at q0 q1 q2 q3 q4 q5 q6 q7 q8
  refine bodyPost_ret (v := ndV emN) (by simp [results, Tryz.results65, go_sem, q0, q1, q2, q3, q4, q5, q6, q7, q8]; try rfl) rfl ?_
  exact ⟨rfl, HT⟩
set_option maxRecDepth 100000 in
set_option maxHeartbeats 1000000 in
theorem joinedN (k : Int) (g n c : Nat) (w : World) (hn : 2 ≤ n) : Calls Tryz.prog 65 #[.int .i64 k, .slice (some ⟨g, 0, none⟩) n c] w fun e w' => e = .returned (ndV (jnN k g n c)) ∧ Below w.heap.size w w' := by
  have HB : Hid (Below w.heap.size w (w.alloc (ndX (jnN k g n c)))) := (Below.refl _ w).alloc (Nat.le_refl _) _
  have HC : Hid (Cs (w.alloc (ndX (jnN k g n c))) w.heap.size 0 (jnN k g n c)) := cells_ndX (jnN k g n c)
  have e0 : ((n : Int) == 0) = false := by simp; omega
  have e1 : ((n : Int) == 1) = false := by simp; omega
  go_enter Tryz.func65, Tryz.ntmps65
  go_wp2_with fail
  obtain ⟨q0, q1, q2, q3, q4, q5, q6, q7, q8⟩ := HC.out
  have HT := HB.out
  change bodyPost _ _ _ _ _ (w.alloc (ndX (jnN k g n c)))
  generalize (w.alloc (ndX (jnN k g n c))) = W9 at *
  simp only [Nat.zero_add] at q0 q1 q2 q3 q4 q5 q6 q7 q8
  refine bodyPost_ret (v := ndV (jnN k g n c)) (by simp [results, Tryz.results65, go_sem, q0, q1, q2, q3, q4, q5, q6, q7, q8]; try rfl) rfl ?_
  exact ⟨rfl, HT⟩
/-- The tree of a row of runes. -/
def RwT (x : Nat → Int) (n : Nat) (t : Tr) : Prop := (n = 0 ∧ t = emT) ∨ (n = 1 ∧ t = ltT (x 0)) ∨ (2 ≤ n ∧ ∃ G c, t = topT (jnN 4 G n c) (fun j => ltT (x j)))
theorem joinedR (x : Nat → Int) (n S : Nat) (a' : Option Addr) (c' : Nat) (w : World) (hn : n ≤ 5000) (o : w.ownsRow S 25 9 (.slice a' n c') n (n9 (fun j => ltN (x j)) n)) :
    Calls Tryz.prog 65 #[.int .i64 4, .slice a' n c'] w fun e w' => ∃ t, RwT x n t ∧ e = .returned (ndV (t [])) ∧ Nw S w' t ∧ Below w.heap.size w w' := by
  match n, hn, o with
  | 0, _, _ => exact (joined0g 4 a' c' w).mono fun e w' ⟨he, hb⟩ => ⟨emT, .inl ⟨rfl, rfl⟩, he, em_nw _ _, hb⟩
  | 1, _, o =>
    obtain ⟨a2, c2, e2, hc, hk⟩ := row_kz o
    cases e2
    rcases hk with h0 | ⟨g, p, e, hg, hc⟩
    · omega
    · cases e
      rcases o.2 with ⟨_, h0⟩ | ⟨g', _, _, e', hS, hh, _⟩
      · omega
      · cases e'
        exact (joined1 4 g _ (ltN (x 0)) w (Array.getElem?_eq_some_iff.1 hh).1 (hc 0 (by omega))).mono fun e w' ⟨he, hb⟩ => ⟨ltT (x 0), .inr (.inl ⟨rfl, rfl⟩), he, lt_nw _ _ _, hb⟩
  | n + 2, hn, o =>
    obtain ⟨a2, c2, e2, hcc, hk⟩ := row_kz o
    cases e2
    rcases hk with h0 | ⟨g, p, e, hg, hc⟩
    · omega
    · cases e
      have hbd := own_bd o
      rcases o.2 with ⟨_, h0⟩ | ⟨g', _, _, e', hS, hh, _⟩
      · omega
      · cases e'
        have hgl := (Array.getElem?_eq_some_iff.1 hh).1
        refine (joinedN 4 g (n + 2) c' w (by omega)).mono fun e w' ⟨he, hb⟩ => ⟨topT (jnN 4 g (n + 2) c') (fun j => ltT (x j)), .inr (.inr ⟨by omega, g, c', rfl⟩), he, ?_, hb⟩
        refine topT_z ⟨by show 0 * 8 ≤ 140737488351232; decide, by show (n + 2) * 8 ≤ 140737488351232; omega, by show (0 : Nat) ≤ 140737488351232; decide, hcc⟩ (.inl rfl) (.inr ⟨g, 0, rfl, ⟨hS, Nat.lt_of_lt_of_le hgl hb.size⟩, fun j hj => ?_⟩) (fun j hj => lt_nw _ _ _)
        exact (hc j hj).below hb hgl
end Go.Proofs.YtajaadagejhllaaGreatDoor
