/- A bundle of texts. -/
import Derived.Test.YtajaadagejhllaaGreatDoorBs16
import Derived.Test.YtajaadagejhllaaGreatDoorBs18
/- merged, oneOf, literal: one range. -/
namespace Go.Proofs.YtajaadagejhllaaGreatDoor
open Go.RowKit Go.Lib

/-- One range in a row of its own. -/
def Ro1 (S : Nat) (w : World) (v : Value) (x : Rg) : Prop := w.ownsRow S 58 2 v 1 [.int .i32 x.1, .int .i32 x.2]
theorem Ro1.open {S : Nat} {w : World} {v : Value} {x : Rg} (h : Ro1 S w v x) : ∃ g c, v = .slice (some ⟨g, 0, none⟩) 1 c ∧ S ≤ g ∧ g < w.heap.size ∧ w.cell? ⟨g, 0, none⟩ = some (.int .i32 x.1) ∧ w.cell? ⟨g, 1, none⟩ = some (.int .i32 x.2) := by
  rcases h.2 with ⟨_, h0⟩ | ⟨g, c, cur, rfl, hS, hh, _⟩
  · omega
  · have hc := World.ownsRow.cells h (g := g) rfl
    have c0 := hc 0 _ rfl
    have c1 := hc 1 _ rfl
    simp [Addr.add] at c0 c1
    exact ⟨g, c, rfl, hS, (Array.getElem?_eq_some_iff.1 hh).1, c0, c1⟩
theorem Ro1.kp {S : Nat} {w w' : World} {v : Value} {x : Rg} {M : Nat → Prop} (h : Ro1 S w v x) (k : Kp M w w') (hm : ∀ g, v.ownBlock = some g → ¬ M g) : Ro1 S w' v x := k.row h hm
theorem Ro1.below {S : Nat} {w w' : World} {v : Value} {x : Rg} (h : Ro1 S w v x) (b : Below w.heap.size w w') : Ro1 S w' v x := h.kp (M := fun _ => False) (Kp.of b) (fun _ _ => id)
theorem Ro1.mono {S S' : Nat} {w : World} {v : Value} {x : Rg} (h : Ro1 S w v x) (hs : S' ≤ S) : Ro1 S' w v x := by
  rcases h with ⟨h1, h2 | ⟨g, c, cur, e, hS, r⟩⟩
  · exact ⟨h1, .inl h2⟩
  · exact ⟨h1, .inr ⟨g, c, cur, e, by omega, r⟩⟩
theorem append_r1 (w : World) (S : Nat) (x : Rg) (hS : S ≤ w.heap.size) :
    ∃ v' w', (Builtin.append_ #[22, 22] 22 #[.slice none 0 0, .slice (some ⟨w.heap.size, 0, none⟩) 1 1]).run Tryz.prog (w.alloc (rgX x)) = .ok v' w' ∧ Ro1 S w' v' x ∧ Below w.heap.size w w' := by
  obtain ⟨i0, hi, hz0, hz1, hz2⟩ := info_parts info58
  obtain ⟨v', w', r, o', g, _⟩ := run_append_own (P := Tryz.prog) (w.alloc (rgX x)) S 22 22 58 i0 (.agg #[.int .i32 0, .int .i32 0]) 2 8 Tryz.underlying22 hi hz0 hz1 hz2 rfl (by decide) (.slice none 0 0) 0 [] (World.ownsRow_nil _ _ _ _) ⟨w.heap.size, 0, none⟩ 1 1 [.int .i32 x.1, .int .i32 x.2] rfl (cell_two_new w x) (by simp [Value.oneCell']) (by decide) (by decide) (by simp; omega)
  exact ⟨v', w', r, o', ((Below.refl _ w).alloc (Nat.le_refl _) _).grown g (by simp) (fun j e => by cases e)⟩
set_option maxRecDepth 100000 in
theorem collect_any (Bs : Nat) (a : Option Addr) (f : Nat → Rg) (N c : Nat) (hN : N ≤ 17592186044416) (w : World) (hBs : w.cell? ⟨Bs, 0, none⟩ = some (.slice a N c)) (hBn : Bs < w.heap.size) (hR : Rmb w.heap.size w a f N) :
    Calls Tryz.prog 160 #[.func (.func 162) #[] #[.pointer (some ⟨Bs, 0, none⟩)]] w fun e W' => ∃ v, e = .returned v ∧ W'.ownsRow w.heap.size 58 2 v N (rs2 (lf f N)) ∧ Below w.heap.size w W' := by
  have k := callsIn_wide.1 (appendSeq_in 3 (by omega) Bs a f N c hN w hBs hBn hR)
  clear hBs hR
  go_enter Tryz.func160, Tryz.ntmps160
  go_wp2_with fail
  go_fit k
  rintro e w2 ⟨v, rfl, h2⟩
  go_wp2
  go_ret
  exact ⟨v, rfl, h2⟩
set_option maxRecDepth 100000 in
theorem sorted1 (Bs : Nat) (a : Option Addr) (x : Rg) (c : Nat) (f : Value) (w : World) (hBs : w.cell? ⟨Bs, 0, none⟩ = some (.slice a 1 c)) (hBn : Bs < w.heap.size) (hR : Rmb w.heap.size w a (fun _ => x) 1) :
    Calls Tryz.prog 154 #[.func (.func 162) #[] #[.pointer (some ⟨Bs, 0, none⟩)], f] w fun e W' => ∃ v, e = .returned v ∧ Ro1 w.heap.size W' v x ∧ Below w.heap.size w W' := by
  have k := collect_any Bs a (fun _ => x) 1 c (by omega) w hBs hBn hR
  clear hBs hR
  go_enter Tryz.func154, Tryz.ntmps154
  go_wp2_with fail
  go_fit k
  rintro e w2 ⟨v, rfl, h2, b2⟩
  have H2 : Ro1 w.heap.size w2 v x := h2
  obtain ⟨g, c', rfl, _⟩ := H2.open
  have k2 := sort1 (some ⟨g, 0, none⟩) c' f w2
  have HH : Hid (Ro1 w.heap.size w2 (.slice (some ⟨g, 0, none⟩) 1 c') x) := H2
  have HB : Hid (Below w.heap.size w w2) := b2
  clear h2 k H2 b2
  go_wp2_with fail
  go_fit k2
  rintro e w3 ⟨⟨u, rfl⟩, m, rfl⟩
  go_wp2
  go_ret
  exact ⟨_, rfl, HH.out.below (Below.drewN (Below.refl _ _) m), Below.drewN HB.out m⟩
set_option maxRecDepth 100000 in
set_option maxHeartbeats 1000000 in
theorem merged1 (a : Option Addr) (x : Rg) (c : Nat) (w : World) (hR : Rmb w.heap.size w a (fun _ => x) 1) :
    Calls Tryz.prog 147 #[.slice a 1 c] w fun e W' => ∃ v, e = .returned v ∧ Ro1 w.heap.size W' v x ∧ Below w.heap.size w W' := by
  have hb1 : Below w.heap.size w (w.alloc (.cells #[.slice a 1 c] 22)) := (Below.refl _ w).alloc (Nat.le_refl _) _
  have k := callsIn_wide.1 (values_in 3 a 1 c w)
  have k2 := sorted1 w.heap.size a x c (.func (.func 156) #[] #[]) (w.alloc (.cells #[.slice a 1 c] 22)) (Boxed.new w 22 _).cell (by simp) ((hR.below hb1).mono (by simp))
  clear hR
  go_enter Tryz.func147, Tryz.ntmps147
  go_wp2_with fail
  go_fit k
  rintro e w1 ⟨rfl, rfl⟩
  go_wp2_with fail
  go_fit k2
  rintro e w2 ⟨v, rfl, h2, b2⟩
  have HB : Hid (Below w.heap.size w w2) := hb1.trans (b2.mono (by simp))
  have HS : Hid (w.heap.size ≤ w2.heap.size) := HB.out.size
  obtain ⟨g, c', rfl, _, hg, c0, c1⟩ := h2.open
  clear h2 b2 hb1 k k2
  go_wp2_with fail
  go_loopw [4, 13] (fun out i w' => (out = .slice none 0 0 ∧ i = .int .i64 0 ∧ w' = w2) ∨ (i = .int .i64 1 ∧ Hid (Ro1 w.heap.size w' out x ∧ Below w.heap.size w w'))) (fun _ i _ => 1 - (RowKit.intOf i).toNat)
  case atStart => exact .inl ⟨rfl, rfl, rfl⟩
  case round =>
    rcases hrel with ⟨rfl, rfl, rfl⟩ | ⟨rfl, HH⟩
    · have hcl := rgX_cells (w := wr) x (W := wr.alloc (rgX x)) (Below.refl _ _)
      obtain ⟨q0, q1⟩ := hcl
      have HB1 : Hid (Below w.heap.size w (wr.alloc (rgX x))) := HB.out.alloc HS.out _
      have HQ : Hid (∀ m, ∃ v' w', (Builtin.append_ #[22, 22] 22 #[.slice none 0 0, .slice (some ⟨((wr.alloc (rgX x)).drewN m).heap.size, 0, none⟩) 1 1]).run Tryz.prog (((wr.alloc (rgX x)).drewN m).alloc (rgX x)) = .ok v' w' ∧ Ro1 w.heap.size w' v' x ∧ Below w.heap.size w w') := fun m => by
        have hb := Below.drewN HB1.out m
        obtain ⟨v', w3, r, hr, hb3⟩ := append_r1 ((wr.alloc (rgX x)).drewN m) w.heap.size x hb.size
        exact ⟨v', w3, r, hr, hb.trans (hb3.mono hb.size)⟩
      go_wp2_with fail
      go_quiet (fail)
      obtain ⟨v', w3, r, hr, hb⟩ := HQ.out nq
      have q0' : ((wr.alloc (rgX x)).drewN nq).cell? ⟨wr.heap.size, 0, none⟩ = some (.int .i32 x.1) := q0
      have q1' : ((wr.alloc (rgX x)).drewN nq).cell? ⟨wr.heap.size, 1, none⟩ = some (.int .i32 x.2) := q1
      have HF : Hid (Ro1 w.heap.size w3 v' x ∧ Below w.heap.size w w3) := ⟨hr, hb⟩
      clear q0 q1 HQ HB1 hr hb c0 c1
      generalize (wr.alloc (rgX x)).drewN nq = W0 at *
      generalize wr.heap.size = G at *
      go_wp2_with (at_builtin; refine wpList_append_run rfl (.tmp 33) (.tmp 35) 22 22 rfl _ _ rfl rfl r ?_)
      exact ⟨.inr ⟨rfl, HF⟩, by decide⟩
    · go_wp2
      go_ret
      exact ⟨_, rfl, HH.out⟩
/-- The node of a rune; of a range. -/
def ltN (r : Int) : Nd := ⟨2, r, none, 0, 0, fun _ => (0, 0), 0, 0, false, 0, ⟨#[]⟩, none, 0, 0⟩
def csN (a : Option Addr) (c : Nat) (x : Rg) : Nd := ⟨3, 0, a, 1, c, fun _ => x, 0, 0, false, 0, ⟨#[]⟩, none, 0, 0⟩
theorem st9_below {G : Nat} {w W : World} (h : Below G w W) (hG : G ≤ w.heap.size) (d : Nd) : Below G w (st9 W G d) := h.trans ((st9_kp W G d).below (Nat.le_trans hG h.size) (fun _ hk e => by omega))
set_option maxRecDepth 100000 in
set_option maxHeartbeats 1000000 in
theorem oneOf_lit (a : Option Addr) (x : Rg) (c : Nat) (w : World) (hR : Rmb w.heap.size w a (fun _ => x) 1) (hx : x.1 = x.2) :
    Calls Tryz.prog 132 #[.slice a 1 c] w fun e W' => e = .returned (ndV (ltN x.1)) ∧ Below w.heap.size w W' := by
  have hb : Below w.heap.size w (w.alloc (ndX zN)) := (Below.refl _ w).alloc (Nat.le_refl _) _
  have k := merged1 a x c (w.alloc (ndX zN)) ((hR.below hb).mono (by simp))
  clear hR
  go_enter Tryz.func132, Tryz.ntmps132
  go_wp2_with fail
  go_fit k
  rintro e w2 ⟨v, rfl, h2, b2⟩
  obtain ⟨g, c', rfl, hg0, hg, c0, c1⟩ := h2.open
  have hG : w.heap.size < (w.alloc (ndX zN)).heap.size := by simp
  have cc : Cs w2 w.heap.size 0 zN := ndX_cells (w := w) zN b2
  have ff : ∀ i, w2.frozen? ⟨w.heap.size, i, none⟩ = false := fun i => (b2.frozen (p := ⟨w.heap.size, i, none⟩) hG).trans (by simp)
  have HB : Hid (Below w.heap.size w w2) := hb.trans (b2.mono (by simp))
  have HO : Hid (Ro1 (w.heap.size + 1) w2 (.slice (some ⟨g, 0, none⟩) 1 c') x) := h2.mono (by simp)
  have HZ : Hid (Cs w2 w.heap.size 0 zN) := cc
  have hsz : w.heap.size < w2.heap.size := by have := b2.size; omega
  clear h2 b2 hb k hG hg0 cc
  rw [← hx] at c1
  clear hx
  have he : (x.1 == x.1) = true := by simp
  go_wp2_with fail
  go_quiet (fail)
  have c0' : (w2.drewN nq).cell? _ = _ := c0
  have c1' : (w2.drewN nq).cell? _ = _ := c1
  have ff' : ∀ i, (w2.drewN nq).frozen? ⟨w.heap.size, i, none⟩ = false := ff
  have HD : Hid (Below w.heap.size w (w2.drewN nq)) := Below.drewN HB.out nq
  have HP : Hid (Ro1 (w.heap.size + 1) (w2.drewN nq) (.slice (some ⟨g, 0, none⟩) 1 c') x) := HO.out.below (Below.drewN (Below.refl _ _) nq)
  have cc : Cs (w2.drewN nq) w.heap.size 0 zN := HZ.out.below (Below.drewN (Below.refl w2.heap.size w2) nq) hsz
  clear c0 c1 ff hsz HB HO HZ hg
  generalize w2.drewN nq = W0 at *
  have HE : Hid (Cs (st9 W0 w.heap.size (ltN x.1)) w.heap.size 0 (ltN x.1)) := st9_cs _ cc
  obtain ⟨q0, q1, q2, q3, q4, q5, q6, q7, q8⟩ := cc
  simp only [Nat.zero_add] at q0 q1 q2 q3 q4 q5 q6 q7 q8
  go_wp2_with fail
  clear q0 q1 q2 q3 q4 q5 q6 q7 q8
  obtain ⟨q0, q1, q2, q3, q4, q5, q6, q7, q8⟩ := HE.out
  have HT := (st9_below HD.out (Nat.le_refl _) (ltN x.1))
  change bodyPost _ _ _ _ _ (st9 W0 w.heap.size (ltN x.1))
  generalize (st9 W0 w.heap.size (ltN x.1)) = W9 at *
  simp only [Nat.zero_add] at q0 q1 q2 q3 q4 q5 q6 q7 q8
  refine bodyPost_ret (v := ndV (ltN x.1)) (by simp [results, Tryz.results132, go_sem, q0, q1, q2, q3, q4, q5, q6, q7, q8]; try rfl) rfl ?_
  exact ⟨rfl, HT⟩
set_option maxRecDepth 100000 in
set_option maxHeartbeats 1000000 in
theorem oneOf_cls (a : Option Addr) (x : Rg) (c : Nat) (w : World) (hR : Rmb w.heap.size w a (fun _ => x) 1) (hx : ¬ x.1 = x.2) :
    Calls Tryz.prog 132 #[.slice a 1 c] w fun e W' => ∃ a' c', e = .returned (ndV (csN a' c' x)) ∧ Ro1 (w.heap.size + 1) W' (.slice a' 1 c') x ∧ Below w.heap.size w W' := by
  have hb : Below w.heap.size w (w.alloc (ndX zN)) := (Below.refl _ w).alloc (Nat.le_refl _) _
  have k := merged1 a x c (w.alloc (ndX zN)) ((hR.below hb).mono (by simp))
  clear hR
  go_enter Tryz.func132, Tryz.ntmps132
  go_wp2_with fail
  go_fit k
  rintro e w2 ⟨v, rfl, h2, b2⟩
  obtain ⟨g, c', rfl, hg0, hg, c0, c1⟩ := h2.open
  have hG : w.heap.size < (w.alloc (ndX zN)).heap.size := by simp
  have cc : Cs w2 w.heap.size 0 zN := ndX_cells (w := w) zN b2
  have ff : ∀ i, w2.frozen? ⟨w.heap.size, i, none⟩ = false := fun i => (b2.frozen (p := ⟨w.heap.size, i, none⟩) hG).trans (by simp)
  have HB : Hid (Below w.heap.size w w2) := hb.trans (b2.mono (by simp))
  have HO : Hid (Ro1 (w.heap.size + 1) w2 (.slice (some ⟨g, 0, none⟩) 1 c') x) := h2.mono (by simp)
  have HZ : Hid (Cs w2 w.heap.size 0 zN) := cc
  have hsz : w.heap.size < w2.heap.size := by have := b2.size; omega
  clear h2 b2 hb k hG hg0 cc
  have he : (x.1 == x.2) = false := by simpa using hx
  go_wp2_with fail
  go_quiet (fail)
  have c0' : (w2.drewN nq).cell? _ = _ := c0
  have c1' : (w2.drewN nq).cell? _ = _ := c1
  have ff' : ∀ i, (w2.drewN nq).frozen? ⟨w.heap.size, i, none⟩ = false := ff
  have HD : Hid (Below w.heap.size w (w2.drewN nq)) := Below.drewN HB.out nq
  have HP : Hid (Ro1 (w.heap.size + 1) (w2.drewN nq) (.slice (some ⟨g, 0, none⟩) 1 c') x) := HO.out.below (Below.drewN (Below.refl _ _) nq)
  have cc : Cs (w2.drewN nq) w.heap.size 0 zN := HZ.out.below (Below.drewN (Below.refl w2.heap.size w2) nq) hsz
  clear c0 c1 ff hsz HB HO HZ hg
  generalize w2.drewN nq = W0 at *
  have HE : Hid (Cs (st9 W0 w.heap.size (csN (some ⟨g, 0, none⟩) c' x)) w.heap.size 0 (csN (some ⟨g, 0, none⟩) c' x)) := st9_cs _ cc
  obtain ⟨q0, q1, q2, q3, q4, q5, q6, q7, q8⟩ := cc
  simp only [Nat.zero_add] at q0 q1 q2 q3 q4 q5 q6 q7 q8
  go_wp2_with fail
  clear q0 q1 q2 q3 q4 q5 q6 q7 q8
  have HR : Hid (Ro1 (w.heap.size + 1) (st9 W0 w.heap.size (csN (some ⟨g, 0, none⟩) c' x)) (.slice (some ⟨g, 0, none⟩) 1 c') x) := HP.out.kp (st9_kp _ _ _) (fun j e e' => by
    obtain ⟨g', c2, e2, h2, _⟩ := HP.out.open
    cases e2
    have : g = j := Option.some.inj e
    omega)
  obtain ⟨q0, q1, q2, q3, q4, q5, q6, q7, q8⟩ := HE.out
  have HT := (st9_below HD.out (Nat.le_refl _) (csN (some ⟨g, 0, none⟩) c' x))
  change bodyPost _ _ _ _ _ (st9 W0 w.heap.size (csN (some ⟨g, 0, none⟩) c' x))
  generalize (st9 W0 w.heap.size (csN (some ⟨g, 0, none⟩) c' x)) = W9 at *
  simp only [Nat.zero_add] at q0 q1 q2 q3 q4 q5 q6 q7 q8
  refine bodyPost_ret (v := ndV (csN (some ⟨g, 0, none⟩) c' x)) (by simp [results, Tryz.results132, go_sem, q0, q1, q2, q3, q4, q5, q6, q7, q8]; try rfl) rfl ?_
  exact ⟨_, _, rfl, HR.out, HT⟩
end Go.Proofs.YtajaadagejhllaaGreatDoor
/- The parser: literal. -/
namespace Go.Proofs.YtajaadagejhllaaGreatDoor
open Go.RowKit Go.Lib

set_option maxRecDepth 100000 in
set_option maxHeartbeats 1000000 in
theorem literal_any {S B : Nat} {v : Value} {a : Option Addr} {c : Nat} {R : List Int} {s : Ps} {w : World} (h : Rd S w B v a c R s) (hf : s.fl = 0) (r : Int) :
    Calls Tryz.prog 112 #[.pointer (some ⟨B, 0, none⟩), .int .i32 r] w fun e w' => e = .returned (ndV (ltN r)) ∧ Below w.heap.size w w' := by
  have hb : Below w.heap.size w (w.alloc (ndX zN)) := (Below.refl _ w).alloc (Nat.le_refl _) _
  have hb2 : Below w.heap.size w ((w.alloc (ndX zN)).alloc (rgX (r, r))) := hb.alloc (by simp) _
  have hb3 : Below (w.alloc (ndX zN)).heap.size (w.alloc (ndX zN)) ((w.alloc (ndX zN)).alloc (rgX (r, r))) := (Below.refl _ _).alloc (Nat.le_refl _) _
  have c2 : ((w.alloc (ndX zN)).alloc (rgX (r, r))).cell? ⟨B, 2, none⟩ = some (.int .u8 0) := (hb2.cell (p := ⟨B, 2, none⟩) h.lt).trans (by rw [h.c2, hf])
  have hcl := rgX_cells (w := w.alloc (ndX zN)) (r, r) (W := (w.alloc (ndX zN)).alloc (rgX (r, r))) (Below.refl _ _)
  have k := oneOf_lit (some ⟨w.heap.size + 1, 0, none⟩) (r, r) 1 ((w.alloc (ndX zN)).alloc (rgX (r, r))) (.inr ⟨_, _, rfl, by simp, fun j hj => by
    have : j = 0 := by omega
    subst this
    simp only [World.size_alloc] at hcl
    exact hcl⟩) rfl
  have HZ : Hid (Cs ((w.alloc (ndX zN)).alloc (rgX (r, r))) w.heap.size 0 zN) := ndX_cells (w := w) zN hb3
  have HB2 : Hid (Below w.heap.size w ((w.alloc (ndX zN)).alloc (rgX (r, r)))) := hb2
  have HF : Hid (∀ i, ((w.alloc (ndX zN)).alloc (rgX (r, r))).frozen? ⟨w.heap.size, i, none⟩ = false) := fun i => (hb3.frozen (p := ⟨w.heap.size, i, none⟩) (by simp)).trans (by simp)
  clear h hf hb hb2 hb3 hcl
  go_enter Tryz.func112, Tryz.ntmps112
  simp only [ndX, rxX, zN, rgX] at c2
  go_wp2_with fail
  go_fit k
  rintro e w2 ⟨rfl, b2⟩
  have cc : Cs w2 w.heap.size 0 zN := HZ.out.below b2 (by simp; omega)
  have ff : ∀ i, w2.frozen? ⟨w.heap.size, i, none⟩ = false := fun i => (b2.frozen (p := ⟨w.heap.size, i, none⟩) (by simp; omega)).trans (HF.out i)
  have HB : Hid (Below w.heap.size w w2) := HB2.out.trans (b2.mono HB2.out.size)
  clear b2 k c2 HZ HF HB2
  have HE : Hid (Cs (st9 w2 w.heap.size (ltN r)) w.heap.size 0 (ltN r)) := st9_cs _ cc
  obtain ⟨q0, q1, q2, q3, q4, q5, q6, q7, q8⟩ := cc
  simp only [Nat.zero_add] at q0 q1 q2 q3 q4 q5 q6 q7 q8
  go_wp2_with fail
  clear q0 q1 q2 q3 q4 q5 q6 q7 q8
  obtain ⟨q0, q1, q2, q3, q4, q5, q6, q7, q8⟩ := HE.out
  have HT := (st9_below HB.out (Nat.le_refl _) (ltN r))
  change bodyPost _ _ _ _ _ (st9 w2 w.heap.size (ltN r))
  generalize (st9 w2 w.heap.size (ltN r)) = W9 at *
  simp only [Nat.zero_add] at q0 q1 q2 q3 q4 q5 q6 q7 q8
  refine bodyPost_ret (v := ndV (ltN r)) (by simp [results, Tryz.results112, go_sem, q0, q1, q2, q3, q4, q5, q6, q7, q8]; try rfl) rfl ?_
  exact ⟨rfl, HT⟩
end Go.Proofs.YtajaadagejhllaaGreatDoor
/- The parser: a class of one range. -/
namespace Go.Proofs.YtajaadagejhllaaGreatDoor
open Go.RowKit Go.Lib

set_option maxRecDepth 100000 in
theorem pmember_any {S B : Nat} {v : Value} {a : Option Addr} {c : Nat} {R : List Int} {s : Ps} {w w1 : World} (h : Tk S B v a c R s w w1) (hS : S ≤ w.heap.size) (hat : s.p ≤ 5000) (x : Int) (hx : ahR R s.p = x) (h1 : ¬ x = -1) (h2 : ¬ x = 92) :
    Calls Tryz.prog 149 #[.pointer (some ⟨B, 0, none⟩)] w1 fun e w' => e = .returned (.int .i32 x) ∧ Tk S B v a c R { s with p := s.p + 1 } w w' := by
  have k := take_tk h hS hat (by rw [hx]; exact h1)
  rw [hx] at k
  have e1 : (x == -1) = false := by simpa using h1
  have e2 : (x == 92) = false := by simpa using h2
  clear h hx h1 h2
  go_enter Tryz.func149, Tryz.ntmps149
  go_wp2_with fail
  go_fit k
  rintro e w2 ⟨rfl, h2⟩
  have H2 : Hid _ := h2
  clear h2 k
  go_wp2
  go_ret
  exact ⟨rfl, H2.out⟩
set_option maxRecDepth 100000 in
theorem namedSet_no {S B : Nat} {v : Value} {a : Option Addr} {c : Nat} {R : List Int} {s : Ps} {w w1 : World} (h : Tk S B v a c R s w w1) (hS : S ≤ w.heap.size) (hat : s.p ≤ 5000) (hs : seB R s.p [91, 58] = false) :
    Calls Tryz.prog 148 #[.pointer (some ⟨B, 0, none⟩)] w1 fun e w' => e = .returned (.tuple #[.slice none 0 0, .bool false]) ∧ Tk S B v a c R s w w' := by
  have k := sees_tk (x := ⟨#[91, 58]⟩) h hS (by decide) hat
  rw [show seB R s.p (ByteArray.mk #[91, 58]).data.toList = false from hs] at k
  clear h
  go_enter Tryz.func148, Tryz.ntmps148
  go_wp2_with fail
  go_fit k
  rintro e w2 ⟨rfl, h2⟩
  have H2 : Hid _ := h2
  clear h2 k
  go_wp2
  refine bodyPost_ret (v := .tuple #[.slice none 0 0, .bool false]) (by simp [results, Tryz.results148, go_sem]) rfl ?_
  exact ⟨rfl, H2.out⟩
set_option maxRecDepth 100000 in
set_option maxHeartbeats 1000000 in
theorem item_range {S B : Nat} {v : Value} {a : Option Addr} {c : Nat} {R : List Int} {s : Ps} {w w1 : World} (h : Tk S B v a c R s w w1) (hS : S ≤ w.heap.size) (hat : s.p ≤ 4000) (hs1 : seB R s.p [91, 58] = false) (hs2 : seB R s.p [92] = false) (x y : Int) (hx : ahR R s.p = x) (x1 : ¬ x = -1) (x2 : ¬ x = 92)
    (hs3 : seB R (s.p + 1) [45] = true) (hy : ahR R (s.p + 2) = y) (y1 : ¬ y = -1) (y2 : ¬ y = 92) (y3 : ¬ y = 93) (hxy : ¬ y < x) :
    Calls Tryz.prog 135 #[.pointer (some ⟨B, 0, none⟩)] w1 fun e w' => ∃ g, e = .returned (.slice (some ⟨g, 0, none⟩) 1 1) ∧ Rmb w'.heap.size w' (some ⟨g, 0, none⟩) (fun _ => (x, y)) 1 ∧ w.heap.size ≤ g ∧ Tk S B v a c R { s with p := s.p + 3 } w w' := by
  have k1 := namedSet_no h hS (by omega) hs1
  have e3 : (y != 93) = true := by simpa using y3
  clear h
  go_enter Tryz.func135, Tryz.ntmps135
  go_wp2_with fail
  go_fit k1
  rintro e w2 ⟨rfl, h2⟩
  have k2 := sees_tk (x := ⟨#[92]⟩) h2 hS (by decide) (by omega)
  rw [show seB R s.p (ByteArray.mk #[92]).data.toList = false from hs2] at k2
  clear k1 h2
  go_wp2_with fail
  go_fit k2
  rintro e w3 ⟨rfl, h3⟩
  have k3 := pmember_any h3 hS (by omega) x hx x1 x2
  clear k2 h3
  go_wp2_with fail
  go_fit k3
  rintro e w4 ⟨rfl, h4⟩
  have k4 := sees_tk (x := ⟨#[45]⟩) h4 hS (by decide) (by show s.p + 1 ≤ 5000; omega)
  rw [show seB R (s.p + 1) (ByteArray.mk #[45]).data.toList = true from hs3] at k4
  clear k3 h4
  go_wp2_with fail
  go_fit k4
  rintro e w5 ⟨rfl, h5⟩
  have k5 := ahead_tk h5 hS 1 (by omega) (by show s.p + 1 ≤ 5000; omega)
  rw [show ahR R (s.p + 1 + 1) = y from hy] at k5
  clear k4 h5
  go_wp2_with fail
  go_fit k5
  rintro e w6 ⟨rfl, h6⟩
  have c1 : w6.cell? ⟨B, 1, none⟩ = some (.int .i64 ((s.p + 1 : Nat) : Int)) := h6.1.c1
  have f1 := h6.1.fz 1
  have hw : IntKind.i64.wrap (((s.p + 1 : Nat) : Int) + 1) = ((s.p + 2 : Nat) : Int) := by rw [IntKind.wrap_i64]; omega
  have hS6 : S ≤ w6.heap.size := Nat.le_trans hS h6.2.size
  have g6 := h6.1.go hS6 (s.p + 2)
  have h7 : Tk S B v a c R { s with p := s.p + 2 } w (w6.setCell ⟨B, 1, none⟩ (.int .i64 ((s.p + 2 : Nat) : Int))) := ⟨g6.1, h6.2.trans g6.2⟩
  have k6 := pmember_any h7 hS (by show s.p + 2 ≤ 5000; omega) y hy y1 y2
  clear k5 h6 h7 g6
  go_wp2_with fail
  go_fit k6
  rintro e w8 ⟨rfl, h8⟩
  have hc := rgX_cells (w := w8) (x, y) (W := w8.alloc (rgX (x, y))) (Below.refl _ _)
  have HR : Hid (Rmb (w8.alloc (rgX (x, y))).heap.size (w8.alloc (rgX (x, y))) (some ⟨w8.heap.size, 0, none⟩) (fun _ => (x, y)) 1) := .inr ⟨_, _, rfl, by simp, fun j hj => by
    have : j = 0 := by omega
    subst this
    exact hc⟩
  have HT : Hid (Tk S B v a c R { s with p := s.p + 3 } w (w8.alloc (rgX (x, y)))) := Tk.below h8 hS ((Below.refl _ _).alloc (Nat.le_refl _) _)
  have hg : w.heap.size ≤ w8.heap.size := h8.2.size
  clear k6 h8 hc
  go_wp2
  go_ret
  exact ⟨_, rfl, HR.out, hg, HT.out⟩
end Go.Proofs.YtajaadagejhllaaGreatDoor
/- The parser: class, single. -/
namespace Go.Proofs.YtajaadagejhllaaGreatDoor
open Go.RowKit Go.Lib

theorem box_ff (w : World) (d : Nd) (i : Nat) : (w.alloc (ndX d)).frozen? ⟨w.heap.size, i, none⟩ = false := by simp
theorem kp_ff {M : Nat → Prop} {w w' : World} {g : Nat} (k : Kp M w w') (hg : ¬ M g) (hlt : g < w.heap.size) (h : ∀ i, w.frozen? ⟨g, i, none⟩ = false) : ∀ i, w'.frozen? ⟨g, i, none⟩ = false := fun i => (World.frozen?_of_block (w := w) (k.block g hlt hg)).trans (h i)
set_option maxRecDepth 100000 in
set_option maxHeartbeats 1000000 in
theorem class_range {S B : Nat} {v : Value} {a : Option Addr} {c : Nat} {R : List Int} {s : Ps} {w w1 : World} (h : Tk S B v a c R s w w1) (hS : S ≤ w.heap.size) (hat : s.p ≤ 4000) (hf : s.fl = 0) (hs0 : seB R s.p [94] = false) (hs1 : seB R s.p [91, 58] = false) (hs2 : seB R s.p [92] = false) (x y : Int) (hx : ahR R s.p = x) (x1 : ¬ x = -1) (x2 : ¬ x = 92)
    (hs3 : seB R (s.p + 1) [45] = true) (hy : ahR R (s.p + 2) = y) (y1 : ¬ y = -1) (y2 : ¬ y = 92) (y3 : ¬ y = 93) (hxy : x < y) (hs4 : seB R (s.p + 3) [93] = true) :
    Calls Tryz.prog 116 #[.pointer (some ⟨B, 0, none⟩)] w1 fun e w' => ∃ a' c', e = .returned (ndV (csN a' c' (x, y))) ∧ Ro1 w1.heap.size w' (.slice a' 1 c') (x, y) ∧ Tk S B v a c R { s with p := s.p + 4 } w w' := by
  have hS1 : S ≤ w1.heap.size := Nat.le_trans hS h.2.size
  obtain ⟨h1, hS2, hG, hlt⟩ := h.1.box hS1 (ndX zN)
  have HK : Hid (Kp (Mv B v) w (w1.alloc (ndX zN))) := h.2.trans (Kp.of ((Below.refl _ w1).alloc (Nat.le_refl _) _))
  have hsz : w.heap.size ≤ w1.heap.size := h.2.size
  have HZ : Hid (Cs (w1.alloc (ndX zN)) w1.heap.size 0 zN) := ndX_cells (w := w1) zN (Below.refl _ _)
  have HF : Hid (∀ i, (w1.alloc (ndX zN)).frozen? ⟨w1.heap.size, i, none⟩ = false) := box_ff w1 zN
  have k1 := takes_no (x := ⟨#[94]⟩) (Tk.refl h1) hS2 (by decide) (by omega) hs0
  have h1' := h1
  clear h h1
  go_enter Tryz.func116, Tryz.ntmps116
  go_wp2_with fail
  go_fit k1
  rintro e w2 ⟨rfl, h2⟩
  have k2 := item_range h2 hS2 hat hs1 hs2 x y hx x1 x2 hs3 hy y1 y2 y3 (by omega)
  clear k1 h2
  go_wp2_with fail
  go_fit k2
  rintro e w3 ⟨g, rfl, hr3, hg4, h3⟩
  have hg3 : g < w3.heap.size := by
    rcases hr3 with h0 | ⟨g', o, e, hg, _⟩
    · omega
    · cases e; exact hg
  have HR : Hid (Rmb w3.heap.size w3 (some ⟨g, 0, none⟩) (fun _ => (x, y)) 1) := hr3
  have H3 : Hid (Tk S B v a c R { s with p := s.p + 3 } (w1.alloc (ndX zN)) w3) := h3
  have HM : Hid (¬ Mv B v g) := fun e => by have := h1'.base g e; omega
  have k3 := takes_yes (x := ⟨#[93]⟩) (Tk.refl h3.1) (Nat.le_trans hS2 h3.2.size) (by decide) (by show s.p + 3 ≤ 5000; omega) hs4
  clear k2 h3 hr3
  go_wp2_with fail
  go_loopw [4] (fun u w' => u = .slice (some ⟨g, 0, none⟩) 1 1 ∧ w' = w3) (fun _ _ => 0)
  case atStart => exact ⟨rfl, rfl⟩
  case round =>
    obtain ⟨rfl, rfl⟩ := hrel
    go_wp2_with fail
    go_fit k3
    rintro e w4 ⟨rfl, h4⟩
    have h4' : Tk S B v a c R { s with p := s.p + 4 } wr w4 := h4
    have c2 : w4.cell? ⟨B, 2, none⟩ = some (.int .u8 0) := h4'.1.c2.trans (by show some (Value.int .u8 s.fl) = _; rw [hf])
    have H4 : Hid (Tk S B v a c R { s with p := s.p + 4 } (w1.alloc (ndX zN)) w4) := Tk.trans H3.out h4'
    have r4 : Rmb w4.heap.size w4 (some ⟨g, 0, none⟩) (fun _ => (x, y)) 1 := by
      rcases HR.out with h0 | ⟨g', o, e, hg, hc⟩
      · omega
      · cases e
        exact .inr ⟨g, 0, rfl, Nat.lt_of_lt_of_le hg h4.2.size, fun j hj => ⟨h4.2.cell (hc j hj).1 HM.out, h4.2.cell (hc j hj).2 HM.out⟩⟩
    have k4 := oneOf_cls (some ⟨g, 0, none⟩) (x, y) 1 w4 r4 (by show ¬ x = y; omega)
    clear h4 h4' k3 r4 HR H3
    go_wp2_with fail
    go_fit k4
    rintro e w5 ⟨a', c', rfl, hr5, b5⟩
    have hh4 : w1.heap.size < w4.heap.size := Nat.lt_of_lt_of_le hlt H4.out.2.size
    have cc : Cs w5 w1.heap.size 0 zN := (HZ.out.kp H4.out.2 hG).below b5 hh4
    have ff : ∀ i, w5.frozen? ⟨w1.heap.size, i, none⟩ = false := fun i => (b5.frozen (p := ⟨w1.heap.size, i, none⟩) hh4).trans (kp_ff H4.out.2 hG hlt HF.out i)
    have HT5 : Hid (Tk S B v a c R { s with p := s.p + 4 } w w5) := Tk.below ⟨H4.out.1, HK.out.trans H4.out.2⟩ hS b5
    have HE : Hid (Cs (st9 w5 w1.heap.size (csN a' c' (x, y))) w1.heap.size 0 (csN a' c' (x, y))) := st9_cs _ cc
    have HR5 : Hid (Ro1 w1.heap.size (st9 w5 w1.heap.size (csN a' c' (x, y))) (.slice a' 1 c') (x, y)) := (hr5.kp (st9_kp _ _ _) (fun j e e' => by
      obtain ⟨g', c2, e2, h2, _⟩ := hr5.open
      rw [e2] at e
      have : g' = j := Option.some.inj e
      omega)).mono (by omega)
    clear k4 b5 hr5 c2
    obtain ⟨q0, q1, q2, q3, q4, q5, q6, q7, q8⟩ := cc
    simp only [Nat.zero_add] at q0 q1 q2 q3 q4 q5 q6 q7 q8
    go_wp2_with fail
    clear q0 q1 q2 q3 q4 q5 q6 q7 q8
    obtain ⟨q0, q1, q2, q3, q4, q5, q6, q7, q8⟩ := HE.out
    have HT := (HT5.out.past hS (st9_kp w5 w1.heap.size (csN a' c' (x, y))) hG hsz)
    change bodyPost _ _ _ _ _ (st9 w5 w1.heap.size (csN a' c' (x, y)))
    generalize (st9 w5 w1.heap.size (csN a' c' (x, y))) = W9 at *
    simp only [Nat.zero_add] at q0 q1 q2 q3 q4 q5 q6 q7 q8
    refine bodyPost_ret (v := ndV (csN a' c' (x, y))) (by simp [results, Tryz.results116, go_sem, q0, q1, q2, q3, q4, q5, q6, q7, q8]; try rfl) rfl ?_
    exact ⟨_, _, rfl, HR5.out, HT⟩
end Go.Proofs.YtajaadagejhllaaGreatDoor
