/- The parser over quoted texts. -/
import Derived.Test.YtajaadagejhllaaGreatDoorZb
import Derived.Test.YtajaadagejhllaaGreatDoorZd
import Derived.Test.YtajaadagejhllaaGreatDoorZe
namespace Go.Proofs.YtajaadagejhllaaGreatDoor
open Go.RowKit Go.Lib

/-- What utf.Runes answers of a text. -/
def RuC (x : ByteArray) (R : List Int) (W : World) : Prop := Calls Tryz.prog 45 #[.string x] W fun e w' => ∃ g cap, e = .returned (.tuple #[.slice (some ⟨g, 0, none⟩) R.length cap, .int .i64 0]) ∧ (∀ j (h : j < R.length), w'.cell? ⟨g, 0 + j, none⟩ = some (.int .i32 (R[j]))) ∧ g < w'.heap.size ∧ Below W.heap.size W w'
theorem ruc_any {s : ByteArray} {W : World} (hs : s.size ≤ 70368744177664) (hT : Lib.Utf8Tabs 2 3 W) (hv : vld s s.size 0 = true) : RuC s (rns s s.size 0) W := by
  refine (runes_any s W hs hT hv).mono ?_
  rintro e w' ⟨g, cap, he, ho, hb⟩
  refine ⟨g, cap, he, fun j h => ?_, ?_, hb⟩
  · have := ho.cells (g := g) rfl j (.int .i32 ((rns s s.size 0)[j])) (by simp [rcells, h])
    rw [Go.WideShapes.add_plain] at this
    exact this
  · rcases ho.2 with ⟨e, _⟩ | ⟨G, _, _, e, _, hh, _⟩
    · cases e
    · cases e
      exact (Array.getElem?_eq_some_iff.1 hh).1
/-- The sign ahead, in a quoted text. -/
theorem hd_q (xs : List Int) (_h0 : ∀ x ∈ xs, 0 ≤ x) (i : Nat) (hi : i ≤ xs.length) : ahR (xs.flatMap qr) (psQ xs i) = 92 ∨ spR (ahR (xs.flatMap qr) (psQ xs i)) = false := by
  by_cases h : i < xs.length
  · by_cases hs : spR (xs.getD i 0) = true
    · left
      have := ahR_q (d := 0) h (by unfold qr; rw [if_pos hs]; exact Nat.two_pos)
      rw [Nat.add_zero] at this
      rw [this]
      unfold qr
      rw [if_pos hs]
      rfl
    · right
      have := ahR_q (d := 0) h (by unfold qr; rw [if_neg hs]; exact Nat.one_pos)
      rw [Nat.add_zero] at this
      rw [this]
      unfold qr
      rw [if_neg hs]
      simpa using hs
  · obtain rfl : i = xs.length := by omega
    right
    rw [ahR_e]
    rfl
theorem sb1 {R : List Int} {p : Nat} (h : ahR R p = 92 ∨ spR (ahR R p) = false) (b : UInt8) (hb : spR (b.toNat : Int) = true) (h92 : b ≠ 92) : seB R p [b] = false := by
  unfold seB
  have : (ahR R p == (b.toNat : Int)) = false := by
    rw [beq_eq_false_iff_ne]
    intro e
    rcases h with h | h
    · rw [h] at e
      apply h92
      have : b.toNat = 92 := by omega
      exact UInt8.toNat_inj.1 this
    · rw [e, hb] at h
      cases h
  rw [this]
  rfl
theorem sb2 {R : List Int} {p : Nat} (h : ahR R p = 92 ∨ spR (ahR R p) = false) (b c : UInt8) (hb : spR (b.toNat : Int) = true) (h92 : b ≠ 92) : seB R p [b, c] = false := by
  have := sb1 h b hb h92
  unfold seB at this ⊢
  simp only [seB, Bool.and_true] at this
  rw [this]
  rfl
theorem sp_pn {r : Int} (h : spR r = true) : pnR r := by
  unfold spR at h
  simp at h
  unfold pnR
  omega
theorem pic_q (S B : Nat) (v : Value) (a : Option Addr) (c : Nat) (xs : List Int) (h0 : ∀ x ∈ xs, 0 ≤ x) (_hl : (xs.flatMap qr).length ≤ 4096) (hat : ∀ i, i ≤ xs.length → psQ xs i ≤ 4096) (i : Nat) (hi : i < xs.length) :
    PiC S B v a c (xs.flatMap qr) (sP (psQ xs i)) (sP (psQ xs (i + 1))) (fun t => t = ltT (xs.getD i 0)) := by
  have hd := hd_q xs h0 i (by omega)
  have hst := psQ_step xs i hi
  have ha : psQ xs i ≤ 4096 := hat i (by omega)
  intro w w1 hS h
  have hm : xs.getD i 0 ∈ xs := by
    rw [List.getD_eq_getElem?_getD, List.getElem?_eq_getElem hi]
    exact List.getElem_mem hi
  by_cases hs : spR (xs.getD i 0) = true
  · have q0 := ahR_q (d := 0) hi (by unfold qr; rw [if_pos hs]; exact Nat.two_pos)
    have q1 := ahR_q (d := 1) hi (by unfold qr; rw [if_pos hs]; exact Nat.lt_succ_self 1)
    have e : qr (xs.getD i 0) = [92, xs.getD i 0] := by unfold qr; rw [if_pos hs]
    rw [e] at q0 q1 hst
    rw [Nat.add_zero] at q0
    have hg : Gv 99 S B v a c (xs.flatMap qr) (sP (psQ xs i)) (sP (psQ xs (i + 1))) (fun t => t = ltT (xs.getD i 0)) := by
      rw [hst]
      exact single_esc (s := sP (psQ xs i)) (by show psQ xs i ≤ 4500; omega) rfl q0 (xs.getD i 0) q1 (sp_pn hs)
    have h7 : seB (xs.flatMap qr) (psQ xs i) [92, 81] = false := by
      unfold seB
      simp only [seB, q1, Bool.and_true]
      have : (xs.getD i 0 == (81 : Int)) = false := by
        rw [beq_eq_false_iff_ne]
        intro e
        rw [e] at hs
        exact absurd hs (by decide)
      show (_ && (xs.getD i 0 == (81 : Int))) = false
      rw [this]
      exact Bool.and_false _
    exact pieces_oneW h hS (by show psQ xs i ≤ 4500; omega) hg (sb1 hd 42 (by decide) (by decide)) (sb1 hd 43 (by decide) (by decide)) (sb1 hd 63 (by decide) (by decide)) (sb1 hd 123 (by decide) (by decide)) (sb2 hd 40 63 (by decide) (by decide)) (sb1 hd 40 (by decide) (by decide)) h7
  · have q0 := ahR_q (d := 0) hi (by unfold qr; rw [if_neg hs]; exact Nat.one_pos)
    have e : qr (xs.getD i 0) = [xs.getD i 0] := by unfold qr; rw [if_neg hs]
    rw [e] at q0 hst
    rw [Nat.add_zero] at q0
    have q0' : ahR (xs.flatMap qr) (psQ xs i) = xs.getD i 0 := q0
    have hx := h0 _ hm
    have ne : ∀ k : Int, spR k = true → ¬ xs.getD i 0 = k := fun k hk e => hs (by rw [e]; exact hk)
    have hg : Gv 99 S B v a c (xs.flatMap qr) (sP (psQ xs i)) (sP (psQ xs (i + 1))) (fun t => t = ltT (xs.getD i 0)) := by
      rw [hst]
      exact single_litW (s := sP (psQ xs i)) (by show psQ xs i ≤ 4500; omega) rfl (xs.getD i 0) q0' (by omega) (ne 46 (by decide)) (ne 94 (by decide)) (ne 36 (by decide)) (ne 91 (by decide)) (ne 92 (by decide))
    have h7 : seB (xs.flatMap qr) (psQ xs i) [92, 81] = false := by
      unfold seB
      rw [q0']
      have : (xs.getD i 0 == ((92 : UInt8).toNat : Int)) = false := by
        rw [beq_eq_false_iff_ne]
        exact ne 92 (by decide)
      rw [this]
      rfl
    exact pieces_oneW h hS (by show psQ xs i ≤ 4500; omega) hg (sb1 hd 42 (by decide) (by decide)) (sb1 hd 43 (by decide) (by decide)) (sb1 hd 63 (by decide) (by decide)) (sb1 hd 123 (by decide) (by decide)) (sb2 hd 40 63 (by decide) (by decide)) (sb1 hd 40 (by decide) (by decide)) h7
theorem psQ_le (xs : List Int) (i : Nat) (h : i ≤ xs.length) : psQ xs i ≤ (xs.flatMap qr).length := by
  rw [← psQ_end]
  obtain ⟨k, hk⟩ : ∃ k, xs.length = i + k := ⟨xs.length - i, by omega⟩
  rw [hk]
  clear h
  have : ∀ k, i + k ≤ xs.length → psQ xs i ≤ psQ xs (i + k) := by
    intro k
    induction k with
    | zero => intro _; exact Nat.le_refl _
    | succ k ih =>
      intro h
      have h1 := psQ_step xs (i + k) (by omega)
      have h2 := ih (by omega)
      rw [show i + (k + 1) = i + k + 1 by omega]
      omega
  exact this k (by omega)
theorem exp_q (xs : List Int) (h0 : ∀ x ∈ xs, 0 ≤ x) (hl : (xs.flatMap qr).length ≤ 4096) (hn : xs.length ≤ 4096) (S B : Nat) (v : Value) (a : Option Addr) (c : Nat) :
    Gv 46 S B v a c (xs.flatMap qr) (sP 0) (sP (psQ xs xs.length)) (RwT (fun i => xs.getD i 0) xs.length) := by
  have hat : ∀ i, i ≤ xs.length → psQ xs i ≤ 4096 := fun i hi => Nat.le_trans (psQ_le xs i hi) hl
  have he := hd_q xs h0 xs.length (Nat.le_refl _)
  refine expression_oneW (by show psQ xs xs.length ≤ 4500; have := hat xs.length (Nat.le_refl _); omega) ?_ (sb1 he 124 (by decide) (by decide))
  have := alternative_row (S := S) (B := B) (v := v) (a := a) (c := c) (R := xs.flatMap qr) xs.length (fun i => sP (psQ xs i)) (fun i => xs.getD i 0) (by omega) (fun i hi => by show psQ xs i ≤ 4500; have := hat i hi; omega)
    (fun i hi => pic_q S B v a c xs h0 hl hat i hi)
    (fun i hi => rec_noW (s := sP (psQ xs (i + 1))) (by show psQ xs (i + 1) ≤ 4500; have := hat (i + 1) hi; omega) (sb1 (hd_q xs h0 (i + 1) hi) 42 (by decide) (by decide)) (sb1 (hd_q xs h0 (i + 1) hi) 43 (by decide) (by decide)) (sb1 (hd_q xs h0 (i + 1) hi) 63 (by decide) (by decide)) (sb1 (hd_q xs h0 (i + 1) hi) 123 (by decide) (by decide)))
    (fun i hi => ⟨fun e => ?_, sb1 (hd_q xs h0 i (by omega)) 124 (by decide) (by decide), sb1 (hd_q xs h0 i (by omega)) 41 (by decide) (by decide)⟩) (ahR_e xs)
  · rw [psQ_zero] at this
    exact this
  · have e' : ahR (xs.flatMap qr) (psQ xs i) = -1 := e
    have hm : xs.getD i 0 ∈ xs := by
      rw [List.getD_eq_getElem?_getD, List.getElem?_eq_getElem hi]
      exact List.getElem_mem hi
    have hx := h0 _ hm
    by_cases hs : spR (xs.getD i 0) = true
    · have q0 := ahR_q (d := 0) hi (by unfold qr; rw [if_pos hs]; exact Nat.two_pos)
      rw [Nat.add_zero, e'] at q0
      unfold qr at q0
      rw [if_pos hs] at q0
      have : (-1 : Int) = 92 := q0
      omega
    · have q0 := ahR_q (d := 0) hi (by unfold qr; rw [if_neg hs]; exact Nat.one_pos)
      rw [Nat.add_zero, e'] at q0
      unfold qr at q0
      rw [if_neg hs] at q0
      have : -1 = xs.getD i 0 := q0
      omega
set_option maxRecDepth 100000 in
set_option maxHeartbeats 1000000 in
theorem parsed_gen {x : ByteArray} {R : List Int} {s' : Ps} {T : Tr → Prop} (w : World) (hx0 : x.size ≤ 4096) (hr : ∀ W, Below w.heap.size w W → RuC x R W) (hexp : ∀ (S B : Nat) (v : Value) (a : Option Addr) (c : Nat), Gv 46 S B v a c R (sP 0) s' T) (hend : ahR R s'.p = -1) (hat : s'.p ≤ 5000) : Calls Tryz.prog 31 #[.string x] w fun e w' => ∃ t, T t ∧ e = .returned (ndV (t [])) ∧ Nw w.heap.size w' t ∧ Below w.heap.size w w' := by
  have k1 := hr (w.alloc (ndX zN)) box_b
  unfold RuC at k1
  have hx : ¬ (4096 : Int) < (x.size : Int) := by omega
  clear hr hx0
  go_enter Tryz.func31, Tryz.ntmps31
  go_wp2_with fail
  go_fit k1
  rintro e w2 ⟨g, cc, rfl, hc, hg, hb⟩
  have hb2 : Below w.heap.size w w2 := box_b.trans (hb.mono (by simp))
  have hrd := rd_new w2 g cc R hc hg
  have k2 := hexp w2.heap.size w2.heap.size (.slice none 0 0) (some ⟨g, 0, none⟩) cc _ _ (by simp) (Tk.refl hrd)
  clear k1 hc hrd
  go_wp2_with fail
  go_fit k2
  rintro e w3 ⟨t, ht, rfl, hn, h3⟩
  have hm : ∀ k, Mv w2.heap.size (.slice none 0 0) k → k = w2.heap.size := fun k e => by
    rcases e with e | e
    · exact e
    · cases e
  have b4 : Below w3.heap.size w3 (w3.alloc (ndX (t []))) := (Below.refl _ _).alloc (Nat.le_refl _) _
  have hS3 : w2.heap.size ≤ (w2.alloc (rdX (some ⟨g, 0, none⟩) R.length cc)).heap.size := by simp
  have h4 := h3.below hS3 b4
  have hS4 : w2.heap.size ≤ (w3.alloc (ndX (t []))).heap.size := Nat.le_trans hS3 h4.2.size
  have k5 := ahead_tk (Tk.refl h4.1) hS4 0 (by omega) (by omega)
  rw [show ahR R (s'.p + 0) = -1 from hend] at k5
  have bA : Below w2.heap.size w2 (w2.alloc (rdX (some ⟨g, 0, none⟩) R.length cc)) := (Below.refl _ _).alloc (Nat.le_refl _) _
  have bB : Below w2.heap.size w2 (w3.alloc (ndX (t []))) := bA.trans (h4.2.below hS3 (fun k hk e => by have := hm k e; omega))
  have lw : w.heap.size < w2.heap.size := by have := hb.size; simp at this; omega
  have cz2 : Cs w2 w.heap.size 0 zN := (cells_ndX (w := w) zN).below hb (by simp)
  have fz2 : ∀ i, w2.frozen? ⟨w.heap.size, i, none⟩ = false := fun i => (hb.frozen (p := ⟨w.heap.size, i, none⟩) (by simp)).trans (box_ff w zN i)
  have l3 : w2.heap.size < w3.heap.size := by have := h3.2.size; simp at this; omega
  have HN : Hid (Nw (w2.heap.size + 1) (w3.alloc (ndX (t []))) t) := by
    have := hn.below b4
    rwa [World.size_alloc] at this
  have c6 : Cs (w3.alloc (ndX (t []))) w3.heap.size 0 (t []) := cells_ndX _
  have l4 : w3.heap.size < (w3.alloc (ndX (t []))).heap.size := by simp
  clear k2 hn h3 h4 b4 bA hb
  go_wp2_with fail
  go_fit k5
  rintro e w5 ⟨rfl, h5⟩
  have b5 : Below w2.heap.size w2 w5 := bB.trans (h5.2.below hS4 (fun k hk e => by have := hm k e; omega))
  have cz : Cs w5 w.heap.size 0 zN := cz2.below b5 lw
  have fz : ∀ i, w5.frozen? ⟨w.heap.size, i, none⟩ = false := fun i => (b5.frozen (p := ⟨w.heap.size, i, none⟩) lw).trans (fz2 i)
  have c65 : Cs w5 w3.heap.size 0 (t []) := c6.kp h5.2 (fun e => by have := hm _ e; omega)
  have HE : Hid (Cs (st9 w5 w.heap.size (t [])) w.heap.size 0 (t [])) := st9_cs _ cz
  have HH : Hid (Nw w.heap.size (st9 w5 w.heap.size (t [])) t ∧ Below w.heap.size w (st9 w5 w.heap.size (t []))) :=
    ⟨((HN.out.kp h5.2 (fun k hk _ e => by have := hm _ e; omega)).kp (st9_kp _ _ _) (fun k hk _ e => by omega)).mono (by omega), st9_below (hb2.trans (b5.mono (by omega))) (Nat.le_refl _) _⟩
  obtain ⟨d0, d1, d2, d3, d4, d5, d6, d7, d8⟩ := c65
  obtain ⟨q0, q1, q2, q3, q4, q5, q6, q7, q8⟩ := cz
  clear k5 h5 b5 bB cz2 fz2 c6
  simp only [Nat.zero_add] at d0 d1 d2 d3 d4 d5 d6 d7 d8 q0 q1 q2 q3 q4 q5 q6 q7 q8
  go_wp2_with fail
  clear q0 q1 q2 q3 q4 q5 q6 q7 q8 d0 d1 d2 d3 d4 d5 d6 d7 d8 fz
  obtain ⟨q0, q1, q2, q3, q4, q5, q6, q7, q8⟩ := HE.out
  have HT := HH.out
  change bodyPost _ _ _ _ _ (st9 w5 w.heap.size (t []))
  generalize (st9 w5 w.heap.size (t [])) = W9 at *
  simp only [Nat.zero_add] at q0 q1 q2 q3 q4 q5 q6 q7 q8
  refine bodyPost_ret (v := ndV (t [])) (by simp [results, Tryz.results31, go_sem, q0, q1, q2, q3, q4, q5, q6, q7, q8]; try rfl) rfl ?_
  exact ⟨t, ht, rfl, HT.1, HT.2⟩
set_option maxRecDepth 100000 in
set_option maxHeartbeats 1000000 in
theorem parse_gen {x : ByteArray} {T : Tr → Prop} (w : World) (k1 : Calls Tryz.prog 31 #[.string x] ((w.alloc (ndX zN)).alloc (erX 0)) fun e w' => ∃ t, T t ∧ e = .returned (ndV (t [])) ∧ Nw ((w.alloc (ndX zN)).alloc (erX 0)).heap.size w' t ∧ Below ((w.alloc (ndX zN)).alloc (erX 0)).heap.size ((w.alloc (ndX zN)).alloc (erX 0)) w') : Calls Tryz.prog 9 #[.string x] w fun e w' => ∃ t, T t ∧ e = .returned (.tuple #[ndV (t []), .int .i64 0]) ∧ Nw w.heap.size w' t ∧ Below w.heap.size w w' := by
  go_enter_defers Tryz.func9, Tryz.ntmps9
  go_wp2_with fail
  go_fit k1
  rintro e w3 ⟨t, ht, rfl, hn, hb⟩
  have hz : ((w.alloc (ndX zN)).alloc (erX 0)).heap.size = w.heap.size + 2 := by simp
  have bV : Below w.heap.size w ((w.alloc (ndX zN)).alloc (erX 0)) := two_below _ _
  have b0 : Below (w.alloc (ndX zN)).heap.size (w.alloc (ndX zN)) ((w.alloc (ndX zN)).alloc (erX 0)) := (Below.refl _ _).alloc (Nat.le_refl _) _
  have cz : Cs w3 w.heap.size 0 zN := ((cells_ndX (w := w) zN).below b0 (by simp)).below hb (by omega)
  have fz : ∀ i, w3.frozen? ⟨w.heap.size, i, none⟩ = false := fun i => (hb.frozen (p := ⟨w.heap.size, i, none⟩) (by rw [hz]; show w.heap.size < _; omega)).trans ((b0.frozen (p := ⟨w.heap.size, i, none⟩) (by simp)).trans (box_ff w zN i))
  have hX2 : ((w.alloc (ndX zN)).alloc (erX 0)).heap[w.heap.size + 1]? = some (erX 0) := by have := heap_alloc_new (w.alloc (ndX zN)) (erX 0); simpa using this
  have y2 := (hb.block (w.heap.size + 1) (by omega)).trans hX2
  have ce : w3.cell? ⟨w.heap.size + 1, 0, none⟩ = some (.int .i64 0) := by unfold World.cell?; rw [y2]; rfl
  have fe : w3.frozen? ⟨w.heap.size + 1, 0, none⟩ = false := by unfold World.frozen?; rw [y2]; simp
  have HB : Hid (Below w.heap.size w w3) := bV.trans (hb.mono (by omega))
  have HN : Hid (Nw (w.heap.size + 2) w3 t) := by rw [← hz]; exact hn
  have HC : Hid (Cs w3 w.heap.size 0 zN) := cz
  obtain ⟨q0, q1, q2, q3, q4, q5, q6, q7, q8⟩ := cz
  simp only [Nat.zero_add] at q0 q1 q2 q3 q4 q5 q6 q7 q8
  clear k1 hb hn bV b0 hz hX2 y2
  go_wp2_with fail
  clear q0 q1 q2 q3 q4 q5 q6 q7 q8 fz
  obtain ⟨ce9, fe9⟩ := st9_er (G := w.heap.size) (d := t []) ce fe (by omega)
  have HE : Hid (Cs (st9 w3 w.heap.size (t [])) w.heap.size 0 (t [])) := st9_cs _ HC.out
  have HH : Hid (Nw (w.heap.size + 2) (st9 w3 w.heap.size (t [])) t ∧ Below w.heap.size w (st9 w3 w.heap.size (t []))) := ⟨HN.out.kp (st9_kp _ _ _) (fun k hk _ e => by omega), st9_below HB.out (Nat.le_refl _) _⟩
  clear ce fe HN HB HC
  change bodyPostD _ _ _ _ _ ((st9 w3 w.heap.size (t [])).setCell ⟨w.heap.size + 1, 0, none⟩ (.int .i64 0))
  generalize st9 w3 w.heap.size (t []) = W9 at *
  have hm4 : (W9.setCell ⟨w.heap.size + 1, 0, none⟩ (.int .i64 0)).cell? ⟨w.heap.size + 1, 0, none⟩ = some (.int .i64 0) := World.cell?_setCell_same' _ _ _ (by rw [ce9]; rfl)
  have hf4 : (W9.setCell ⟨w.heap.size + 1, 0, none⟩ (.int .i64 0)).frozen? ⟨w.heap.size + 1, 0, none⟩ = false := by rw [World.frozen?_setCell]; exact fe9
  have kk : Kp (· = w.heap.size + 1) W9 ((W9.setCell ⟨w.heap.size + 1, 0, none⟩ (.int .i64 0)).setCell ⟨w.heap.size + 1, 0, none⟩ (.int .i64 0)) := ((Kp.refl (· = w.heap.size + 1) W9).setCell (p := ⟨w.heap.size + 1, 0, none⟩) rfl _).setCell (p := ⟨w.heap.size + 1, 0, none⟩) rfl _
  refine leaves_cons (f := 29) (args := #[.pointer (some ⟨w.heap.size + 1, 0, none⟩)]) (by simp) (by simp [go_sem]) ?_
  refine (parse_idle (w.heap.size + 1) _ _ hm4 hf4).mono ?_
  rintro e u' w5 ⟨rfl, rfl, rfl⟩
  have hc5 : ((W9.setCell ⟨w.heap.size + 1, 0, none⟩ (.int .i64 0)).setCell ⟨w.heap.size + 1, 0, none⟩ (.int .i64 0)).cell? ⟨w.heap.size + 1, 0, none⟩ = some (.int .i64 0) := World.cell?_setCell_same' _ _ _ (by rw [hm4]; rfl)
  have HF : Hid (Nw w.heap.size ((W9.setCell ⟨w.heap.size + 1, 0, none⟩ (.int .i64 0)).setCell ⟨w.heap.size + 1, 0, none⟩ (.int .i64 0)) t ∧ Below w.heap.size w ((W9.setCell ⟨w.heap.size + 1, 0, none⟩ (.int .i64 0)).setCell ⟨w.heap.size + 1, 0, none⟩ (.int .i64 0))) :=
    ⟨(HH.out.1.kp kk (fun k hk _ e => by omega)).mono (by omega), HH.out.2.trans (kk.below HH.out.2.size (fun k hk e => by omega))⟩
  obtain ⟨q0, q1, q2, q3, q4, q5, q6, q7, q8⟩ := HE.out.kp kk (by omega)
  simp only [Nat.zero_add] at q0 q1 q2 q3 q4 q5 q6 q7 q8
  clear kk hm4 hf4 ce9 fe9 HE HH
  generalize (W9.setCell ⟨w.heap.size + 1, 0, none⟩ (.int .i64 0)).setCell ⟨w.heap.size + 1, 0, none⟩ (.int .i64 0) = W11 at *
  simp [Leaves, settle, results, Tryz.results9, go_sem, hc5, q0, q1, q2, q3, q4, q5, q6, q7, q8]
  exact ⟨t, ht, ⟨rfl, rfl, ⟨rfl, rfl, rfl⟩, rfl, rfl, rfl, rfl, rfl, rfl, rfl, rfl⟩, HF.out⟩
end Go.Proofs.YtajaadagejhllaaGreatDoor
