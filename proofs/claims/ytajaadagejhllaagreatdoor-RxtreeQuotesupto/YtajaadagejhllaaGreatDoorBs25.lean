/- A bundle of texts. -/
import Derived.Test.YtajaadagejhllaaGreatDoorBs24
/- The parser at the text a|[c-e]+? -/
namespace Go.Proofs.YtajaadagejhllaaGreatDoor
open Go.RowKit Go.Lib

def R1 : List Int := [97, 124, 91, 99, 45, 101, 93, 43, 63]
/-- A reader at a place. -/
def sP (p : Nat) : Ps := ⟨p, 0, 0, 0, fun _ => ByteArray.empty⟩
def isA (t : Tr) : Prop := t = ltT 97
def isC (t : Tr) : Prop := ∃ a c, t = csT a c (99, 101)
def isR (t : Tr) : Prop := ∃ g t', isC t' ∧ t = rpT g t'
def isX (t : Tr) : Prop := ∃ g cc t1 t2, isA t1 ∧ isR t2 ∧ t = alT g cc t1 t2
theorem alt_a (S B : Nat) (v : Value) (a : Option Addr) (c : Nat) : Gv 63 S B v a c R1 (sP 0) (sP 1) isA :=
  alternative_one (s1 := sP 1) (T := isA) (by show 0 ≤ 4000; decide) (by show 1 ≤ 4000; decide)
    (fun _ _ hS h => pieces_one h hS (by show 0 ≤ 4000; decide) (single_lit (s := sP 0) (by show 0 ≤ 4000; decide) rfl 97 rfl (by decide) (by decide) (by decide) (by decide) (by decide) (by decide)) (by decide) (by decide) (by decide) (by decide) (by decide) (by decide) (by decide))
    (rec_no (by show 1 ≤ 4000; decide) (by decide) (by decide) (by decide) (by decide)) 97 rfl (by decide) (by decide) (by decide) (.inr ⟨by decide, by decide⟩)
theorem alt_c (S B : Nat) (v : Value) (a : Option Addr) (c : Nat) : Gv 63 S B v a c R1 (sP 2) (sP 9) isR :=
  alternative_one (s1 := sP 7) (T := isC) (by show 2 ≤ 4000; decide) (by show 9 ≤ 4000; decide)
    (fun _ _ hS h => pieces_one h hS (by show 2 ≤ 4000; decide) (single_cls (s := sP 2) (by show 2 ≤ 3000; decide) rfl rfl (by decide) (by decide) (by decide) 99 101 rfl (by decide) (by decide) (by decide) rfl (by decide) (by decide) (by decide) (by decide) (by decide)) (by decide) (by decide) (by decide) (by decide) (by decide) (by decide) (by decide))
    (rec_yes (s := sP 7) (by show 7 ≤ 4000; decide) rfl (by decide) (by decide) (by decide)) 91 rfl (by decide) (by decide) (by decide) (.inl rfl)
theorem exp_x (S B : Nat) (v : Value) (a : Option Addr) (c : Nat) : Gv 46 S B v a c R1 (sP 0) (sP 9) isX :=
  expression_two (s1 := sP 1) (s2 := sP 9) (by show 1 ≤ 4000; decide) (by show 9 ≤ 4000; decide) (alt_a S B v a c) (alt_c S B v a c) (by decide) (by decide)
def x1 : ByteArray := ⟨#[97, 124, 91, 99, 45, 101, 93, 43, 63]⟩
theorem x1_runes : Conv.runesFrom x1 x1.size 0 #[] = (rcells R1).toArray := by kernel_rfl
theorem x1_dec : ∀ pos, pos < x1.size → ¬ ((Utf8.decode x1 pos).1 : Int) = 65533 := by
  intro pos h
  have h9 : pos < 9 := h
  have : ∀ p, p < 9 → ((Utf8.decode x1 p).1 == 65533) = false := by
    intro p hp
    have e : (List.range 9).all (fun p => (Utf8.decode x1 p).1 != 65533) = true := by kernel_rfl
    have := List.all_eq_true.1 e p (List.mem_range.2 hp)
    simpa using this
  have h2 := this pos h9
  intro e
  simp at h2
  omega
abbrev rdX (a : Option Addr) (n c : Nat) : Obj := .cells #[.slice a n c, .int .i64 0, .int .u8 0, .int .i64 0, .slice none 0 0] 75
theorem rd_new (w : World) (g cc : Nat) (R : List Int) (hR : ∀ j (h : j < R.length), w.cell? ⟨g, 0 + j, none⟩ = some (.int .i32 (R[j]))) (hg : g < w.heap.size) :
    Rd w.heap.size (w.alloc (rdX (some ⟨g, 0, none⟩) R.length cc)) w.heap.size (.slice none 0 0) (some ⟨g, 0, none⟩) cc R (sP 0) := by
  have e : (w.alloc (rdX (some ⟨g, 0, none⟩) R.length cc)).heap[w.heap.size]? = some (rdX (some ⟨g, 0, none⟩) R.length cc) := heap_alloc_new w _
  have b : Below w.heap.size w (w.alloc (rdX (some ⟨g, 0, none⟩) R.length cc)) := (Below.refl _ w).alloc (Nat.le_refl _) _
  refine ⟨?_, ?_, ?_, ?_, ?_, ?_, ?_, .inr ⟨g, 0, rfl, hg, fun j hj => (b.cell (p := ⟨g, 0 + j, none⟩) hg).trans (hR j hj)⟩, by simp [Value.ownBlock], Nat.le_refl _⟩
  · unfold World.cell?; rw [e]; rfl
  · unfold World.cell?; rw [e]; rfl
  · unfold World.cell?; rw [e]; rfl
  · unfold World.cell?; rw [e]; rfl
  · unfold World.cell?; rw [e]; rfl
  · intro o; simp
  · exact World.ownsRow_nil _ _ _ _
set_option maxRecDepth 100000 in
set_option maxHeartbeats 1000000 in
theorem parsed_x (w : World) : Calls Tryz.prog 31 #[.string x1] w fun e w' => ∃ t, isX t ∧ e = .returned (ndV (t [])) ∧ Nw w.heap.size w' t ∧ Below w.heap.size w w' := by
  have k1 := runes_ok x1 R1 (w.alloc (ndX zN)) x1_dec x1_runes (by decide)
  have hx : ¬ (4096 : Int) < (x1.size : Int) := by decide
  go_enter Tryz.func31, Tryz.ntmps31
  go_wp2_with fail
  go_fit k1
  rintro e w2 ⟨g, cc, rfl, hc, hg, hb⟩
  have hb2 : Below w.heap.size w w2 := box_b.trans (hb.mono (by simp))
  have hrd := rd_new w2 g cc R1 hc hg
  have k2 := exp_x w2.heap.size w2.heap.size (.slice none 0 0) (some ⟨g, 0, none⟩) cc _ _ (by simp) (Tk.refl hrd)
  clear k1 hc hrd
  go_wp2_with fail
  go_fit k2
  rintro e w3 ⟨t, ht, rfl, hn, h3⟩
  have hm : ∀ k, Mv w2.heap.size (.slice none 0 0) k → k = w2.heap.size := fun k e => by
    rcases e with e | e
    · exact e
    · cases e
  have b4 : Below w3.heap.size w3 (w3.alloc (ndX (t []))) := (Below.refl _ _).alloc (Nat.le_refl _) _
  have hS3 : w2.heap.size ≤ (w2.alloc (rdX (some ⟨g, 0, none⟩) R1.length cc)).heap.size := by simp
  have h4 := h3.below hS3 b4
  have hS4 : w2.heap.size ≤ (w3.alloc (ndX (t []))).heap.size := Nat.le_trans hS3 h4.2.size
  have k5 := ahead_tk (Tk.refl h4.1) hS4 0 (by omega) (by show 9 ≤ 5000; decide)
  rw [show ahR R1 ((sP 9).p + 0) = -1 from rfl] at k5
  have bA : Below w2.heap.size w2 (w2.alloc (rdX (some ⟨g, 0, none⟩) R1.length cc)) := (Below.refl _ _).alloc (Nat.le_refl _) _
  have bB : Below w2.heap.size w2 (w3.alloc (ndX (t []))) := bA.trans (h4.2.below hS3 (fun k hk e => by have := hm k e; omega))
  have lw : w.heap.size < w2.heap.size := by have := hb.size; simp at this; omega
  have cz2 : Cs w2 w.heap.size 0 zN := (cells_ndX (w := w) zN).below hb (by simp)
  have fz2 : ∀ i, w2.frozen? ⟨w.heap.size, i, none⟩ = false := fun i => (hb.frozen (p := ⟨w.heap.size, i, none⟩) (by simp)).trans (box_ff w zN i)
  have l3 : w2.heap.size < w3.heap.size := by have := h3.2.size; simp at this; omega
  have HN : Hid (Nw (w2.heap.size + 1) (w3.alloc (ndX (t []))) t) := by
    have := hn.below b4
    rwa [World.size_alloc] at this
  have c6 : Cs (w3.alloc (ndX (t []))) w3.heap.size 0 (t []) := cells_ndX _
  have l4 : w3.heap.size < (w3.alloc (ndX (t []))).heap.size := by simp
  clear k2 hn h3 h4 b4 bA hb
  go_wp2_with fail
  go_fit k5
  rintro e w5 ⟨rfl, h5⟩
  have b5 : Below w2.heap.size w2 w5 := bB.trans (h5.2.below hS4 (fun k hk e => by have := hm k e; omega))
  have cz : Cs w5 w.heap.size 0 zN := cz2.below b5 lw
  have fz : ∀ i, w5.frozen? ⟨w.heap.size, i, none⟩ = false := fun i => (b5.frozen (p := ⟨w.heap.size, i, none⟩) lw).trans (fz2 i)
  have c65 : Cs w5 w3.heap.size 0 (t []) := c6.kp h5.2 (fun e => by have := hm _ e; omega)
  have HE : Hid (Cs (st9 w5 w.heap.size (t [])) w.heap.size 0 (t [])) := st9_cs _ cz
  have HH : Hid (Nw w.heap.size (st9 w5 w.heap.size (t [])) t ∧ Below w.heap.size w (st9 w5 w.heap.size (t []))) :=
    ⟨((HN.out.kp h5.2 (fun k hk _ e => by have := hm _ e; omega)).kp (st9_kp _ _ _) (fun k hk _ e => by omega)).mono (by omega), st9_below (hb2.trans (b5.mono (by omega))) (Nat.le_refl _) _⟩
  obtain ⟨d0, d1, d2, d3, d4, d5, d6, d7, d8⟩ := c65
  obtain ⟨q0, q1, q2, q3, q4, q5, q6, q7, q8⟩ := cz
  clear k5 h5 b5 bB cz2 fz2 c6
  simp only [Nat.zero_add] at d0 d1 d2 d3 d4 d5 d6 d7 d8 q0 q1 q2 q3 q4 q5 q6 q7 q8
  go_wp2_with fail
  clear q0 q1 q2 q3 q4 q5 q6 q7 q8 d0 d1 d2 d3 d4 d5 d6 d7 d8 fz
  obtain ⟨q0, q1, q2, q3, q4, q5, q6, q7, q8⟩ := HE.out
  have HT := HH.out
  change bodyPost _ _ _ _ _ (st9 w5 w.heap.size (t []))
  generalize (st9 w5 w.heap.size (t [])) = W9 at *
  simp only [Nat.zero_add] at q0 q1 q2 q3 q4 q5 q6 q7 q8
  refine bodyPost_ret (v := ndV (t [])) (by simp [results, Tryz.results31, go_sem, q0, q1, q2, q3, q4, q5, q6, q7, q8]; try rfl) rfl ?_
  exact ⟨t, ht, rfl, HT.1, HT.2⟩
end Go.Proofs.YtajaadagejhllaaGreatDoor
