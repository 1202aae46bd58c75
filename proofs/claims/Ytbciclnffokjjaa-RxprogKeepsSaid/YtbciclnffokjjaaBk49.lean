/- A bundle of texts. -/
import Derived.Test.YtbciclnffokjjaaBk48
import Derived.Test.YtbciclnffokjjaaBk29
import Derived.Test.YtbciclnffokjjaaBk04
/- RxprogKeeps: awake. -/
namespace Go.Proofs.Ytbciclnffokjjaa
open Go.RowKit Go.Lib

def alN (g : Nat) : Nd := ⟨5, 0, none, 0, 0, fun _ => (0, 0), 0, 0, false, 0, ⟨#[]⟩, some ⟨g, 0, none⟩, 2, 2⟩
def alT (g : Nat) : Tr := topT (alN g) (fun j => if j = 0 then ltT 97 else ltT 98)
theorem alT_root (g : Nat) : alT g [] = alN g := rfl
theorem alT_kid0 (g : Nat) : kid (alT g) 0 = ltT 97 := rfl
theorem alT_kid1 (g : Nat) : kid (alT g) 1 = ltT 98 := rfl
theorem alN_ok (g : Nat) : ndB (alN g) = true := by
  have e : ndB (alN 0) = true := by kernel_rfl
  exact e
theorem vd_al (g : Nat) : vd 8195 (alT g) 0 s0 = some { s0 with k := 3 } := by
  show vd (8194 + 1) (alT g) 0 s0 = _
  unfold vd
  rw [alT_root, if_neg (by
    rintro (h1 | h1 | h1)
    · exact absurd h1 (by decide)
    · exact absurd h1 (by decide)
    · rw [alN_ok] at h1; cases h1)]
  have e1 : mid (alN g) { s0 with k := s0.k + 1 } = some { s0 with k := 1 } := rfl
  rw [e1]
  show vds (vd 8194) (alT g) (if (alN g).kind = 7 then 0 + 1 else 0) 2 { s0 with k := 1 } = _
  rw [if_neg (by show ¬ (5 : Int) = 7; decide)]
  have e2 : vds (vd 8194) (alT g) 0 2 { s0 with k := 1 } = (vd 8194 (ltT 97) (if brB (alT g []).kind (alT g [0]).kind = true then 0 + 1 else 0) { s0 with k := 1 }).bind fun s' => vd 8194 (ltT 98) (if brB (alT g []).kind (alT g [1]).kind = true then 0 + 1 else 0) s' := rfl
  rw [e2]
  have e3 : brB (alT g []).kind (alT g [0]).kind = false := by show brB 5 2 = false; decide
  have e4 : brB (alT g []).kind (alT g [1]).kind = false := by show brB 5 2 = false; decide
  rw [e3, e4]
  have e5 := vd_lt 8193 97 0 { s0 with k := 1 } (.inl rfl) (by decide) (by decide)
  have e6 := vd_lt 8193 98 0 { s0 with k := 2 } (.inr rfl) (by decide) (by decide)
  show (vd 8194 (ltT 97) 0 { s0 with k := 1 }).bind (fun s' => vd 8194 (ltT 98) 0 s') = _
  rw [show vd 8194 (ltT 97) 0 { s0 with k := 1 } = some { s0 with k := 2 } from e5]
  exact e6
theorem ok_al (g : Nat) : okT (alT g) = true := by
  unfold okT svd
  rw [vd_al]
  rfl
theorem len_al (g : Nat) : lenF 8195 (alT g) = 4 := by
  show lenF (8194 + 1) (alT g) = 4
  unfold lenF
  rw [alT_root]
  have e : sumN (fun j => lenF 8194 (kid (alT g) j)) (alN g).kn = 2 := by
    show (0 + lenF 8194 (kid (alT g) 0)) + lenF 8194 (kid (alT g) 1) = 2
    rw [alT_kid0, alT_kid1, len_lt 8193, len_lt 8193]
    rfl
  rw [e]
  have e2 : lenK (alN g) 2 = 4 := by
    unfold lenK
    rw [if_neg (by show ¬ ((5 : Int) = 1 ∨ (5 : Int) = 4); decide), if_pos (by rfl)]
    rfl
  rw [e2]
  decide
theorem siz_al (g : Nat) : sizF (alT g) = 5 := by
  unfold sizF
  rw [if_pos (ok_al g), len_al]
  decide
theorem cod_lt (m : Nat) (c b : Int) : cod (m + 1) (ltT c) b = [⟨2, b + 1, 0, 0, [(c, c)]⟩] := by
  unfold cod
  rw [ltT_root, if_pos (by rfl)]
  rfl
theorem alt_two (F : Nat → Int → List Ia) (c d : Int) (h0 : ∀ b, F 0 b = [⟨2, b + 1, 0, 0, [(c, c)]⟩]) (h1 : ∀ b, F 1 b = [⟨2, b + 1, 0, 0, [(d, d)]⟩]) : altC F 1 0 = [⟨3, 1, 3, 0, []⟩, ⟨2, 2, 0, 0, [(c, c)]⟩, ⟨10, 4, 0, 0, []⟩, ⟨2, 4, 0, 0, [(d, d)]⟩] := by
  unfold altC altF altF
  simp only [h0, h1]
  rfl
theorem prg_al (g : Nat) : prgC (alT g) = [⟨3, 1, 3, 0, []⟩, ⟨2, 2, 0, 0, [(97, 97)]⟩, ⟨10, 4, 0, 0, []⟩, ⟨2, 4, 0, 0, [(98, 98)]⟩, ⟨1, 0, 0, 0, []⟩] := by
  have e : cod 8195 (alT g) 0 = altC (fun j b => cod 8194 (kid (alT g) j) b) 1 0 := by
    show cod (8194 + 1) (alT g) 0 = _
    unfold cod
    rw [alT_root, if_neg (by show ¬ (5 : Int) = 2; decide), if_neg (by show ¬ (5 : Int) = 3; decide), if_neg (by show ¬ (5 : Int) = 4; decide), if_pos (by rfl)]
    rfl
  unfold prgC
  rw [e, alt_two _ 97 98 (fun b => by rw [alT_kid0]; exact cod_lt 8193 97 b) (fun b => by rw [alT_kid1]; exact cod_lt 8193 98 b)]
  rfl
theorem al_at {B g : Nat} {W : World} (hg : g < B) (h : Cs W g 0 (ltN 97)) (h' : Cs W g 9 (ltN 98)) : Tat B W (alT g) :=
  topT_at ⟨by show 0 * 8 ≤ 140737488351232; decide, by show 2 * 8 ≤ 140737488351232; decide, by show (0 : Nat) ≤ 140737488351232; decide, by show 2 ≤ 2; decide⟩ (.inl rfl) (.inr ⟨g, 0, rfl, hg, fun j hj => by
    have h2 : j < 2 := hj
    by_cases e : j = 0
    · subst e; exact h
    · have : j = 1 := by omega
      subst this; exact h'⟩) (fun j hj => by
    have h2 : j < 2 := hj
    by_cases e : j = 0
    · subst e; exact lt_at B W 97
    · have : j = 1 := by omega
      subst this; exact lt_at B W 98)

set_option maxHeartbeats 2000000 in
set_option maxRecDepth 100000 in
theorem awake_any (w : World) : Calls Try.prog 17 #[] w fun e w' => e = .returned (.bool true) ∧ Below w.heap.size w w' := by
  have kL := lit_any 97 w
  have HL2 : Hid (∀ w1, Below w.heap.size w w1 → Calls Try.prog 11 #[.int .i32 98] w1 fun e w' => e = .returned (ndV (ltN 98)) ∧ Below w.heap.size w w') := fun w1 b1 => (lit_any 98 w1).mono fun e w' ⟨h1, h2⟩ => ⟨h1, b1.trans (h2.mono b1.size)⟩
  have HKC : Hid (∀ w1, Below w.heap.size w w1 → Calls Try.prog 10 #[ndV (alN w1.heap.size)] (w1.alloc (twX 97 98)) fun e w' => (∃ g cc gr na nn nc, e = .returned (.tuple #[prV (some ⟨g, 0, none⟩) 5 cc 0 gr na nn nc, .int .i64 0]) ∧ g < w'.heap.size ∧ w'.cell? ⟨g, 0, none⟩ = some (.int .i64 3) ∧ w'.cell? ⟨g, 2, none⟩ = some (.int .i64 3) ∧ w'.cell? ⟨g, 20, none⟩ = some (.int .i64 1)) ∧ Below w.heap.size w w') := fun w1 b1 => by
    have hal : Below w1.heap.size w1 (w1.alloc (twX 97 98)) := (Below.refl _ w1).alloc (Nat.le_refl _) _
    have hbb : Below w.heap.size w (w1.alloc (twX 97 98)) := b1.trans (hal.mono b1.size)
    have hc := twX_cells (w := w1) 97 98
    have hz := siz_al w1.heap.size
    refine (compile_yes (alT w1.heap.size) (w1.alloc (twX 97 98)) (al_at (by simp) hc.1 hc.2) (by omega) (by omega)).mono fun e w' ⟨⟨iv, nv, s1, he, _, _, how, hnv⟩, hbw⟩ => ⟨?_, hbb.trans (hbw.mono hbb.size)⟩
    rw [prg_al] at how
    have hlow := how
    obtain ⟨g, cc, f, hiv, _, _⟩ := how
    obtain ⟨a, cc2, hiv2, hP⟩ := hlow.pg
    rw [hiv] at hiv2
    cases hiv2
    obtain ⟨na, nc, hnf⟩ := Sp.form hnv
    rw [hiv, hnf] at he
    obtain ⟨g1, o1, _, _, _, e1, hg1, a0, _, a2, _⟩ := hP.at (j := 0) rfl
    obtain ⟨g2, o2, _, _, _, e2, hg2, c0, _⟩ := hP.at (j := 4) rfl
    cases e1
    cases e2
    exact ⟨g, cc, _, na, _, nc, he, hg1, a0, a2, c0⟩
  go_enter Try.func17, Try.ntmps17
  go_wp2_with fail
  go_fit kL
  rintro e w1 ⟨rfl, b1⟩
  have kL2 := HL2.out w1 b1
  clear kL HL2 b1
  go_wp2_with fail
  go_fit kL2
  rintro e w2 ⟨rfl, b2⟩
  have kC := HKC.out w2 b2
  clear kL2 HKC b2
  go_wp2_with fail
  go_fit kC
  rintro e w3 ⟨⟨g, cc, gr, na, nn, nc, rfl, hg, h0, h2, h4⟩, b3⟩
  obtain ⟨V, hV⟩ : ∃ V, V = w3.alloc (prX (some ⟨g, 0, none⟩) 5 cc 0 gr na nn nc) := ⟨_, rfl⟩
  have HV : Hid (V = w3.alloc (prX (some ⟨g, 0, none⟩) 5 cc 0 gr na nn nc)) := hV
  have bV : Below w3.heap.size w3 V := by rw [hV]; exact (Below.refl _ w3).alloc (Nat.le_refl _) _
  obtain ⟨x0, x1, x2, x3⟩ := prX_cells (some ⟨g, 0, none⟩) 5 cc 0 gr na nn nc (by rw [← hV]; exact Below.refl _ V : Below (w3.alloc (prX (some ⟨g, 0, none⟩) 5 cc 0 gr na nn nc)).heap.size (w3.alloc (prX (some ⟨g, 0, none⟩) 5 cc 0 gr na nn nc)) V)
  have y0 := (bV.cell (p := ⟨g, 0, none⟩) hg).trans h0
  have y2 := (bV.cell (p := ⟨g, 2, none⟩) hg).trans h2
  have y4 := (bV.cell (p := ⟨g, 20, none⟩) hg).trans h4
  have HB : Hid (Below w.heap.size w V) := b3.trans (bV.mono b3.size)
  clear kC b3 hV bV h0 h2 h4
  go_upto_region 2 with fail
  rw [← HV.out]
  go_wp2
  go_ret
  exact ⟨rfl, HB.out⟩
end Go.Proofs.Ytbciclnffokjjaa
/- RxprogKeeps: sameTree. -/
namespace Go.Proofs.Ytbciclnffokjjaa
open Go.RowKit Go.Lib

/-- Two nodes have the same data. -/
structure SameD (a b : Nd) : Prop where
  kind : a.kind = b.kind
  r : a.r = b.r
  rn : a.rn = b.rn
  rf : ∀ j, j < a.rn → a.rf j = b.rf j
  mn : a.mn = b.mn
  mx : a.mx = b.mx
  lz : a.lz = b.lz
  cp : a.cp = b.cp
  nm : a.nm = b.nm
  kn : a.kn = b.kn
/-- Two trees are the same, m deep. -/
def SameN : Nat → Tr → Tr → Prop
  | 0, _, _ => False
  | m + 1, t, u => SameD (t []) (u []) ∧ ∀ j, j < (t []).kn → SameN m (kid t j) (kid u j)
theorem Rml.eqf {w : World} {a : Option Addr} {f g : Nat → Rg} {n : Nat} (h : Rml w a f n) (e : ∀ j, j < n → f j = g j) : Rml w a g n := by
  rcases h with h | ⟨b, o, h1, h2, h3⟩
  · exact .inl h
  · exact .inr ⟨b, o, h1, h2, fun j hj => by rw [← e j hj]; exact h3 j hj⟩
def StC (m : Nat) : Prop := ∀ (t u : Tr) (w : World), SameN m t u → Tat w.heap.size w t → Tat w.heap.size w u → Calls Try.prog 21 #[ndV (t []), ndV (u [])] w fun e w' => e = .returned (.bool true) ∧ Below w.heap.size w w'

set_option maxHeartbeats 4000000 in
set_option maxRecDepth 100000 in
theorem sameTree_step (m : Nat) (hIH : StC m) : StC (m + 1) := by
  intro t u w ⟨hd, hk⟩ ht hu
  obtain ⟨W, hW⟩ : ∃ W, W = (w.alloc (ndX (t []))).alloc (ndX (u [])) := ⟨_, rfl⟩
  have HW : Hid (W = (w.alloc (ndX (t []))).alloc (ndX (u []))) := hW
  have hWz : W.heap.size = w.heap.size + 2 := by rw [hW]; simp
  have hb0 : Below w.heap.size w W := by rw [hW]; exact ((Below.refl _ w).alloc (Nat.le_refl _) _).alloc (by simp) _
  have hc1 : Cs W w.heap.size 0 (t []) := ndX_cells (w := w) (t []) (by rw [hW]; exact (Below.refl _ _).alloc (Nat.le_refl _) _)
  have hc2 : Cs W (w.heap.size + 1) 0 (u []) := by
    have := ndX_cells (w := w.alloc (ndX (t []))) (u []) (W := W) (by rw [hW]; exact Below.refl _ _)
    rwa [World.size_alloc] at this
  have HK : Hid (∀ V, Below W.heap.size W V → (Cs V w.heap.size 0 (t []) ∧ Cs V (w.heap.size + 1) 0 (u [])) ∧ Tat V.heap.size V t ∧ Tat V.heap.size V u ∧ Below w.heap.size w V) := fun V b => ⟨⟨hc1.below b (by omega), hc2.below b (by omega)⟩, (((ht.below hb0).mono hb0.size).below b).mono b.size, (((hu.below hb0).mono hb0.size).below b).mono b.size, hb0.trans (b.mono hb0.size)⟩
  obtain ⟨e0, e1, e2, e2f, e3, e4, e5, e6, e7, e8⟩ := hd
  have htn := ht.node
  have HTW := HK.out W (Below.refl _ _)
  have kR := sameRanges_true (t []).ra (u []).ra (t []).rc (u []).rc (t []).rn (t []).rf W HTW.2.1.ranges.ml (by rw [e2]; exact HTW.2.2.1.ranges.ml.eqf (fun j hj => (e2f j (by omega)).symm)) (by omega)
  have HKID : Hid (∀ V, Below W.heap.size W V → ∀ j, j < (t []).kn → Calls Try.prog 21 #[ndV (t [j]), ndV (u [j])] V fun e w' => e = .returned (.bool true) ∧ Below W.heap.size W w') := fun V b j hj => (hIH (kid t j) (kid u j) V (hk j hj) ((HK.out V b).2.1.kid j hj) ((HK.out V b).2.2.1.kid j (by omega))).mono fun e w' ⟨h1, h2⟩ => ⟨h1, b.trans (h2.mono b.size)⟩
  have HKC : Hid (∀ V, Below W.heap.size W V → ∀ j, j < (t []).kn → ∃ g o g' o', (t []).ka = some ⟨g, o, none⟩ ∧ (u []).ka = some ⟨g', o', none⟩ ∧ Cs V g (o + j * 9) (t [j]) ∧ Cs V g' (o' + j * 9) (u [j])) := fun V b j hj => by
    obtain ⟨g, o, h1, _, h2⟩ := (HK.out V b).2.1.kids.at j hj
    obtain ⟨g', o', h3, _, h4⟩ := (HK.out V b).2.2.1.kids.at j (by omega)
    exact ⟨g, o, g', o', h1, h3, h2, h4⟩
  have hknI : (t []).kn * 8 ≤ 140737488351232 := htn.2.1
  have HKB : Hid (∀ V, Below W.heap.size W V → (Cs V w.heap.size 0 (t []) ∧ Cs V (w.heap.size + 1) 0 (u [])) ∧ Below w.heap.size w V) := fun V b => ⟨(HK.out V b).1, (HK.out V b).2.2.2⟩
  obtain ⟨⟨q0, q1, q2, q3, q4, q5, q6, q7, q8⟩, ⟨p0, p1, p2, p3, p4, p5, p6, p7, p8⟩⟩ := HTW.1
  simp only [Nat.zero_add] at q0 q1 q2 q3 q4 q5 q6 q7 q8 p0 p1 p2 p3 p4 p5 p6 p7 p8
  clear hW hb0 hc1 hc2 ht hu hIH hk HTW e2f htn HK
  generalize t [] = d at *
  generalize u [] = e at *
  obtain ⟨k', r', ra', rn', rc', rf', mn', mx', lz', cp', nm', ka', kn', kc'⟩ := e
  dsimp only at e0 e1 e2 e3 e4 e5 e6 e7 e8
  subst e0 e1 e2 e3 e4 e5 e6 e7 e8
  dsimp only at *
  have hkI : (d.kn : Int) ≤ 140737488351232 := by omega
  go_enter Try.func21, Try.ntmps21
  go_upto_region 1 with fail
  rw [← HW.out]
  go_wp2_with fail
  go_fit kR
  rintro e w1 ⟨rfl, b1⟩
  obtain ⟨⟨c1, c2⟩, _⟩ := HKB.out w1 b1
  obtain ⟨q0, q1, q2, q3, q4, q5, q6, q7, q8⟩ := c1
  obtain ⟨p0, p1, p2, p3, p4, p5, p6, p7, p8⟩ := c2
  simp only [Nat.zero_add] at q0 q1 q2 q3 q4 q5 q6 q7 q8 p0 p1 p2 p3 p4 p5 p6 p7 p8
  have HB1 : Hid (Below W.heap.size W w1) := b1
  clear kR b1
  go_wp2_with fail
  go_loopw [5] (fun ivv w' => ∃ i : Nat, ivv = .int .i64 (i : Int) ∧ i ≤ d.kn ∧ Hid (Below W.heap.size W w')) (fun ivv _ => d.kn - (RowKit.intOf ivv).toNat)
  case atStart => exact ⟨0, rfl, Nat.zero_le _, HB1⟩
  case round =>
    obtain ⟨i, rfl, hi, hbw⟩ := hrel
    obtain ⟨⟨c1, c2⟩, hbf⟩ := HKB.out wr hbw.out
    obtain ⟨q0, q1, q2, q3, q4, q5, q6, q7, q8⟩ := c1
    obtain ⟨p0, p1, p2, p3, p4, p5, p6, p7, p8⟩ := c2
    simp only [Nat.zero_add] at q0 q1 q2 q3 q4 q5 q6 q7 q8 p0 p1 p2 p3 p4 p5 p6 p7 p8
    have HBF : Hid _ := hbf
    clear hbf
    by_cases hlt : i < d.kn
    · have hii : (i : Int) < d.kn := by omega
      obtain ⟨g, o, g', o', ea, eb, _, _⟩ := HKC.out wr hbw.out i hlt
      have HKT : Hid (∀ V, Below W.heap.size W V → Calls Try.prog 21 #[ndV (t [i]), ndV (u [i])] V fun e w' => e = .returned (.bool true) ∧ Below W.heap.size W w') := fun V b => HKID.out V b i hlt
      have HKS : Hid (∀ V, Below W.heap.size W V → (V.cell? ⟨w.heap.size, 8, none⟩ = some (.slice (some ⟨g, o, none⟩) d.kn d.kc) ∧ V.cell? ⟨w.heap.size + 1, 8, none⟩ = some (.slice (some ⟨g', o', none⟩) d.kn kc')) ∧ Cs V g (o + i * 9) (t [i]) ∧ Cs V g' (o' + i * 9) (u [i]) ∧ Below W.heap.size W V) := fun V b => by
        obtain ⟨g1, o1, g1', o1', e1, e2, h1, h2⟩ := HKC.out V b i hlt
        rw [ea] at e1
        cases e1
        rw [eb] at e2
        cases e2
        obtain ⟨⟨c1, c2⟩, _⟩ := HKB.out V b
        have f1 := c1.c8
        have f2 := c2.c8
        simp only [Nat.zero_add] at f1 f2
        rw [ea] at f1
        exact ⟨⟨f1, by rw [← eb]; exact f2⟩, h1, h2, b⟩
      obtain ⟨x, hx⟩ : ∃ x, t [i] = x := ⟨_, rfl⟩
      obtain ⟨y, hy⟩ : ∃ y, u [i] = y := ⟨_, rfl⟩
      rw [hx, hy] at HKS HKT
      have HS : Hid (∀ V, Below W.heap.size W V → (V.cell? ⟨w.heap.size, 8, none⟩ = some (.slice (some ⟨g, o, none⟩) d.kn d.kc) ∧ V.cell? ⟨w.heap.size + 1, 8, none⟩ = some (.slice (some ⟨g', o', none⟩) d.kn kc')) ∧ (V.cell? ⟨g, o + i * 9, none⟩ = some (.int .i64 x.kind) ∧ V.cell? ⟨g, o + i * 9 + 1, none⟩ = some (.int .i32 x.r) ∧ V.cell? ⟨g, o + i * 9 + 2, none⟩ = some (.slice x.ra x.rn x.rc) ∧ V.cell? ⟨g, o + i * 9 + 3, none⟩ = some (.int .i64 x.mn) ∧ V.cell? ⟨g, o + i * 9 + 4, none⟩ = some (.int .i64 x.mx) ∧ V.cell? ⟨g, o + i * 9 + 5, none⟩ = some (.bool x.lz) ∧ V.cell? ⟨g, o + i * 9 + 6, none⟩ = some (.int .i64 x.cp) ∧ V.cell? ⟨g, o + i * 9 + 7, none⟩ = some (.string x.nm) ∧ V.cell? ⟨g, o + i * 9 + 8, none⟩ = some (.slice x.ka x.kn x.kc)) ∧ (V.cell? ⟨g', o' + i * 9, none⟩ = some (.int .i64 y.kind) ∧ V.cell? ⟨g', o' + i * 9 + 1, none⟩ = some (.int .i32 y.r) ∧ V.cell? ⟨g', o' + i * 9 + 2, none⟩ = some (.slice y.ra y.rn y.rc) ∧ V.cell? ⟨g', o' + i * 9 + 3, none⟩ = some (.int .i64 y.mn) ∧ V.cell? ⟨g', o' + i * 9 + 4, none⟩ = some (.int .i64 y.mx) ∧ V.cell? ⟨g', o' + i * 9 + 5, none⟩ = some (.bool y.lz) ∧ V.cell? ⟨g', o' + i * 9 + 6, none⟩ = some (.int .i64 y.cp) ∧ V.cell? ⟨g', o' + i * 9 + 7, none⟩ = some (.string y.nm) ∧ V.cell? ⟨g', o' + i * 9 + 8, none⟩ = some (.slice y.ka y.kn y.kc)) ∧ Below W.heap.size W V) := fun V b => by
        obtain ⟨h1, ⟨a0, a1, a2, a3, a4, a5, a6, a7, a8⟩, ⟨b0, b1, b2, b3, b4, b5, b6, b7, b8⟩, h4⟩ := HKS.out V b
        exact ⟨h1, ⟨a0, a1, a2, a3, a4, a5, a6, a7, a8⟩, ⟨b0, b1, b2, b3, b4, b5, b6, b7, b8⟩, h4⟩
      obtain ⟨⟨z1, z2⟩, ⟨a0, a1, a2, a3, a4, a5, a6, a7, a8⟩, ⟨b0, b1, b2, b3, b4, b5, b6, b7, b8⟩, bw⟩ := HS.out wr hbw.out
      have hi0I : (0 : Int) ≤ (i : Int) := by omega
      clear HKS HKID HKC HKB hx hy ea eb q0 q1 q2 q3 q4 q5 q6 q7 q8 p0 p1 p2 p3 p4 p5 p6 p7 p8 hbw
      go_wp2_with fail
      go_region_held3 (fun V => (V.cell? ⟨w.heap.size, 8, none⟩ = some (.slice (some ⟨g, o, none⟩) d.kn d.kc) ∧ V.cell? ⟨w.heap.size + 1, 8, none⟩ = some (.slice (some ⟨g', o', none⟩) d.kn kc')) ∧ (V.cell? ⟨g, o + i * 9, none⟩ = some (.int .i64 x.kind) ∧ V.cell? ⟨g, o + i * 9 + 1, none⟩ = some (.int .i32 x.r) ∧ V.cell? ⟨g, o + i * 9 + 2, none⟩ = some (.slice x.ra x.rn x.rc) ∧ V.cell? ⟨g, o + i * 9 + 3, none⟩ = some (.int .i64 x.mn) ∧ V.cell? ⟨g, o + i * 9 + 4, none⟩ = some (.int .i64 x.mx) ∧ V.cell? ⟨g, o + i * 9 + 5, none⟩ = some (.bool x.lz) ∧ V.cell? ⟨g, o + i * 9 + 6, none⟩ = some (.int .i64 x.cp) ∧ V.cell? ⟨g, o + i * 9 + 7, none⟩ = some (.string x.nm) ∧ V.cell? ⟨g, o + i * 9 + 8, none⟩ = some (.slice x.ka x.kn x.kc)) ∧ (V.cell? ⟨g', o' + i * 9, none⟩ = some (.int .i64 y.kind) ∧ V.cell? ⟨g', o' + i * 9 + 1, none⟩ = some (.int .i32 y.r) ∧ V.cell? ⟨g', o' + i * 9 + 2, none⟩ = some (.slice y.ra y.rn y.rc) ∧ V.cell? ⟨g', o' + i * 9 + 3, none⟩ = some (.int .i64 y.mn) ∧ V.cell? ⟨g', o' + i * 9 + 4, none⟩ = some (.int .i64 y.mx) ∧ V.cell? ⟨g', o' + i * 9 + 5, none⟩ = some (.bool y.lz) ∧ V.cell? ⟨g', o' + i * 9 + 6, none⟩ = some (.int .i64 y.cp) ∧ V.cell? ⟨g', o' + i * 9 + 7, none⟩ = some (.string y.nm) ∧ V.cell? ⟨g', o' + i * 9 + 8, none⟩ = some (.slice y.ka y.kn y.kc)) ∧ Below W.heap.size W V) (first | exact HS.out _ (by assumption) | exact HS.out _ (Below.drew (by assumption))) (first | (go_at_call 21; go_fit (HKT.out _ (by assumption)); rintro e w9 ⟨rfl, b9⟩) | (go_at_call 21; go_fit (HKT.out _ (Below.drew (by assumption))); rintro e w9 ⟨rfl, b9⟩))
      go_wp2
      exact ⟨⟨i + 1, by go_num, by omega, b9⟩, by simp [RowKit.intOf]; omega⟩
    · have hii : ¬ (i : Int) < d.kn := by omega
      obtain rfl : i = d.kn := by omega
      clear HKID HKC HKB hbw hlt hi
      go_wp2
      go_ret
      exact ⟨rfl, HBF.out⟩
theorem sameTree_any : ∀ m, StC m
  | 0 => fun _ _ _ h => h.elim
  | m + 1 => sameTree_step m (sameTree_any m)
end Go.Proofs.Ytbciclnffokjjaa
