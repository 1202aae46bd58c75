/- A bundle of texts. -/
import Derived.Test.YtjmninjaoemhjaaDoorBm18
import Derived.Test.YtjmninjaoemhjaaDoorBm09
import Derived.Test.YtjmninjaoemhjaaDoorBm14
import Derived.Test.YtjmninjaoemhjaaDoorBm13
/- LabelsKeeps: asks; rows side by side; apart of seven rows. -/
namespace Go.Proofs.YtjmninjaoemhjaaDoor.K
open Go.RowKit Go.Lib

/-- One ask. -/
structure Ak where
  la : Option Addr
  ln : Nat
  lc : Nat
  f : Nat → Lb
  nm : ByteArray
  vl : ByteArray
  na : Option Addr
  nn : Nat
  nc : Nat
  nf : Nat → ByteArray
  wo : Bool
abbrev akX (q : Ak) : Obj := .cells #[.slice q.la q.ln q.lc, .string q.nm, .string q.vl, .slice q.na q.nn q.nc, .bool q.wo] 31
/-- An ask that lies in w. -/
structure Aok (w : World) (q : Ak) : Prop where
  ls : Lm w q.la q.f q.ln
  ns : Smb w.heap.size w q.na q.nf q.nn
  l0 : q.ln ≤ 1048576
  n0 : q.nn ≤ 1048576
  sz : ∀ j, j < q.ln → (q.f j).1.size ≤ 1048576 ∧ (q.f j).2.size ≤ 1048576
  s1 : q.nm.size ≤ 1048576
  s2 : q.vl.size ≤ 1048576
  nz : q.na = none → q.nn = 0 ∧ q.nc = 0
theorem Smb.size {w w' : World} {a : Option Addr} {f : Nat → ByteArray} {n : Nat} (h : Smb w.heap.size w a f n) (hb : Below w.heap.size w w') : Smb w'.heap.size w' a f n := by
  rcases h with h | ⟨g, o, e, hg, hc⟩
  · exact .inl h
  · exact .inr ⟨g, o, e, Nat.lt_of_lt_of_le hg hb.size, fun j hj => (hb.cell (p := ⟨g, o + j, none⟩) hg).trans (hc j hj)⟩
theorem Aok.below {w w' : World} {q : Ak} (h : Aok w q) (hb : Below w.heap.size w w') : Aok w' q := ⟨h.ls.below hb, h.ns.size hb, h.l0, h.n0, h.sz, h.s1, h.s2, h.nz⟩
/-- Asks that a slice shows. -/
def Am (w : World) (a : Option Addr) (q : Nat → Ak) (n : Nat) : Prop := n = 0 ∨ ∃ g o, a = some ⟨g, o, none⟩ ∧ g < w.heap.size ∧ ∀ j, j < n → (w.cell? ⟨g, o + j * 5, none⟩ = some (.slice (q j).la (q j).ln (q j).lc) ∧ w.cell? ⟨g, o + j * 5 + 1, none⟩ = some (.string (q j).nm) ∧ w.cell? ⟨g, o + j * 5 + 2, none⟩ = some (.string (q j).vl) ∧ w.cell? ⟨g, o + j * 5 + 3, none⟩ = some (.slice (q j).na (q j).nn (q j).nc) ∧ w.cell? ⟨g, o + j * 5 + 4, none⟩ = some (.bool (q j).wo)) ∧ Aok w (q j)
theorem Am.at {w : World} {a : Option Addr} {q : Nat → Ak} {n : Nat} (h : Am w a q n) (j : Nat) (hj : j < n) : ∃ g o, a = some ⟨g, o, none⟩ ∧ g < w.heap.size ∧ (w.cell? ⟨g, o + j * 5, none⟩ = some (.slice (q j).la (q j).ln (q j).lc) ∧ w.cell? ⟨g, o + j * 5 + 1, none⟩ = some (.string (q j).nm) ∧ w.cell? ⟨g, o + j * 5 + 2, none⟩ = some (.string (q j).vl) ∧ w.cell? ⟨g, o + j * 5 + 3, none⟩ = some (.slice (q j).na (q j).nn (q j).nc) ∧ w.cell? ⟨g, o + j * 5 + 4, none⟩ = some (.bool (q j).wo)) ∧ Aok w (q j) := by
  rcases h with h | ⟨g, o, e, hg, hat⟩
  · omega
  · exact ⟨g, o, e, hg, hat j hj⟩
/-- A row of labels whose block lies between two heights. -/
structure Rg (w : World) (lo hi : Nat) (v : Value) (ks : List Lb) : Prop where
  row : w.ownsRow lo 26 2 v ks.length (lcL ks)
  top : ∀ g, v.ownBlock = some g → lo ≤ g ∧ g < hi
theorem Rg.of {w : World} {lo : Nat} {v : Value} {ks : List Lb} (h : w.ownsRow lo 26 2 v ks.length (lcL ks)) : Rg w lo w.heap.size v ks := ⟨h, fun g hg => World.ownsRow.lt h g hg⟩
theorem Rg.kp {M : Nat → Prop} {w w' : World} {lo hi : Nat} {v : Value} {ks : List Lb} (h : Rg w lo hi v ks) (k : Kp M w w') (hne : ∀ g, lo ≤ g → g < hi → ¬ M g) : Rg w' lo hi v ks :=
  ⟨k.row h.row (fun g hg => hne g (h.top g hg).1 (h.top g hg).2), h.top⟩
theorem Rg.below {w w' : World} {lo hi : Nat} {v : Value} {ks : List Lb} (h : Rg w lo hi v ks) (b : Below w.heap.size w w') : Rg w' lo hi v ks := h.kp (M := fun _ => False) (Kp.of b) (fun _ _ _ => id)
theorem row_low {w : World} {S S' e s n : Nat} {v : Value} {xs : List Value} (o : w.ownsRow S e s v n xs) (h : S' ≤ S) : w.ownsRow S' e s v n xs := by
  refine ⟨o.1, ?_⟩
  rcases o.2 with h0 | ⟨g, cap, cur, hv, hB, r⟩
  · exact .inl h0
  · exact .inr ⟨g, cap, cur, hv, Nat.le_trans h hB, r⟩
theorem row_sl {w : World} {S e s n : Nat} {v : Value} {xs : List Value} (o : w.ownsRow S e s v n xs) : ∃ a c, v = .slice a n c ∧ n ≤ c := by
  rcases o.2 with ⟨e, e2⟩ | ⟨g, c, cur, e, _, hg, hn, _⟩
  · exact ⟨none, 0, by rw [e, e2], by omega⟩
  · exact ⟨_, c, e, hn⟩
theorem Rg.lm {w : World} {lo hi n c : Nat} {a : Option Addr} {ks : List Lb} (h : Rg w lo hi (.slice a n c) ks) (hn : n = ks.length) : Lm w a (gL ks) n := by
  have := h.row
  rw [lcL_lc, ← hn] at this
  exact Lm.of_row this
theorem Rg.own {w : World} {lo hi B : Nat} {v : Value} {ks : List Lb} (h : Rg w lo hi v ks) (hB : B ≤ lo) : Own B w v ks := by
  have := row_low h.row hB
  rw [lcL_lc] at this
  exact this

/-- The colours of seven rows. -/
def c7 (l0 l1 l2 l3 l4 l5 l6 l7 BL b : Nat) : Nat := if b = BL then 7 else if b < l0 then 100 else if b < l1 then 0 else if b < l2 then 1 else if b < l3 then 2 else if b < l4 then 3 else if b < l5 then 4 else if b < l6 then 5 else if b < l7 then 6 else 100
def v7 (v0 v1 v2 v3 v4 v5 v6 : Value) (i : Nat) : Value := if i = 0 then v0 else if i = 1 then v1 else if i = 2 then v2 else if i = 3 then v3 else if i = 4 then v4 else if i = 5 then v5 else v6
def x7 (k0 k1 k2 k3 k4 k5 k6 : List Lb) (i : Nat) : List Lb := if i = 0 then k0 else if i = 1 then k1 else if i = 2 then k2 else if i = 3 then k3 else if i = 4 then k4 else if i = 5 then k5 else k6
theorem apart7 (w : World) (l0 l1 l2 l3 l4 l5 l6 l7 : Nat) (v0 v1 v2 v3 v4 v5 v6 : Value) (k0 k1 k2 k3 k4 k5 k6 : List Lb)
    (h0 : Rg w l0 l1 v0 k0) (h1 : Rg w l1 l2 v1 k1) (h2 : Rg w l2 l3 v2 k2) (h3 : Rg w l3 l4 v3 k3) (h4 : Rg w l4 l5 v4 k4) (h5 : Rg w l5 l6 v5 k5) (h6 : Rg w l6 l7 v6 k6)
    (a0 : l0 ≤ l1) (a1 : l1 ≤ l2) (a2 : l2 ≤ l3) (a3 : l3 ≤ l4) (a4 : l4 ≤ l5) (a5 : l5 ≤ l6) (a6 : l6 ≤ l7) (a7 : l7 ≤ w.heap.size)
    (hk : k0.length ≤ 1073741824 ∧ k1.length ≤ 1073741824 ∧ k2.length ≤ 1073741824 ∧ k3.length ≤ 1073741824 ∧ k4.length ≤ 1073741824 ∧ k5.length ≤ 1073741824 ∧ k6.length ≤ 1073741824) :
    Calls Tryd.prog 19 #[.slice (some ⟨w.heap.size, 0, none⟩) 7 7] (w.alloc (.cells #[v0, v1, v2, v3, v4, v5, v6] 22)) fun e w' => e = .returned (.bool true) ∧ Below l0 w w' := by
  have bA : Below w.heap.size w (w.alloc (.cells #[v0, v1, v2, v3, v4, v5, v6] 22)) := (Below.refl _ w).alloc (Nat.le_refl _) _
  have eA := heap_alloc_new w (.cells #[v0, v1, v2, v3, v4, v5, v6] 22)
  have hc : ∀ g, l0 ≤ g → g < l7 → ¬ g = w.heap.size := fun g _ h e => by omega
  have st : St0 7 l0 w.heap.size (v7 v0 v1 v2 v3 v4 v5 v6) (c7 l0 l1 l2 l3 l4 l5 l6 l7 w.heap.size) (w.alloc (.cells #[v0, v1, v2, v3, v4, v5, v6] 22)) := by
    refine ⟨fun i hi => ?_, if_pos rfl, fun b hb => ?_, by simp; omega, by omega⟩
    · unfold World.cell?
      rw [eA]
      rcases (show i = 0 ∨ i = 1 ∨ i = 2 ∨ i = 3 ∨ i = 4 ∨ i = 5 ∨ i = 6 by omega) with rfl | rfl | rfl | rfl | rfl | rfl | rfl <;> rfl
    · unfold c7 at hb
      by_cases e : b = w.heap.size
      · omega
      · rw [if_neg e] at hb
        by_cases e0 : b < l0
        · rw [if_pos e0] at hb; omega
        · omega
  have ow : ∀ {lo hi : Nat} {v : Value} {ks : List Lb}, Rg w lo hi v ks → l0 ≤ lo → Own l0 (w.alloc (.cells #[v0, v1, v2, v3, v4, v5, v6] 22)) v ks := fun h hl => World.ownsRow.alloc (h.own hl) _
  have p1 : P1 7 l0 (v7 v0 v1 v2 v3 v4 v5 v6) (c7 l0 l1 l2 l3 l4 l5 l6 l7 w.heap.size) (x7 k0 k1 k2 k3 k4 k5 k6) 0 (w.alloc (.cells #[v0, v1, v2, v3, v4, v5, v6] 22)) := by
    intro i hi
    rw [if_neg (by omega)]
    rcases (show i = 0 ∨ i = 1 ∨ i = 2 ∨ i = 3 ∨ i = 4 ∨ i = 5 ∨ i = 6 by omega) with rfl | rfl | rfl | rfl | rfl | rfl | rfl
    · exact ⟨ow h0 (by omega), fun g hg => by have := h0.top g hg; unfold c7; rw [if_neg (by omega), if_neg (by omega), if_pos (by omega)]⟩
    · exact ⟨ow h1 (by omega), fun g hg => by have := h1.top g hg; unfold c7; rw [if_neg (by omega), if_neg (by omega), if_neg (by omega), if_pos (by omega)]⟩
    · exact ⟨ow h2 (by omega), fun g hg => by have := h2.top g hg; unfold c7; rw [if_neg (by omega), if_neg (by omega), if_neg (by omega), if_neg (by omega), if_pos (by omega)]⟩
    · exact ⟨ow h3 (by omega), fun g hg => by have := h3.top g hg; unfold c7; rw [if_neg (by omega), if_neg (by omega), if_neg (by omega), if_neg (by omega), if_neg (by omega), if_pos (by omega)]⟩
    · exact ⟨ow h4 (by omega), fun g hg => by have := h4.top g hg; unfold c7; rw [if_neg (by omega), if_neg (by omega), if_neg (by omega), if_neg (by omega), if_neg (by omega), if_neg (by omega), if_pos (by omega)]⟩
    · exact ⟨ow h5 (by omega), fun g hg => by have := h5.top g hg; unfold c7; rw [if_neg (by omega), if_neg (by omega), if_neg (by omega), if_neg (by omega), if_neg (by omega), if_neg (by omega), if_neg (by omega), if_pos (by omega)]⟩
    · exact ⟨ow h6 (by omega), fun g hg => by have := h6.top g hg; unfold c7; rw [if_neg (by omega), if_neg (by omega), if_neg (by omega), if_neg (by omega), if_neg (by omega), if_neg (by omega), if_neg (by omega), if_neg (by omega), if_pos (by omega)]⟩
  have hX : ∀ i, i < 7 → (x7 k0 k1 k2 k3 k4 k5 k6 i).length ≤ 1073741824 := fun i hi => by
    obtain ⟨q0, q1, q2, q3, q4, q5, q6⟩ := hk
    rcases (show i = 0 ∨ i = 1 ∨ i = 2 ∨ i = 3 ∨ i = 4 ∨ i = 5 ∨ i = 6 by omega) with rfl | rfl | rfl | rfl | rfl | rfl | rfl <;> assumption
  exact (apart_any 7 l0 w.heap.size 7 _ _ _ _ (by omega) hX st p1).mono fun e w' q => ⟨q.1, (bA.mono (by omega)).trans q.2⟩
/-- append([]T{}, a...). -/
theorem fresh_copy {P : Program} (w : World) (t e : TypeId) (z : Value) (size bytes : Nat) (ht : P.underlying t = some (.slice e)) (hin : (P.info? e).map (fun i => (i.zero, i.size, i.bytes)) = some (some z, size, bytes)) (hzs : z.cells.size = size) (hsz : 0 < size)
    (a : Option Addr) (m c : Nat) (news : List Value) (ha : a = none → m = 0 ∧ c = 0) (hl : news.length = m * size) (hnews : ∀ p, a = some p → ∀ j u, news[j]? = some u → w.cell? (p.add j) = some u) (h1 : ∀ u ∈ news, u.oneCell' = true) (hm : m ≤ maxLen) (hby : m * bytes ≤ 140737488355328) :
    ∃ g cap w', (Builtin.append_ #[t, t] t #[.slice (some ⟨w.heap.size, 0, none⟩) 0 0, .slice a m c]).run P (w.alloc (.cells #[] e)) = .ok (.slice (some ⟨g, 0, none⟩) m cap) w' ∧ w'.ownsRow w.heap.size e size (.slice (some ⟨g, 0, none⟩) m cap) m news ∧ Below w.heap.size w w' ∧ w.heap.size ≤ g ∧ g < w'.heap.size := by
  obtain ⟨i, hi, hz, hs, hb⟩ := info_parts hin
  have o0 : (w.alloc (.cells #[] e)).ownsRow w.heap.size e size (.slice (some ⟨w.heap.size, 0, none⟩) 0 0) 0 [] := World.ownsRow_lit w #[] 0 (Nat.le_refl _) (Nat.zero_le _) (by simp)
  have b0 : Below w.heap.size w (w.alloc (.cells #[] e)) := (Below.refl _ w).alloc (Nat.le_refl _) _
  cases a with
  | none =>
    obtain ⟨rfl, rfl⟩ := ha rfl
    have hn : news = [] := List.eq_nil_of_length_eq_zero (by simpa using hl)
    subst hn
    exact ⟨w.heap.size, 0, _, run_append_owned_none _ w.heap.size t t e i size ht hi _ 0 [] o0, o0, b0, Nat.le_refl _, by simp⟩
  | some p =>
    obtain ⟨v', w', r, o', gb, hv, _⟩ := run_append_own_at (P := P) (w.alloc (.cells #[] e)) w.heap.size t t e i z size bytes ht hi hz hs hb hzs hsz _ 0 [] o0 p m c news hl (fun j u hj => bcell2 b0 (hnews p rfl j u hj)) h1 (by omega) (by rw [Nat.zero_add]; exact hby) b0.size
    rw [Nat.zero_add, List.nil_append] at o'
    have hB : Below w.heap.size w w' := b0.trans ⟨gb.os, gb.tape, gb.output, gb.size, fun k hk => gb.block k (Nat.lt_of_lt_of_le hk b0.size) (fun e => by
      have e' : k = w.heap.size := Option.some.inj e
      omega)⟩
    rcases o'.2 with ⟨h0, _⟩ | ⟨g, cap, cur, rfl, hg, hh, _⟩
    · have := (hv.1 h0).1
      cases this
    · exact ⟨g, cap, w', r, o', hB, hg, (Array.getElem?_eq_some_iff.1 hh).1⟩
/-- append([]string{}, names...). -/
theorem copy_n (w : World) (a : Option Addr) (n c : Nat) (f : Nat → ByteArray) (h : Smb w.heap.size w a f n) (ha : a = none → n = 0 ∧ c = 0) (hn : n ≤ 1048576) :
    ∃ g cap w', (Builtin.append_ #[29, 29] 29 #[.slice (some ⟨w.heap.size, 0, none⟩) 0 0, .slice a n c]).run Tryd.prog (w.alloc (.cells #[] 9)) = .ok (.slice (some ⟨g, 0, none⟩) n cap) w' ∧ Smb w'.heap.size w' (some ⟨g, 0, none⟩) f n ∧ Below w.heap.size w w' ∧ w.heap.size ≤ g := by
  obtain ⟨g, cap, w', r, o, b, h1, h2⟩ := fresh_copy (P := Tryd.prog) w 29 9 (.string ⟨#[]⟩) 1 16 Tryd.underlying29 (by kernel_rfl) rfl (by decide) a n c ((List.range n).map fun j => .string (f j)) ha (by simp) (fun p hp j u hj => by
    rcases h with h | ⟨g, o, e, _, hc⟩
    · subst h; simp at hj
    · rw [e] at hp
      cases hp
      have hjn : j < n := by have := (List.getElem?_eq_some_iff.1 hj).1; simpa using this
      simp [hjn] at hj
      rw [← hj, Go.WideShapes.add_plain]
      exact hc j hjn) (fun u hu => by obtain ⟨j, _, rfl⟩ := List.mem_map.1 hu; rfl) (by unfold maxLen; omega) (by omega)
  refine ⟨g, cap, w', r, .inr ⟨g, 0, rfl, h2, fun j hj => ?_⟩, b, h1⟩
  have := World.ownsRow.cells o (g := g) rfl j (.string (f j)) (by simp [hj])
  rw [Go.WideShapes.add_plain] at this
  exact this
/-- One value more in a row of labels. -/
theorem Ir.value {w : World} {S g c n : Nat} {f : Nat → Lb} (h : Ir w S (.slice (some ⟨g, 0, none⟩) n c) n f) (j : Nat) (hj : j < n) (u : ByteArray) : Ir (w.setCell ⟨g, j * 2 + 1, none⟩ (.string u)) S (.slice (some ⟨g, 0, none⟩) n c) n (up f j ((f j).1, u)) := by
  have e : (lc f n).set (j * 2 + 1) (.string u) = lc (up f j ((f j).1, u)) n := by
    rw [← lc_set f j ((f j).1, u) n hj]
    congr 1
    apply List.ext_getElem?
    intro i
    rw [List.getElem?_set]
    split
    · rename_i hi
      subst hi
      rw [if_pos (by rw [lc_len]; omega)]
      exact lc_get f n j 0 hj (by omega)
    · rfl
  have := (World.ownsRow.stored h (j * 2 + 1) (.string u)).1
  rw [e] at this
  exact this
end Go.Proofs.YtjmninjaoemhjaaDoor.K
/- lent, whole. -/
namespace Go.Proofs.YtjmninjaoemhjaaDoor.K
open Go.RowKit Go.Lib

attribute [local go_sem] Oper.semAt_some
set_option maxHeartbeats 2000000 in
set_option maxRecDepth 100000 in
theorem lent_any (a : Option Addr) (c n : Nat) (xs : Nat → Lb) (w : World) (hf : Lm w a xs n) (hn : n ≤ 1099511627776) :
    Calls Tryd.prog 20 #[.slice a n c] w fun r w' => r = .returned (.tuple #[.slice (some ⟨w.heap.size, 0, none⟩) n (n + 40), .slice (some ⟨w.heap.size, 0, none⟩) (n + 40) (n + 40)]) ∧ Ir w' w.heap.size (.slice (some ⟨w.heap.size, 0, none⟩) (n + 40) (n + 40)) (n + 40) (pf xs n) ∧ Below w.heap.size w w' := by
  obtain ⟨w1, r1, o1, b1⟩ := make_i w w.heap.size (n + 40) (Nat.le_refl _) (by omega)
  obtain ⟨w2, r2, o2, g2⟩ := copy_i w1 w.heap.size w.heap.size (n + 40) (n + 40) n (fun _ => zL) xs a c 3 o1 (by omega) (hf.below b1)
  have b2 : Below w.heap.size w w2 := b1.grown g2 b1.size (fun k e => by cases e; exact Nat.le_refl _)
  obtain ⟨G, hG⟩ : ∃ G, G = w.heap.size := ⟨_, rfl⟩
  have HG : Hid (G = w.heap.size) := hG
  rw [← hG] at r1 r2 o2 b2 ⊢
  have r1 : (Instr.makeSlice 22 (.int .i64 ((n : Int) + 40)) (.int .i64 ((n : Int) + 40))).run Tryd.prog w = .ok (.slice (some ⟨G, 0, none⟩) (n + 40) (n + 40)) w1 := by
    rw [show (n : Int) + 40 = ((n + 40 : Nat) : Int) by omega]
    exact r1
  have hb2 : Hid (Below G w w2) := b2
  have O2 : Hid (Ir w2 G (.slice (some ⟨G, 0, none⟩) (n + 40) (n + 40)) (n + 40) (fun j => if j < n then xs j else (if j < n then tL else zL))) := by
    refine Ir.congr o2 (fun j _ => ?_)
    by_cases h : j < n
    · simp [h]
    · simp [h]
  have hni : (n : Int) ≤ 1099511627776 := by omega
  have hnc : (n : Int) ≤ (n : Int) + 40 := by omega
  have r2' : (Builtin.copy_ #[22, 22] 3 #[.slice (some ⟨G, 0, none⟩) (n + 40) (n + 40), .slice a n c]).run Tryd.prog w1 = .ok (.int .i64 (n : Int)) w2 := r2
  clear hf o1 b1 o2 g2 b2 hG r2
  go_enter Tryd.func20, Tryd.ntmps20
  go_wp2_with (at_builtin; refine wpList_copy_run rfl (.tmp 9) (.tmp 10) 22 22 rfl _ _ rfl rfl r2' ?_)
  clear r1 r2'
  go_loopw [4] (fun ivv w' => ∃ i : Nat, ivv = .int .i64 (i : Int) ∧ n ≤ i ∧ i ≤ n + 40 ∧ Hid (Ir w' G (.slice (some ⟨G, 0, none⟩) (n + 40) (n + 40)) (n + 40) (fun j => if j < n then xs j else (if j < i then tL else zL))) ∧ Hid (Below G w w')) (fun ivv _ => n + 40 - (RowKit.intOf ivv).toNat)
  case atStart => exact ⟨n, rfl, by omega, by omega, O2, hb2⟩
  case round =>
    obtain ⟨i, rfl, hi0, hi, ho, hb⟩ := hrel
    by_cases hlt : i < n + 40
    · have hii : (i : Int) < (n : Int) + 40 := by omega
      obtain ⟨z0, z1, z2, z3⟩ := Ir.cells ho.out i hlt
      have os := Ir.congr (Ir.set ho.out i hlt tL) (g := fun j => if j < n then xs j else (if j < i + 1 then tL else zL)) (fun j _ => by
        by_cases hj : j = i
        · subst hj; rw [up_same, if_neg (by omega), if_pos (by omega)]
        · rw [up_other _ _ _ _ hj]
          by_cases h : j < n
          · rw [if_pos h, if_pos h]
          · rw [if_neg h, if_neg h]
            by_cases h2 : j < i
            · rw [if_pos h2, if_pos (by omega)]
            · rw [if_neg h2, if_neg (by omega)])
      have HO : Hid _ := os
      have HB : Hid (Below G w _) := (hb.out.setCell (p := ⟨G, i * 2, none⟩) (Nat.le_refl _) (.string tT)).setCell (p := ⟨G, i * 2 + 1, none⟩) (Nat.le_refl _) (.string tT)
      generalize ((if i < n then xs i else (if i < i then tL else zL)) : Lb).1 = y0 at *
      generalize ((if i < n then xs i else (if i < i then tL else zL)) : Lb).2 = y1 at *
      clear os ho hb
      go_wp2
      exact ⟨⟨i + 1, by go_num, by omega, by omega, HO, HB⟩, by simp [RowKit.intOf]; omega⟩
    · have hin : i = n + 40 := by omega
      subst hin
      have hii : ¬ ((n + 40 : Nat) : Int) < (n : Int) + 40 := by omega
      have HO : Hid (Ir wr G (.slice (some ⟨G, 0, none⟩) (n + 40) (n + 40)) (n + 40) (pf xs n)) := Ir.congr ho.out (fun j hj => by
        unfold pf
        by_cases h : j < n
        · rw [if_pos h, if_pos h]
        · rw [if_neg h, if_neg h, if_pos hj])
      clear ho
      go_wp2
      go_ret2
      exact ⟨rfl, HO.out, hb.out⟩
set_option maxHeartbeats 2000000 in
set_option maxRecDepth 100000 in
theorem whole_true (g : Nat) (a : Option Addr) (c cc n : Nat) (xs : Nat → Lb) (w : World) (hp : Lm w (some ⟨g, 0, none⟩) (pf xs n) (n + 40)) (hf : Lm w a xs n) (hc : n + 40 ≤ cc) (hn : n ≤ 1099511627776) :
    Calls Tryd.prog 22 #[.slice (some ⟨g, 0, none⟩) (n + 40) cc, .slice a n c] w fun r w' => r = .returned (.bool true) ∧ Below w.heap.size w w' := by
  have hpn : Lm w (some ⟨g, 0, none⟩) xs n := by
    rcases hp with h | ⟨g', o', e, hg, hat⟩
    · omega
    · cases e
      exact .inr ⟨g, 0, rfl, hg, fun j hj => by have := hat j (by omega); unfold pf at this; rw [if_pos hj] at this; exact this⟩
  have hpm : ∀ j, j < 40 → w.cell? ⟨g, (n + j) * 2, none⟩ = some (.string tT) ∧ w.cell? ⟨g, (n + j) * 2 + 1, none⟩ = some (.string tT) := fun j hj => by
    obtain ⟨g', o', e, _, h0, h1⟩ := hp.at (n + j) (by omega)
    cases e
    unfold pf at h0 h1
    rw [if_neg (by omega), Nat.zero_add] at h0 h1
    exact ⟨h0, h1⟩
  have HPM : Hid _ := hpm
  have kS := same_true (some ⟨g, 0, none⟩) a cc c n xs w hpn hf (by omega)
  have hci : (n : Int) + 40 ≤ cc := by omega
  have hni : (n : Int) ≤ 1099511627776 := by omega
  have hn1 : (n : Int) ≤ (n : Int) + 40 := by omega
  have hn2 : (n : Int) ≤ cc := by omega
  obtain ⟨G, hG⟩ : ∃ G, G = w.heap.size := ⟨_, rfl⟩
  have HG : Hid (G = w.heap.size) := hG
  rw [← hG] at kS ⊢
  clear hp hf hpn hpm hG
  go_enter Tryd.func22, Tryd.ntmps22
  go_wp2_with fail
  go_fit kS
  rintro r w1 ⟨rfl, b1⟩
  have B1 : Hid (Below G w w1) := b1
  clear b1 kS
  have hl40 : n + 40 - n = 40 := by omega
  go_wp2
  go_loopw [19] (fun ivv w' => ∃ i : Nat, ivv = .int .i64 (i : Int) ∧ i ≤ 40 ∧ Hid (Below G w w')) (fun ivv _ => 40 - (RowKit.intOf ivv).toNat)
  case atStart => exact ⟨0, rfl, by omega, B1⟩
  case round =>
    obtain ⟨i, rfl, hi, hb⟩ := hrel
    by_cases hlt : i < 40
    · have hii : (i : Int) < 40 := by omega
      have hb' : Below w.heap.size w wr := HG.out ▸ hb.out
      obtain ⟨x0, x1⟩ := HPM.out i hlt
      have e0 := bcell2 hb' x0
      have e1 := bcell2 hb' x1
      rw [Nat.add_mul] at e0 e1
      have hGw : G ≤ wr.heap.size := by rw [HG.out]; exact hb'.size
      have HB3 : Hid (Below G w (wr.alloc (lbX tL))) := hb.out.alloc hGw _
      clear x0 x1 hb hb'
      go_wp2
      exact ⟨⟨i + 1, by go_num, by omega, HB3⟩, by simp [RowKit.intOf]; omega⟩
    · have hii : ¬ (i : Int) < 40 := by omega
      go_wp2
      go_ret
      exact ⟨rfl, hb.out⟩
end Go.Proofs.YtjmninjaoemhjaaDoor.K
/- LabelsMakes: both Makes in one form; four rows apart. -/
namespace Go.Proofs.YtjmninjaoemhjaaDoor
open Go.RowKit Go.Lib

/-- What both Makes answer. -/
def mkS (f : Nat → Lb) (n : Nat) : List Lb := if mkE f n = 0 then rmL f n else []
theorem mkS_len (f : Nat → Lb) (n : Nat) : (mkS f n).length ≤ n := by
  unfold mkS
  split
  · rename_i h
    exact rmL_len f n (gd_mkE.2 h)
  · exact Nat.zero_le _
/-- A Make's answer. -/
def MK (f : Nat → Lb) (n : Nat) (w : World) (e : Ending) (w' : World) : Prop := ∃ v, e = .returned (.tuple #[v, .int .i64 (mkE f n)]) ∧ Below w.heap.size w w' ∧ w'.ownsRow w.heap.size 26 2 v (mkS f n).length (lcL (mkS f n))
theorem mkX (a : Option Addr) (f : Nat → Lb) (n c : Nat) (w : World) (hL : Lm w a f n) (hn : n ≤ 1099511627776) (hs : ∀ j, j < n → (f j).1.size ≤ 140737488355328 ∧ (f j).2.size ≤ 140737488355328) (hT : Lib.Utf8Tabs 1 2 w) :
    Calls Tryd.prog 10 #[.slice a n c] w (MK f n w) := by
  refine (makeE_any a f n c w hL hn hs hT).mono ?_
  rintro e w' ⟨v, rfl, b, h⟩
  refine ⟨v, rfl, b, ?_⟩
  unfold mkS
  rcases h with ⟨h0, rfl⟩ | ⟨h0, hG, ks, hp, hs2, o⟩
  · rw [if_neg h0]
    exact World.ownsRow_nil _ _ _ _
  · rw [if_pos h0]
    obtain ⟨hl, hp2⟩ := rmL_ok f n hG
    have e : ks = rmL f n := ls_uniq (ls_make hG hp hs2) hl (hp.trans hp2.symm)
    rw [← e]
    exact World.ownsRow.mono o (by omega)
theorem rmX (a : Option Addr) (f : Nat → Lb) (n c : Nat) (w : World) (hL : Lm w a f n) (hn : n ≤ 1099511627776) (hs : ∀ j, j < n → (f j).1.size ≤ 140737488355328 ∧ (f j).2.size ≤ 140737488355328) (hc : n ≤ c) :
    Calls Tryd.prog 21 #[.slice a n c] w (MK f n w) := by
  refine (rmake_any a f n c w hL hn hs hc).mono ?_
  rintro e w' ⟨v, rfl, b, h⟩
  refine ⟨v, rfl, b, ?_⟩
  unfold mkS
  rcases h with ⟨h0, rfl⟩ | ⟨h0, o⟩
  · rw [if_neg h0]
    exact World.ownsRow_nil _ _ _ _
  · rw [if_pos h0]
    exact o
namespace K
/-- The colours of four rows: the third lies behind the fourth. -/
def c4 (l0 l1 l2 l3 l4 BL b : Nat) : Nat := if b = BL then 4 else if b < l0 then 100 else if b < l1 then 0 else if b < l2 then 1 else if b < l3 then 3 else if b < l4 then 2 else 100
def v4 (v0 v1 v2 v3 : Value) (i : Nat) : Value := if i = 0 then v0 else if i = 1 then v1 else if i = 2 then v2 else v3
def x4 (k0 k1 k2 k3 : List Lb) (i : Nat) : List Lb := if i = 0 then k0 else if i = 1 then k1 else if i = 2 then k2 else k3
theorem apart4 (w : World) (l0 l1 l2 l3 l4 : Nat) (v0 v1 v2 v3 : Value) (k0 k1 k2 k3 : List Lb)
    (h0 : Rg w l0 l1 v0 k0) (h1 : Rg w l1 l2 v1 k1) (h2 : Rg w l3 l4 v2 k2) (h3 : Rg w l2 l3 v3 k3)
    (a0 : l0 ≤ l1) (a1 : l1 ≤ l2) (a2 : l2 ≤ l3) (a3 : l3 ≤ l4) (a4 : l4 ≤ w.heap.size)
    (hk : k0.length ≤ 1073741824 ∧ k1.length ≤ 1073741824 ∧ k2.length ≤ 1073741824 ∧ k3.length ≤ 1073741824) :
    Calls Tryd.prog 19 #[.slice (some ⟨w.heap.size, 0, none⟩) 4 4] (w.alloc (.cells #[v0, v1, v2, v3] 22)) fun e w' => e = .returned (.bool true) ∧ Below l0 w w' := by
  have bA : Below w.heap.size w (w.alloc (.cells #[v0, v1, v2, v3] 22)) := (Below.refl _ w).alloc (Nat.le_refl _) _
  have eA := heap_alloc_new w (.cells #[v0, v1, v2, v3] 22)
  have st : St0 4 l0 w.heap.size (v4 v0 v1 v2 v3) (c4 l0 l1 l2 l3 l4 w.heap.size) (w.alloc (.cells #[v0, v1, v2, v3] 22)) := by
    refine ⟨fun i hi => ?_, if_pos rfl, fun b hb => ?_, by simp; omega, by omega⟩
    · unfold World.cell?
      rw [eA]
      rcases (show i = 0 ∨ i = 1 ∨ i = 2 ∨ i = 3 by omega) with rfl | rfl | rfl | rfl <;> rfl
    · unfold c4 at hb
      by_cases e : b = w.heap.size
      · omega
      · rw [if_neg e] at hb
        by_cases e0 : b < l0
        · rw [if_pos e0] at hb; omega
        · omega
  have ow : ∀ {lo hi : Nat} {v : Value} {ks : List Lb}, Rg w lo hi v ks → l0 ≤ lo → Own l0 (w.alloc (.cells #[v0, v1, v2, v3] 22)) v ks := fun h hl => World.ownsRow.alloc (h.own hl) _
  have p1 : P1 4 l0 (v4 v0 v1 v2 v3) (c4 l0 l1 l2 l3 l4 w.heap.size) (x4 k0 k1 k2 k3) 0 (w.alloc (.cells #[v0, v1, v2, v3] 22)) := by
    intro i hi
    rw [if_neg (by omega)]
    rcases (show i = 0 ∨ i = 1 ∨ i = 2 ∨ i = 3 by omega) with rfl | rfl | rfl | rfl
    · exact ⟨ow h0 (by omega), fun g hg => by have := h0.top g hg; unfold c4; rw [if_neg (by omega), if_neg (by omega), if_pos (by omega)]⟩
    · exact ⟨ow h1 (by omega), fun g hg => by have := h1.top g hg; unfold c4; rw [if_neg (by omega), if_neg (by omega), if_neg (by omega), if_pos (by omega)]⟩
    · exact ⟨ow h2 (by omega), fun g hg => by have := h2.top g hg; unfold c4; rw [if_neg (by omega), if_neg (by omega), if_neg (by omega), if_neg (by omega), if_neg (by omega), if_pos (by omega)]⟩
    · exact ⟨ow h3 (by omega), fun g hg => by have := h3.top g hg; unfold c4; rw [if_neg (by omega), if_neg (by omega), if_neg (by omega), if_neg (by omega), if_pos (by omega)]⟩
  have hX : ∀ i, i < 4 → (x4 k0 k1 k2 k3 i).length ≤ 1073741824 := fun i hi => by
    obtain ⟨q0, q1, q2, q3⟩ := hk
    rcases (show i = 0 ∨ i = 1 ∨ i = 2 ∨ i = 3 by omega) with rfl | rfl | rfl | rfl <;> assumption
  exact (apart_any 4 l0 w.heap.size 4 _ _ _ _ (by omega) hX st p1).mono fun e w' q => ⟨q.1, (bA.mono (by omega)).trans q.2⟩
end K
end Go.Proofs.YtjmninjaoemhjaaDoor
