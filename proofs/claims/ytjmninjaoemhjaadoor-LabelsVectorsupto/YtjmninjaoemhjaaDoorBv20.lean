/- A bundle of texts. -/
import Derived.Test.YtjmninjaoemhjaaDoorBv19
import Derived.Test.YtjmninjaoemhjaaDoorBv16
import Derived.Test.YtjmninjaoemhjaaDoorBv12
/- LabelsKeeps: asks; rows side by side; apart of seven rows. -/
namespace Go.Proofs.YtjmninjaoemhjaaDoor.K
open Go.RowKit Go.Lib

/-- One ask. -/
structure Ak where
  la : Option Addr
  ln : Nat
  lc : Nat
  f : Nat → Lb
  nm : ByteArray
  vl : ByteArray
  na : Option Addr
  nn : Nat
  nc : Nat
  nf : Nat → ByteArray
  wo : Bool
abbrev akX (q : Ak) : Obj := .cells #[.slice q.la q.ln q.lc, .string q.nm, .string q.vl, .slice q.na q.nn q.nc, .bool q.wo] 31
/-- An ask that lies in w. -/
structure Aok (w : World) (q : Ak) : Prop where
  ls : Lm w q.la q.f q.ln
  ns : Smb w.heap.size w q.na q.nf q.nn
  l0 : q.ln ≤ 1048576
  n0 : q.nn ≤ 1048576
  sz : ∀ j, j < q.ln → (q.f j).1.size ≤ 1048576 ∧ (q.f j).2.size ≤ 1048576
  s1 : q.nm.size ≤ 1048576
  s2 : q.vl.size ≤ 1048576
  nz : q.na = none → q.nn = 0 ∧ q.nc = 0
theorem Smb.size {w w' : World} {a : Option Addr} {f : Nat → ByteArray} {n : Nat} (h : Smb w.heap.size w a f n) (hb : Below w.heap.size w w') : Smb w'.heap.size w' a f n := by
  rcases h with h | ⟨g, o, e, hg, hc⟩
  · exact .inl h
  · exact .inr ⟨g, o, e, Nat.lt_of_lt_of_le hg hb.size, fun j hj => (hb.cell (p := ⟨g, o + j, none⟩) hg).trans (hc j hj)⟩
theorem Aok.below {w w' : World} {q : Ak} (h : Aok w q) (hb : Below w.heap.size w w') : Aok w' q := ⟨h.ls.below hb, h.ns.size hb, h.l0, h.n0, h.sz, h.s1, h.s2, h.nz⟩
/-- Asks that a slice shows. -/
def Am (w : World) (a : Option Addr) (q : Nat → Ak) (n : Nat) : Prop := n = 0 ∨ ∃ g o, a = some ⟨g, o, none⟩ ∧ g < w.heap.size ∧ ∀ j, j < n → (w.cell? ⟨g, o + j * 5, none⟩ = some (.slice (q j).la (q j).ln (q j).lc) ∧ w.cell? ⟨g, o + j * 5 + 1, none⟩ = some (.string (q j).nm) ∧ w.cell? ⟨g, o + j * 5 + 2, none⟩ = some (.string (q j).vl) ∧ w.cell? ⟨g, o + j * 5 + 3, none⟩ = some (.slice (q j).na (q j).nn (q j).nc) ∧ w.cell? ⟨g, o + j * 5 + 4, none⟩ = some (.bool (q j).wo)) ∧ Aok w (q j)
theorem Am.at {w : World} {a : Option Addr} {q : Nat → Ak} {n : Nat} (h : Am w a q n) (j : Nat) (hj : j < n) : ∃ g o, a = some ⟨g, o, none⟩ ∧ g < w.heap.size ∧ (w.cell? ⟨g, o + j * 5, none⟩ = some (.slice (q j).la (q j).ln (q j).lc) ∧ w.cell? ⟨g, o + j * 5 + 1, none⟩ = some (.string (q j).nm) ∧ w.cell? ⟨g, o + j * 5 + 2, none⟩ = some (.string (q j).vl) ∧ w.cell? ⟨g, o + j * 5 + 3, none⟩ = some (.slice (q j).na (q j).nn (q j).nc) ∧ w.cell? ⟨g, o + j * 5 + 4, none⟩ = some (.bool (q j).wo)) ∧ Aok w (q j) := by
  rcases h with h | ⟨g, o, e, hg, hat⟩
  · omega
  · exact ⟨g, o, e, hg, hat j hj⟩
/-- A row of labels whose block lies between two heights. -/
structure Rg (w : World) (lo hi : Nat) (v : Value) (ks : List Lb) : Prop where
  row : w.ownsRow lo 26 2 v ks.length (lcL ks)
  top : ∀ g, v.ownBlock = some g → lo ≤ g ∧ g < hi
theorem Rg.of {w : World} {lo : Nat} {v : Value} {ks : List Lb} (h : w.ownsRow lo 26 2 v ks.length (lcL ks)) : Rg w lo w.heap.size v ks := ⟨h, fun g hg => World.ownsRow.lt h g hg⟩
theorem Rg.kp {M : Nat → Prop} {w w' : World} {lo hi : Nat} {v : Value} {ks : List Lb} (h : Rg w lo hi v ks) (k : Kp M w w') (hne : ∀ g, lo ≤ g → g < hi → ¬ M g) : Rg w' lo hi v ks :=
  ⟨k.row h.row (fun g hg => hne g (h.top g hg).1 (h.top g hg).2), h.top⟩
theorem Rg.below {w w' : World} {lo hi : Nat} {v : Value} {ks : List Lb} (h : Rg w lo hi v ks) (b : Below w.heap.size w w') : Rg w' lo hi v ks := h.kp (M := fun _ => False) (Kp.of b) (fun _ _ _ => id)
theorem row_low {w : World} {S S' e s n : Nat} {v : Value} {xs : List Value} (o : w.ownsRow S e s v n xs) (h : S' ≤ S) : w.ownsRow S' e s v n xs := by
  refine ⟨o.1, ?_⟩
  rcases o.2 with h0 | ⟨g, cap, cur, hv, hB, r⟩
  · exact .inl h0
  · exact .inr ⟨g, cap, cur, hv, Nat.le_trans h hB, r⟩
theorem row_sl {w : World} {S e s n : Nat} {v : Value} {xs : List Value} (o : w.ownsRow S e s v n xs) : ∃ a c, v = .slice a n c ∧ n ≤ c := by
  rcases o.2 with ⟨e, e2⟩ | ⟨g, c, cur, e, _, hg, hn, _⟩
  · exact ⟨none, 0, by rw [e, e2], by omega⟩
  · exact ⟨_, c, e, hn⟩
theorem Rg.lm {w : World} {lo hi n c : Nat} {a : Option Addr} {ks : List Lb} (h : Rg w lo hi (.slice a n c) ks) (hn : n = ks.length) : Lm w a (gL ks) n := by
  have := h.row
  rw [lcL_lc, ← hn] at this
  exact Lm.of_row this
theorem Rg.own {w : World} {lo hi B : Nat} {v : Value} {ks : List Lb} (h : Rg w lo hi v ks) (hB : B ≤ lo) : Own B w v ks := by
  have := row_low h.row hB
  rw [lcL_lc] at this
  exact this

/-- The colours of seven rows. -/
def c7 (l0 l1 l2 l3 l4 l5 l6 l7 BL b : Nat) : Nat := if b = BL then 7 else if b < l0 then 100 else if b < l1 then 0 else if b < l2 then 1 else if b < l3 then 2 else if b < l4 then 3 else if b < l5 then 4 else if b < l6 then 5 else if b < l7 then 6 else 100
def v7 (v0 v1 v2 v3 v4 v5 v6 : Value) (i : Nat) : Value := if i = 0 then v0 else if i = 1 then v1 else if i = 2 then v2 else if i = 3 then v3 else if i = 4 then v4 else if i = 5 then v5 else v6
def x7 (k0 k1 k2 k3 k4 k5 k6 : List Lb) (i : Nat) : List Lb := if i = 0 then k0 else if i = 1 then k1 else if i = 2 then k2 else if i = 3 then k3 else if i = 4 then k4 else if i = 5 then k5 else k6
theorem apart7 (w : World) (l0 l1 l2 l3 l4 l5 l6 l7 : Nat) (v0 v1 v2 v3 v4 v5 v6 : Value) (k0 k1 k2 k3 k4 k5 k6 : List Lb)
    (h0 : Rg w l0 l1 v0 k0) (h1 : Rg w l1 l2 v1 k1) (h2 : Rg w l2 l3 v2 k2) (h3 : Rg w l3 l4 v3 k3) (h4 : Rg w l4 l5 v4 k4) (h5 : Rg w l5 l6 v5 k5) (h6 : Rg w l6 l7 v6 k6)
    (a0 : l0 ≤ l1) (a1 : l1 ≤ l2) (a2 : l2 ≤ l3) (a3 : l3 ≤ l4) (a4 : l4 ≤ l5) (a5 : l5 ≤ l6) (a6 : l6 ≤ l7) (a7 : l7 ≤ w.heap.size)
    (hk : k0.length ≤ 1073741824 ∧ k1.length ≤ 1073741824 ∧ k2.length ≤ 1073741824 ∧ k3.length ≤ 1073741824 ∧ k4.length ≤ 1073741824 ∧ k5.length ≤ 1073741824 ∧ k6.length ≤ 1073741824) :
    Calls Tryd.prog 19 #[.slice (some ⟨w.heap.size, 0, none⟩) 7 7] (w.alloc (.cells #[v0, v1, v2, v3, v4, v5, v6] 22)) fun e w' => e = .returned (.bool true) ∧ Below l0 w w' := by
  have bA : Below w.heap.size w (w.alloc (.cells #[v0, v1, v2, v3, v4, v5, v6] 22)) := (Below.refl _ w).alloc (Nat.le_refl _) _
  have eA := heap_alloc_new w (.cells #[v0, v1, v2, v3, v4, v5, v6] 22)
  have hc : ∀ g, l0 ≤ g → g < l7 → ¬ g = w.heap.size := fun g _ h e => by omega
  have st : St0 (fun b => l0 ≤ b) 7 l0 w.heap.size (v7 v0 v1 v2 v3 v4 v5 v6) (c7 l0 l1 l2 l3 l4 l5 l6 l7 w.heap.size) (w.alloc (.cells #[v0, v1, v2, v3, v4, v5, v6] 22)) := by
    refine ⟨fun i hi => ?_, if_pos rfl, fun b hb => ?_, fun b hb => by simp at hb; omega, by simp; omega, by omega⟩
    · unfold World.cell?
      rw [eA]
      rcases (show i = 0 ∨ i = 1 ∨ i = 2 ∨ i = 3 ∨ i = 4 ∨ i = 5 ∨ i = 6 by omega) with rfl | rfl | rfl | rfl | rfl | rfl | rfl <;> rfl
    · unfold c7 at hb
      by_cases e : b = w.heap.size
      · omega
      · rw [if_neg e] at hb
        by_cases e0 : b < l0
        · rw [if_pos e0] at hb; omega
        · omega
  have ow : ∀ {lo hi : Nat} {v : Value} {ks : List Lb}, Rg w lo hi v ks → l0 ≤ lo → Own l0 (w.alloc (.cells #[v0, v1, v2, v3, v4, v5, v6] 22)) v ks := fun h hl => World.ownsRow.alloc (h.own hl) _
  have p1 : P1 7 l0 (v7 v0 v1 v2 v3 v4 v5 v6) (c7 l0 l1 l2 l3 l4 l5 l6 l7 w.heap.size) (x7 k0 k1 k2 k3 k4 k5 k6) 0 (w.alloc (.cells #[v0, v1, v2, v3, v4, v5, v6] 22)) := by
    intro i hi
    rw [if_neg (by omega)]
    rcases (show i = 0 ∨ i = 1 ∨ i = 2 ∨ i = 3 ∨ i = 4 ∨ i = 5 ∨ i = 6 by omega) with rfl | rfl | rfl | rfl | rfl | rfl | rfl
    · exact ⟨ow h0 (by omega), fun g hg => by have := h0.top g hg; unfold c7; rw [if_neg (by omega), if_neg (by omega), if_pos (by omega)]⟩
    · exact ⟨ow h1 (by omega), fun g hg => by have := h1.top g hg; unfold c7; rw [if_neg (by omega), if_neg (by omega), if_neg (by omega), if_pos (by omega)]⟩
    · exact ⟨ow h2 (by omega), fun g hg => by have := h2.top g hg; unfold c7; rw [if_neg (by omega), if_neg (by omega), if_neg (by omega), if_neg (by omega), if_pos (by omega)]⟩
    · exact ⟨ow h3 (by omega), fun g hg => by have := h3.top g hg; unfold c7; rw [if_neg (by omega), if_neg (by omega), if_neg (by omega), if_neg (by omega), if_neg (by omega), if_pos (by omega)]⟩
    · exact ⟨ow h4 (by omega), fun g hg => by have := h4.top g hg; unfold c7; rw [if_neg (by omega), if_neg (by omega), if_neg (by omega), if_neg (by omega), if_neg (by omega), if_neg (by omega), if_pos (by omega)]⟩
    · exact ⟨ow h5 (by omega), fun g hg => by have := h5.top g hg; unfold c7; rw [if_neg (by omega), if_neg (by omega), if_neg (by omega), if_neg (by omega), if_neg (by omega), if_neg (by omega), if_neg (by omega), if_pos (by omega)]⟩
    · exact ⟨ow h6 (by omega), fun g hg => by have := h6.top g hg; unfold c7; rw [if_neg (by omega), if_neg (by omega), if_neg (by omega), if_neg (by omega), if_neg (by omega), if_neg (by omega), if_neg (by omega), if_neg (by omega), if_pos (by omega)]⟩
  have hX : ∀ i, i < 7 → (x7 k0 k1 k2 k3 k4 k5 k6 i).length ≤ 1073741824 := fun i hi => by
    obtain ⟨q0, q1, q2, q3, q4, q5, q6⟩ := hk
    rcases (show i = 0 ∨ i = 1 ∨ i = 2 ∨ i = 3 ∨ i = 4 ∨ i = 5 ∨ i = 6 by omega) with rfl | rfl | rfl | rfl | rfl | rfl | rfl <;> assumption
  exact (apart_any (fun b => l0 ≤ b) 7 l0 w.heap.size 7 _ _ _ _ (by omega) hX st p1).mono fun e w' q => ⟨q.1, (bA.mono (by omega)).trans (q.2.below (by simp; omega) fun k hk hm => by omega)⟩
/-- append([]T{}, a...). -/
theorem fresh_copy {P : Program} (w : World) (t e : TypeId) (z : Value) (size bytes : Nat) (ht : P.underlying t = some (.slice e)) (hin : (P.info? e).map (fun i => (i.zero, i.size, i.bytes)) = some (some z, size, bytes)) (hzs : z.cells.size = size) (hsz : 0 < size)
    (a : Option Addr) (m c : Nat) (news : List Value) (ha : a = none → m = 0 ∧ c = 0) (hl : news.length = m * size) (hnews : ∀ p, a = some p → ∀ j u, news[j]? = some u → w.cell? (p.add j) = some u) (h1 : ∀ u ∈ news, u.oneCell' = true) (hm : m ≤ maxLen) (hby : m * bytes ≤ 140737488355328) :
    ∃ g cap w', (Builtin.append_ #[t, t] t #[.slice (some ⟨w.heap.size, 0, none⟩) 0 0, .slice a m c]).run P (w.alloc (.cells #[] e)) = .ok (.slice (some ⟨g, 0, none⟩) m cap) w' ∧ w'.ownsRow w.heap.size e size (.slice (some ⟨g, 0, none⟩) m cap) m news ∧ Below w.heap.size w w' ∧ w.heap.size ≤ g ∧ g < w'.heap.size := by
  obtain ⟨i, hi, hz, hs, hb⟩ := info_parts hin
  have o0 : (w.alloc (.cells #[] e)).ownsRow w.heap.size e size (.slice (some ⟨w.heap.size, 0, none⟩) 0 0) 0 [] := World.ownsRow_lit w #[] 0 (Nat.le_refl _) (Nat.zero_le _) (by simp)
  have b0 : Below w.heap.size w (w.alloc (.cells #[] e)) := (Below.refl _ w).alloc (Nat.le_refl _) _
  cases a with
  | none =>
    obtain ⟨rfl, rfl⟩ := ha rfl
    have hn : news = [] := List.eq_nil_of_length_eq_zero (by simpa using hl)
    subst hn
    exact ⟨w.heap.size, 0, _, run_append_owned_none _ w.heap.size t t e i size ht hi _ 0 [] o0, o0, b0, Nat.le_refl _, by simp⟩
  | some p =>
    obtain ⟨v', w', r, o', gb, hv, _⟩ := run_append_own_at (P := P) (w.alloc (.cells #[] e)) w.heap.size t t e i z size bytes ht hi hz hs hb hzs hsz _ 0 [] o0 p m c news hl (fun j u hj => bcell2 b0 (hnews p rfl j u hj)) h1 (by omega) (by rw [Nat.zero_add]; exact hby) b0.size
    rw [Nat.zero_add, List.nil_append] at o'
    have hB : Below w.heap.size w w' := b0.trans ⟨gb.os, gb.tape, gb.output, gb.size, fun k hk => gb.block k (Nat.lt_of_lt_of_le hk b0.size) (fun e => by
      have e' : k = w.heap.size := Option.some.inj e
      omega)⟩
    rcases o'.2 with ⟨h0, _⟩ | ⟨g, cap, cur, rfl, hg, hh, _⟩
    · have := (hv.1 h0).1
      cases this
    · exact ⟨g, cap, w', r, o', hB, hg, (Array.getElem?_eq_some_iff.1 hh).1⟩
/-- append([]string{}, names...). -/
theorem copy_n (w : World) (a : Option Addr) (n c : Nat) (f : Nat → ByteArray) (h : Smb w.heap.size w a f n) (ha : a = none → n = 0 ∧ c = 0) (hn : n ≤ 1048576) :
    ∃ g cap w', (Builtin.append_ #[29, 29] 29 #[.slice (some ⟨w.heap.size, 0, none⟩) 0 0, .slice a n c]).run Tryd.prog (w.alloc (.cells #[] 9)) = .ok (.slice (some ⟨g, 0, none⟩) n cap) w' ∧ Smb w'.heap.size w' (some ⟨g, 0, none⟩) f n ∧ Below w.heap.size w w' ∧ w.heap.size ≤ g := by
  obtain ⟨g, cap, w', r, o, b, h1, h2⟩ := fresh_copy (P := Tryd.prog) w 29 9 (.string ⟨#[]⟩) 1 16 Tryd.underlying29 (by kernel_rfl) rfl (by decide) a n c ((List.range n).map fun j => .string (f j)) ha (by simp) (fun p hp j u hj => by
    rcases h with h | ⟨g, o, e, _, hc⟩
    · subst h; simp at hj
    · rw [e] at hp
      cases hp
      have hjn : j < n := by have := (List.getElem?_eq_some_iff.1 hj).1; simpa using this
      simp [hjn] at hj
      rw [← hj, Go.WideShapes.add_plain]
      exact hc j hjn) (fun u hu => by obtain ⟨j, _, rfl⟩ := List.mem_map.1 hu; rfl) (by unfold maxLen; omega) (by omega)
  refine ⟨g, cap, w', r, .inr ⟨g, 0, rfl, h2, fun j hj => ?_⟩, b, h1⟩
  have := World.ownsRow.cells o (g := g) rfl j (.string (f j)) (by simp [hj])
  rw [Go.WideShapes.add_plain] at this
  exact this
/-- One value more in a row of labels. -/
theorem Ir.value {w : World} {S g c n : Nat} {f : Nat → Lb} (h : Ir w S (.slice (some ⟨g, 0, none⟩) n c) n f) (j : Nat) (hj : j < n) (u : ByteArray) : Ir (w.setCell ⟨g, j * 2 + 1, none⟩ (.string u)) S (.slice (some ⟨g, 0, none⟩) n c) n (up f j ((f j).1, u)) := by
  have e : (lc f n).set (j * 2 + 1) (.string u) = lc (up f j ((f j).1, u)) n := by
    rw [← lc_set f j ((f j).1, u) n hj]
    congr 1
    apply List.ext_getElem?
    intro i
    rw [List.getElem?_set]
    split
    · rename_i hi
      subst hi
      rw [if_pos (by rw [lc_len]; omega)]
      exact lc_get f n j 0 hj (by omega)
    · rfl
  have := (World.ownsRow.stored h (j * 2 + 1) (.string u)).1
  rw [e] at this
  exact this
end Go.Proofs.YtjmninjaoemhjaaDoor.K
/- Vectors copied: a row made, label sets copied. -/
namespace Go.Proofs.YtjmninjaoemhjaaDoor
open Go.RowKit Go.Lib Go.Shelf Go.Sort

theorem fl_zero (n : Nat) : (madeCells (Value.agg #[.slice none 0 0, .float .f64 0]).cells (n * 2)).toList = fl e2 (elL (fun _ => zE) n) := by
  apply List.ext_getElem?
  intro t
  have hz : (Value.agg #[.slice none 0 0, .float .f64 0]).cells = #[.slice none 0 0, .float .f64 0] := by rfl
  rw [hz]
  by_cases h : t < n * 2
  · have e : t = t / 2 * 2 + t % 2 := by omega
    have hm : t % 2 < 2 := by omega
    have hj : t / 2 < n := by omega
    conv => rhs; rw [e, fl_get e2_len _ _ _ hm, elL_get _ _ _ hj]
    rcases Nat.mod_two_eq_zero_or_one t with h0 | h0
    · rw [h0]
      simp [madeCells, h, h0, e2, zE]
    · rw [h0]
      simp [madeCells, h, h0, e2, zE]
  · rw [List.getElem?_eq_none (by simp [madeCells]; omega), List.getElem?_eq_none (by rw [fl_len e2_len, elL_len]; omega)]
theorem make_el (n B : Nat) (W : World) (hB : B ≤ W.heap.size) (hn : n ≤ 4294967296) : ∃ W', (Instr.makeSlice 40 (.int .i64 (n : Int)) (.int .i64 (n : Int))).run Tryd.prog W = .ok (.slice (some ⟨W.heap.size, 0, none⟩) n n) W' ∧ W'.ownsRow B 45 2 (.slice (some ⟨W.heap.size, 0, none⟩) n n) n (fl e2 (elL (fun _ => zE) n)) ∧ Below W.heap.size W W' := by
  obtain ⟨i0, hi, hz0, hz1, hz2⟩ := info_parts infE
  obtain ⟨W', r, o, g⟩ := run_make_full (P := Tryd.prog) W B 40 45 i0 _ 2 Tryd.underlying40 hi hz0 hz1 .i64 .i64 n (by rw [hz2]; omega) (by unfold maxLen; omega) hB
  rw [fl_zero] at o
  exact ⟨W', r, o, (Below.refl _ W).grown g (Nat.le_refl _) (fun k hk => by cases hk)⟩
/-- append([]Label{}, ls...). -/
theorem copy_ls (w : World) (a : Option Addr) (n c : Nat) (f : Nat → Lb) (h : Lm w a f n) (ha : a = none → n = 0 ∧ c = 0) (hn : n ≤ 4294967296) :
    ∃ g cap w', (Builtin.append_ #[22, 22] 22 #[.slice (some ⟨w.heap.size, 0, none⟩) 0 0, .slice a n c]).run Tryd.prog (w.alloc (.cells #[] 26)) = .ok (.slice (some ⟨g, 0, none⟩) n cap) w' ∧ w'.ownsRow w.heap.size 26 2 (.slice (some ⟨g, 0, none⟩) n cap) n (lc f n) ∧ Below w.heap.size w w' ∧ w.heap.size ≤ g ∧ g < w'.heap.size :=
  K.fresh_copy (P := Tryd.prog) w 22 26 _ 2 32 Tryd.underlying22 infL (by rfl) (by decide) a n c (lc f n) ha (by rw [lc_len]) (fun p hp j u hj => by
    subst hp
    exact h.cells j u hj) (lc_one f n) (by unfold maxLen; omega) (by omega)
end Go.Proofs.YtjmninjaoemhjaaDoor
/- LabelsVectors: what elements say; the one answer; lists that share no memory. -/
namespace Go.Proofs.YtjmninjaoemhjaaDoor
open Go.RowKit Go.Lib Go.Shelf Go.Sort

abbrev Co := Nat × List Lb × Nat
def cfC (x y : Co) : Int := cm (K.gL x.2.1) x.1 (K.gL y.2.1) y.1
def okC (x : Co) : Bool := vaF (K.gL x.2.1) x.1 0
theorem cmF_cong {f f' g g' : Nat → Lb} {n m : Nat} (hf : ∀ j, j < n → f j = f' j) (hg : ∀ j, j < m → g j = g' j) : ∀ k i, i + k = n → cmF f g m k i = cmF f' g' m k i
  | 0, i, _ => rfl
  | k + 1, i, h => by
    unfold cmF
    by_cases hi : i < m
    · rw [if_pos hi, if_pos hi, hf i (by omega), hg i hi, cmF_cong hf hg k (i + 1) (by omega)]
    · rw [if_neg hi, if_neg hi]
theorem gL_ll (f : Nat → Lb) (n j : Nat) (h : j < n) : K.gL (K.ll f n) j = f j := by simp [K.gL, K.ll, h]
theorem cfE_core (x y : El) : cfE x y = cfC (core x) (core y) :=
  cmF_cong (fun j hj => (gL_ll x.f x.n j hj).symm) (fun j hj => (gL_ll y.f y.n j hj).symm) x.n 0 (by omega)
theorem vaF_cong {f f' : Nat → Lb} {n : Nat} (hf : ∀ j, j < n → f j = f' j) : ∀ k i, i + k = n → vaF f k i = vaF f' k i
  | 0, _, _ => rfl
  | k + 1, i, h => by
    unfold vaF okL
    rw [hf i (by omega), hf (i - 1) (by omega), vaF_cong hf k (i + 1) (by omega)]
theorem okE_core (x : El) : okE x = okC (core x) := vaF_cong (fun j hj => (gL_ll x.f x.n j hj).symm) x.n 0 (by omega)
theorem cfC_anti (x y : Co) : cfC y x = - cfC x y := cm_anti _ _ _ _
/-- What Vector says of elements that say cs. -/
def CV (cs : List Co) (E : Int) (ks : List Co) : Prop :=
  (E = 5 ∧ ks = [] ∧ ¬ ((∀ c ∈ cs, okC c = true) ∧ cs.Pairwise (fun x y => cfC x y ≠ 0))) ∨
  (E = 0 ∧ (∀ c ∈ cs, okC c = true) ∧ ks.Perm cs ∧ ks.Pairwise (fun x y => cfC x y < 0))
theorem sorted_uniq {α : Type} {r : α → α → Prop} (asy : ∀ x y, r x y → r y x → False) : ∀ {l l' : List α}, l.Perm l' → l.Pairwise r → l'.Pairwise r → l = l'
  | [], l', hp, _, _ => (List.Perm.nil_eq hp)
  | x :: l, l', hp, h1, h2 => by
    cases l' with
    | nil => exact absurd hp.length_eq (by simp)
    | cons y m =>
      rw [List.pairwise_cons] at h1 h2
      have hx : x ∈ y :: m := hp.subset (by simp)
      have hy : y ∈ x :: l := hp.symm.subset (by simp)
      rw [List.mem_cons] at hx hy
      have e : x = y := by
        rcases hx with e | hx
        · exact e
        · rcases hy with e | hy
          · exact e.symm
          · exact (asy x y (h1.1 y hy) (h2.1 x hx)).elim
      subst e
      rw [sorted_uniq asy (List.Perm.cons_inv hp) h1.2 h2.2]
theorem CV.ne {cs ks : List Co} (hp : ks.Perm cs) (h : ks.Pairwise (fun x y => cfC x y < 0)) : cs.Pairwise (fun x y => cfC x y ≠ 0) :=
  (hp.pairwise_iff (fun {x y} h => by have := cfC_anti x y; omega)).1 (h.imp fun {x y} h => by omega)
theorem CV.uniq {cs ks ks' : List Co} {E E' : Int} (h : CV cs E ks) (h' : CV cs E' ks') : E = E' ∧ ks = ks' := by
  rcases h with ⟨e, k, n⟩ | ⟨e, o, p, s⟩
  · rcases h' with ⟨e', k', _⟩ | ⟨_, o', p', s'⟩
    · exact ⟨e.trans e'.symm, k.trans k'.symm⟩
    · exact (n ⟨o', CV.ne p' s'⟩).elim
  · rcases h' with ⟨_, _, n'⟩ | ⟨e', o', p', s'⟩
    · exact (n' ⟨o, CV.ne p s⟩).elim
    · exact ⟨e.trans e'.symm, sorted_uniq (fun x y h1 h2 => by have := cfC_anti x y; omega) (p.trans p'.symm) s s'⟩
theorem CV.len {cs ks : List Co} {E : Int} (h : CV cs E ks) : ks.length ≤ cs.length := by
  rcases h with ⟨_, k, _⟩ | ⟨_, _, p, _⟩
  · rw [k]; exact Nat.zero_le _
  · rw [p.length_eq]; exact Nat.le_refl _
theorem ne_core {l : List El} : (l.map core).Pairwise (fun x y => cfC x y ≠ 0) ↔ l.Pairwise (fun x y => cfE x y ≠ 0) := by
  rw [List.pairwise_map]
  exact ⟨fun h => h.imp fun {x y} h => by rw [cfE_core]; exact h, fun h => h.imp fun {x y} h => by rw [← cfE_core]; exact h⟩
theorem lt_core {l : List El} (h : l.Pairwise (fun x y => cfE x y < 0)) : (l.map core).Pairwise (fun x y => cfC x y < 0) := by
  rw [List.pairwise_map]
  exact h.imp fun {x y} h => by rw [← cfE_core]; exact h
theorem mem_elL {q : Nat → El} {n : Nat} {x : El} : x ∈ elL q n ↔ ∃ j, j < n ∧ q j = x := by simp [elL]
theorem bad_core {q : Nat → El} {n : Nat} (h : (∃ j, j < n ∧ okE (q j) = false) ∨ ¬ (elL q n).Pairwise (fun x y => cfE x y ≠ 0)) : ¬ ((∀ c ∈ (elL q n).map core, okC c = true) ∧ ((elL q n).map core).Pairwise (fun x y => cfC x y ≠ 0)) := by
  rintro ⟨h1, h2⟩
  rcases h with ⟨j, hj, h⟩ | h
  · have := h1 (core (q j)) (List.mem_map.2 ⟨q j, mem_elL.2 ⟨j, hj, rfl⟩, rfl⟩)
    rw [← okE_core, h] at this
    cases this
  · exact h (ne_core.1 h2)
theorem ok_core {q : Nat → El} {n : Nat} (h : ∀ j, j < n → okE (q j) = true) : ∀ c ∈ (elL q n).map core, okC c = true := by
  intro c hc
  obtain ⟨x, hx, rfl⟩ := List.mem_map.1 hc
  obtain ⟨j, hj, rfl⟩ := mem_elL.1 hx
  rw [← okE_core]
  exact h j hj
theorem VR.cv {q : Nat → El} {n : Nat} {w w' : World} {e : Ending} (h : VR q n w e w') : ∃ v E N r, e = .returned (.tuple #[v, .int .i64 E]) ∧ Below w.heap.size w w' ∧ Vo w.heap.size w' v N r ∧ CV ((elL q n).map core) E ((elL r N).map core) := by
  obtain ⟨v, E, he, b, ⟨e5, hv, hb⟩ | ⟨e0, ho, ks, r, hp, hs, hV, hc⟩⟩ := h
  · refine ⟨v, E, 0, q, he, b, ?_, .inl ⟨e5, rfl, bad_core hb⟩⟩
    subst hv
    exact ⟨World.ownsRow_nil _ _ _ _, fun j hj => absurd hj (by omega), fun j k h1 h2 => absurd h2 (by omega)⟩
  · exact ⟨v, E, n, r, he, b, hV, .inr ⟨e0, ok_core ho, by rw [hc]; exact hp.map core, by rw [hc]; exact lt_core hs⟩⟩
theorem RVR.cv {q : Nat → El} {n : Nat} {w w' : World} {e : Ending} (h : RVR q n w e w') : ∃ v E ks, e = .returned (.tuple #[v, .int .i64 E]) ∧ Below w.heap.size w w' ∧ w'.ownsRow w.heap.size 45 2 v ks.length (fl e2 ks) ∧ (∀ x ∈ ks, ∃ j, j < n ∧ q j = x) ∧ CV ((elL q n).map core) E (ks.map core) := by
  obtain ⟨v, E, he, b, ⟨e5, hv, hb⟩ | ⟨e0, ho, ks, hp, hs, hr⟩⟩ := h
  · refine ⟨v, E, [], he, b, ?_, fun x hx => absurd hx (by simp), .inl ⟨e5, rfl, bad_core hb⟩⟩
    subst hv
    exact World.ownsRow_nil _ _ _ _
  · exact ⟨v, E, ks, he, b, hr, fun x hx => mem_elL.1 (hp.subset hx), .inr ⟨e0, ok_core ho, hp.map core, lt_core hs⟩⟩
open Classical in
/-- apart over any number of rows. -/
theorem apart_rows (q B BL cap : Nat) (V : Nat → Value) (X : Nat → List Lb) (w : World) (h0 : 0 < q) (hq : q ≤ 4294967295) (hX : ∀ i, i < q → (X i).length ≤ 1073741824) (hB : B ≤ w.heap.size)
    (hc : ∀ i, i < q → w.cell? ⟨BL, i, none⟩ = some (V i)) (ho : ∀ i, i < q → K.Own B w (V i) (X i)) (hBL : ∀ i, i < q → (V i).ownBlock ≠ some BL)
    (hne : ∀ i j, i < q → j < q → i ≠ j → ∀ b, (V i).ownBlock = some b → (V j).ownBlock ≠ some b) :
    Calls Tryd.prog 19 #[.slice (some ⟨BL, 0, none⟩) q cap] w fun e w' => e = .returned (.bool true) ∧ Kp (fun b => b = BL ∨ (∃ i, i < q ∧ (V i).ownBlock = some b) ∨ w.heap.size ≤ b) w w' := by
  obtain ⟨col, hcol⟩ : ∃ col : Nat → Nat, col = fun b => if b = BL then q else if h : ∃ i, i < q ∧ (V i).ownBlock = some b then Classical.choose h else q + 100 := ⟨_, rfl⟩
  refine K.apart_any _ q B BL cap V X col w hq hX ⟨hc, by rw [hcol]; exact if_pos rfl, fun b hb => ?_, fun b hb => .inr (.inr hb), hB, h0⟩ fun i hi => ?_
  · rw [hcol] at hb
    dsimp only at hb
    split at hb
    · rename_i e; exact .inl e
    · split at hb
      · rename_i h; exact .inr (.inl h)
      · omega
  · rw [if_neg (by omega)]
    refine ⟨ho i hi, fun g hg => ?_⟩
    have hgb : g ≠ BL := fun e => hBL i hi (by rw [← e]; exact hg)
    have hx : ∃ i, i < q ∧ (V i).ownBlock = some g := ⟨i, hi, hg⟩
    rw [hcol]
    show (if g = BL then q else if h : ∃ i, i < q ∧ (V i).ownBlock = some g then Classical.choose h else q + 100) = i
    rw [if_neg hgb, dif_pos hx]
    obtain ⟨h1, h2⟩ := Classical.choose_spec hx
    by_cases e : Classical.choose hx = i
    · exact e
    · exact (hne _ i h1 hi e g h2 hg).elim
end Go.Proofs.YtjmninjaoemhjaaDoor
