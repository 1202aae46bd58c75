/- copied: rows of instructions, of ranges, of names. -/
import Derived.Test.YtnpgkiidpeaapaaDoorMo
import Derived.Deep.DeepCutAuto
namespace Go.Proofs.YtnpgkiidpeaapaaDoor
open Go.RowKit

def Sml (w : World) (a : Option Addr) (f : Nat → ByteArray) (n : Nat) : Prop := n = 0 ∨ ∃ g o, a = some ⟨g, o, none⟩ ∧ g < w.heap.size ∧ ∀ j, j < n → w.cell? ⟨g, o + j, none⟩ = some (.string (f j))
theorem Sml.below {w w' : World} {a : Option Addr} {f : Nat → ByteArray} {n : Nat} (h : Sml w a f n) (hb : Below w.heap.size w w') : Sml w' a f n := by
  rcases h with h | ⟨g, o, rfl, hg, hc⟩
  · exact .inl h
  · exact .inr ⟨g, o, rfl, Nat.lt_of_lt_of_le hg hb.size, fun j hj => (hb.cell (p := ⟨g, o + j, none⟩) hg).trans (hc j hj)⟩
theorem Sml.at {w : World} {a : Option Addr} {f : Nat → ByteArray} {n : Nat} (h : Sml w a f n) (j : Nat) (hj : j < n) : ∃ g o, a = some ⟨g, o, none⟩ ∧ g < w.heap.size ∧ w.cell? ⟨g, o + j, none⟩ = some (.string (f j)) := by
  rcases h with h | ⟨g, o, rfl, hg, hat⟩
  · omega
  · exact ⟨g, o, rfl, hg, hat j hj⟩
def i5 (x : In) : List Value := [.int .i64 x.op, .int .i64 x.out, .int .i64 x.alt, .int .i64 x.arg, .slice x.ra x.rn x.rc]
def n5 (f : Nat → In) (n : Nat) : List Value := (List.range n).flatMap fun j => i5 (f j)
theorem n5_succ (f : Nat → In) (n : Nat) : n5 f (n + 1) = n5 f n ++ i5 (f n) := by
  unfold n5
  rw [List.range_succ, List.flatMap_append]
  simp
theorem n5_len (f : Nat → In) (n : Nat) : (n5 f n).length = n * 5 := by
  induction n with
  | zero => rfl
  | succ n ih => rw [n5_succ, List.length_append, ih]; simp [i5]; omega
theorem n5_get (f : Nat → In) : ∀ (n j k : Nat), j < n → k < 5 → (n5 f n)[j * 5 + k]? = (i5 (f j))[k]?
  | 0, j, k, h, _ => by omega
  | n + 1, j, k, h, hk => by
    rw [n5_succ]
    by_cases hj : j < n
    · rw [List.getElem?_append_left (by rw [n5_len]; omega)]
      exact n5_get f n j k hj hk
    · obtain rfl : j = n := by omega
      rw [List.getElem?_append_right (by rw [n5_len]; omega), n5_len]
      congr 1
      omega
theorem n5_congr (f g : Nat → In) (n : Nat) (h : ∀ j, j < n → f j = g j) : n5 f n = n5 g n := by
  induction n with
  | zero => rfl
  | succ n ih => rw [n5_succ, n5_succ, ih fun j hj => h j (by omega), h n (by omega)]
def r2 (x : Rg) : List Value := [.int .i32 x.1, .int .i32 x.2]
def rc2 (f : Nat → Rg) (n : Nat) : List Value := (List.range n).flatMap fun j => r2 (f j)
theorem rc2_succ (f : Nat → Rg) (n : Nat) : rc2 f (n + 1) = rc2 f n ++ r2 (f n) := by
  unfold rc2
  rw [List.range_succ, List.flatMap_append]
  simp
theorem rc2_len (f : Nat → Rg) (n : Nat) : (rc2 f n).length = n * 2 := by
  induction n with
  | zero => rfl
  | succ n ih => rw [rc2_succ, List.length_append, ih]; simp [r2]; omega
theorem rc2_get (f : Nat → Rg) : ∀ (n j k : Nat), j < n → k < 2 → (rc2 f n)[j * 2 + k]? = (r2 (f j))[k]?
  | 0, j, k, h, _ => by omega
  | n + 1, j, k, h, hk => by
    rw [rc2_succ]
    by_cases hj : j < n
    · rw [List.getElem?_append_left (by rw [rc2_len]; omega)]
      exact rc2_get f n j k hj hk
    · obtain rfl : j = n := by omega
      rw [List.getElem?_append_right (by rw [rc2_len]; omega), rc2_len]
      congr 1
      omega
theorem Rml.cells {w : World} {p : Addr} {f : Nat → Rg} {n : Nat} (h : Rml w (some p) f n) : ∀ j u, (rc2 f n)[j]? = some u → w.cell? (p.add j) = some u := by
  intro j u hj
  have hjl : j < n * 2 := by
    have := (List.getElem?_eq_some_iff.1 hj).1
    rw [rc2_len] at this
    exact this
  rcases h with h | ⟨g, o, e, _, hc⟩
  · omega
  · cases e
    have hj2 : j / 2 * 2 + j % 2 = j := by omega
    rw [← hj2, rc2_get f n (j / 2) (j % 2) (by omega) (by omega)] at hj
    obtain ⟨c0, c1⟩ := hc (j / 2) (by omega)
    rw [Go.WideShapes.add_plain]
    rcases Nat.mod_two_eq_zero_or_one j with h0 | h0
    · rw [h0] at hj
      simp [r2] at hj
      rw [show o + j = o + j / 2 * 2 by omega, c0, hj]
    · rw [h0] at hj
      simp [r2] at hj
      rw [show o + j = o + j / 2 * 2 + 1 by omega, c1, hj]
theorem Rml.of_row {w : World} {S g c n : Nat} {f : Nat → Rg} (h : w.ownsRow S 54 2 (.slice (some ⟨g, 0, none⟩) n c) n (rc2 f n)) (hg : g < w.heap.size) : Rml w (some ⟨g, 0, none⟩) f n := by
  refine .inr ⟨g, 0, rfl, hg, fun j hj => ?_⟩
  rw [Nat.zero_add]
  have h0 := World.ownsRow.cellAt h (j * 2) (by omega)
  have h1 := World.ownsRow.cellAt h (j * 2 + 1) (by omega)
  have e0 := rc2_get f n j 0 hj (by omega)
  have e1 := rc2_get f n j 1 hj (by omega)
  rw [Nat.add_zero] at e0
  exact ⟨h0.trans e0, h1.trans e1⟩
theorem n5_one (f : Nat → In) (n : Nat) : ∀ u ∈ n5 f n, u.oneCell' = true := by
  intro u hu
  unfold n5 at hu
  rw [List.mem_flatMap] at hu
  obtain ⟨j, _, hu⟩ := hu
  simp [i5] at hu
  rcases hu with rfl | rfl | rfl | rfl | rfl <;> rfl
theorem rc2_one (f : Nat → Rg) (n : Nat) : ∀ u ∈ rc2 f n, u.oneCell' = true := by
  intro u hu
  unfold rc2 at hu
  rw [List.mem_flatMap] at hu
  obtain ⟨j, _, hu⟩ := hu
  simp [r2] at hu
  rcases hu with rfl | rfl <;> rfl

def sS (f : Nat → ByteArray) : Nat → Value := fun j => .string (f j)
theorem sS_one (f : Nat → ByteArray) (n : Nat) : ∀ u ∈ sc (sS f) n, u.oneCell' = true := by
  intro u hu
  unfold sc at hu
  rw [List.mem_map] at hu
  obtain ⟨j, _, rfl⟩ := hu
  rfl
theorem Sml.cells {w : World} {p : Addr} {f : Nat → ByteArray} {n : Nat} (h : Sml w (some p) f n) : ∀ j u, (sc (sS f) n)[j]? = some u → w.cell? (p.add j) = some u := by
  intro j u hj
  have hjl : j < n := by
    have := (List.getElem?_eq_some_iff.1 hj).1
    rw [sc_len] at this
    exact this
  rcases h with h | ⟨g, o, e, _, hc⟩
  · omega
  · cases e
    rw [Go.WideShapes.add_plain, hc j hjl]
    rw [sc_get _ _ _ hjl] at hj
    exact hj
theorem Sml.of_row {w : World} {S g c n : Nat} {f : Nat → ByteArray} (h : w.ownsRow S 9 1 (.slice (some ⟨g, 0, none⟩) n c) n (sc (sS f) n)) (hg : g < w.heap.size) : Sml w (some ⟨g, 0, none⟩) f n := by
  refine .inr ⟨g, 0, rfl, hg, fun j hj => ?_⟩
  rw [Nat.zero_add, World.ownsRow.cellAt h j (by omega), sc_get _ _ _ hj]
  rfl
theorem infN : (Tryd.prog.info? 25).map (fun i => (i.zero, i.size, i.bytes)) = some (some (.agg #[.int .i64 0, .int .i64 0, .int .i64 0, .int .i64 0, .slice none 0 0]), 5, 56) := by kernel_rfl
theorem infS : (Tryd.prog.info? 9).map (fun i => (i.zero, i.size, i.bytes)) = some (some (.string ⟨#[]⟩), 1, 16) := by kernel_rfl
theorem infG : (Tryd.prog.info? 54).map (fun i => (i.zero, i.size, i.bytes)) = some (some (.agg #[.int .i32 0, .int .i32 0]), 2, 8) := by kernel_rfl
/-- append of a list to an empty one. -/
theorem fresh_app (w : World) (S b : Nat) (t e : TypeId) (z : Value) (size bytes : Nat) (ht : Tryd.prog.underlying t = some (.slice e)) (hin : (Tryd.prog.info? e).map (fun i => (i.zero, i.size, i.bytes)) = some (some z, size, bytes)) (hzs : z.cells.size = size) (hsz : 0 < size)
    (o0 : w.ownsRow S e size (.slice (some ⟨b, 0, none⟩) 0 0) 0 []) (hS : S ≤ w.heap.size) (a : Option Addr) (m c : Nat) (news : List Value) (ha : a = none → m = 0 ∧ c = 0) (hl : news.length = m * size) (hnews : ∀ p, a = some p → ∀ j u, news[j]? = some u → w.cell? (p.add j) = some u) (h1 : ∀ u ∈ news, u.oneCell' = true) (hm : m ≤ maxLen) (hby : m * bytes ≤ 140737488355328) :
    ∃ g cap w', (Builtin.append_ #[t, t] t #[.slice (some ⟨b, 0, none⟩) 0 0, .slice a m c]).run Tryd.prog w = .ok (.slice (some ⟨g, 0, none⟩) m cap) w' ∧ w'.ownsRow S e size (.slice (some ⟨g, 0, none⟩) m cap) m news ∧ Kp (· = b) w w' ∧ (g = b ∨ w.heap.size ≤ g) ∧ g < w'.heap.size := by
  obtain ⟨i, hi, hz, hs, hb⟩ := info_parts hin
  have hblt := (row_lt o0 b rfl).2
  cases a with
  | none =>
    obtain ⟨rfl, rfl⟩ := ha rfl
    have hn : news = [] := List.eq_nil_of_length_eq_zero (by simpa using hl)
    subst hn
    exact ⟨b, 0, _, run_append_owned_none _ S t t e i size ht hi _ 0 [] o0, o0, Kp.refl _ _, .inl rfl, hblt⟩
  | some p =>
    obtain ⟨v', w', r, o', gb, hv, h5⟩ := run_append_own_at (P := Tryd.prog) w S t t e i z size bytes ht hi hz hs hb hzs hsz _ 0 [] o0 p m c news hl (fun j u hj => hnews p rfl j u hj) h1 (by omega) (by rw [Nat.zero_add]; exact hby) hS
    rw [Nat.zero_add, List.nil_append] at o'
    rcases o'.2 with ⟨h0, _⟩ | ⟨g, cap, cur, rfl, hg, hh, _⟩
    · have := (hv.1 h0).1
      cases this
    · refine ⟨g, cap, w', r, o', (Kp.refl _ w).grown gb (fun q hq _ => (Option.some.inj hq).symm), ?_, (Array.getElem?_eq_some_iff.1 hh).1⟩
      rcases h5 with h5 | h5
      · exact .inl (Option.some.inj h5)
      · exact .inr (by have : g = w.heap.size := Option.some.inj h5; omega)
theorem fresh_o0 (w : World) (S : Nat) (e : TypeId) (size : Nat) (hS : S ≤ w.heap.size) : (w.alloc (.cells #[] e)).ownsRow S e size (.slice (some ⟨w.heap.size, 0, none⟩) 0 0) 0 [] := World.ownsRow_lit w #[] 0 hS (Nat.zero_le _) (by simp)
theorem Rml.kp {M : Nat → Prop} {w w' : World} {a : Option Addr} {f : Nat → Rg} {n : Nat} (h : Rml w a f n) (k : Kp M w w') (hm : ∀ g o, a = some ⟨g, o, none⟩ → ¬ M g) : Rml w' a f n := by
  rcases h with h | ⟨g, o, rfl, hg, hc⟩
  · exact .inl h
  · have := hm g o rfl
    exact .inr ⟨g, o, rfl, Nat.lt_of_lt_of_le hg k.size, fun j hj => ⟨k.cell (hc j hj).1 this, k.cell (hc j hj).2 this⟩⟩
theorem Sml.kp {M : Nat → Prop} {w w' : World} {a : Option Addr} {f : Nat → ByteArray} {n : Nat} (h : Sml w a f n) (k : Kp M w w') (hm : ∀ g o, a = some ⟨g, o, none⟩ → ¬ M g) : Sml w' a f n := by
  rcases h with h | ⟨g, o, rfl, hg, hc⟩
  · exact .inl h
  · have := hm g o rfl
    exact .inr ⟨g, o, rfl, Nat.lt_of_lt_of_le hg k.size, fun j hj => k.cell (hc j hj) this⟩
/-- Instructions that were copied so far. -/
structure Cq (W : World) (S Q ng : Nat) (v : Value) (k : Nat) (x y : Nat → In) : Prop where
  row : W.ownsRow S 25 5 v k (n5 y k)
  nv : ∀ g, v.ownBlock = some g → g ≠ Q ∧ g ≠ ng
  each : ∀ j, j < k → (y j).op = (x j).op ∧ (y j).out = (x j).out ∧ (y j).alt = (x j).alt ∧ (y j).arg = (x j).arg ∧ (y j).rn = (x j).rn ∧ (y j).rf = (x j).rf ∧ Rml W (y j).ra (y j).rf (y j).rn ∧ ∃ g, (y j).ra = some ⟨g, 0, none⟩ ∧ S ≤ g ∧ g < W.heap.size ∧ g ≠ Q ∧ v.ownBlock ≠ some g
theorem Cq.kp {M : Nat → Prop} {W W' : World} {S Q ng : Nat} {v : Value} {k : Nat} {x y : Nat → In} (h : Cq W S Q ng v k x y) (kk : Kp M W W') (h1 : ∀ g, v.ownBlock = some g → ¬ M g) (h2 : ∀ j, j < k → ∀ g, (y j).ra = some ⟨g, 0, none⟩ → ¬ M g) : Cq W' S Q ng v k x y := by
  refine ⟨kk.row h.row h1, h.nv, fun j hj => ?_⟩
  obtain ⟨a0, a1, a2, a3, a4, a5, a6, g, a7, a8, a9, a10, a11⟩ := h.each j hj
  exact ⟨a0, a1, a2, a3, a4, a5, a6.kp kk (fun g' o e => by rw [a7] at e; cases e; exact h2 j hj g a7), g, a7, a8, Nat.lt_of_lt_of_le a9 kk.size, a10, a11⟩
/-- One more instruction. -/
theorem Cq.push {W : World} {S Q ng : Nat} {v : Value} {k : Nat} {x y : Nat → In} (h : Cq W S Q ng v k x y) (hS : S ≤ W.heap.size) (hQ : Q < W.heap.size) (hng : ng < W.heap.size) (hk : (k + 1) * 56 ≤ 140737488355328) (rg rcp : Nat) (hr : Rml W (some ⟨rg, 0, none⟩) (x k).rf (x k).rn) (hr1 : S ≤ rg) (hr2 : rg < W.heap.size) (hr3 : rg ≠ Q) (hr4 : v.ownBlock ≠ some rg) :
    ∃ g c w' y', (Builtin.append_ #[26, 26] 26 #[v, .slice (some ⟨W.heap.size, 0, none⟩) 1 1]).run Tryd.prog (W.alloc (.cells #[.int .i64 (x k).op, .int .i64 (x k).out, .int .i64 (x k).alt, .int .i64 (x k).arg, .slice (some ⟨rg, 0, none⟩) (x k).rn rcp] 25)) = .ok (.slice (some ⟨g, 0, none⟩) (k + 1) c) w' ∧ Cq w' S Q ng (.slice (some ⟨g, 0, none⟩) (k + 1) c) (k + 1) x y' ∧ Kp (fun q => v.ownBlock = some q) W w' := by
  obtain ⟨i0, hi, hz0, hz1, hz2⟩ := info_parts infN
  obtain ⟨ne, hne⟩ : ∃ ne : In, ne = ⟨(x k).op, (x k).out, (x k).alt, (x k).arg, some ⟨rg, 0, none⟩, (x k).rn, rcp, (x k).rf⟩ := ⟨_, rfl⟩
  have o0 := World.ownsRow.alloc h.row (.cells #[.int .i64 (x k).op, .int .i64 (x k).out, .int .i64 (x k).alt, .int .i64 (x k).arg, .slice (some ⟨rg, 0, none⟩) (x k).rn rcp] 25)
  obtain ⟨v', w', r, o', gr, _, h5⟩ := run_append_own_at (P := Tryd.prog) (W.alloc (.cells #[.int .i64 (x k).op, .int .i64 (x k).out, .int .i64 (x k).alt, .int .i64 (x k).arg, .slice (some ⟨rg, 0, none⟩) (x k).rn rcp] 25)) S 26 26 25 i0 (.agg #[.int .i64 0, .int .i64 0, .int .i64 0, .int .i64 0, .slice none 0 0]) 5 56 Tryd.underlying26 hi hz0 hz1 hz2 rfl (by decide) _ k (n5 y k) o0 ⟨W.heap.size, 0, none⟩ 1 1 (i5 ne) (by rw [hne]; rfl)
    (fun j u hj => by
      rw [Go.WideShapes.add_plain, Nat.zero_add, cell_of_row _ W.heap.size j #[.int .i64 (x k).op, .int .i64 (x k).out, .int .i64 (x k).alt, .int .i64 (x k).arg, .slice (some ⟨rg, 0, none⟩) (x k).rn rcp] 25 (0, 0) (heap_alloc_new W _)]
      rw [hne] at hj
      simpa [i5] using hj) (by intro u hu; rw [hne] at hu; simp [i5] at hu; rcases hu with rfl | rfl | rfl | rfl | rfl <;> rfl) (by unfold maxLen; omega) hk (by simp; omega)
  have es : n5 y k ++ i5 ne = n5 (up y k ne) (k + 1) := by
    rw [n5_succ, up_same, n5_congr (up y k ne) y k (fun j hj => up_other _ _ _ _ (by omega))]
  rw [es] at o'
  rcases o'.2 with ⟨_, h0⟩ | ⟨G, C, cur, rfl, _⟩
  · omega
  have kp : Kp (fun q => v.ownBlock = some q) W w' := ((Kp.refl _ W).alloc _).grown gr (fun q hq _ => hq)
  have hG : v.ownBlock = some G ∨ W.heap.size < G := by
    rcases h5 with h5 | h5
    · exact .inl (h5.symm.trans rfl)
    · have h6 : G = (W.alloc (.cells #[.int .i64 (x k).op, .int .i64 (x k).out, .int .i64 (x k).alt, .int .i64 (x k).arg, .slice (some ⟨rg, 0, none⟩) (x k).rn rcp] 25)).heap.size := Option.some.inj h5
      rw [World.size_alloc] at h6
      exact .inr (by omega)
  have nG : ∀ q, q < W.heap.size → v.ownBlock ≠ some q → G ≠ q := fun q hq hne e => by
    rcases hG with hG | hG
    · exact hne (by rw [hG, e])
    · omega
  refine ⟨G, C, w', up y k ne, r, ⟨o', fun g hg => ?_, fun j hj => ?_⟩, kp⟩
  · have hgG : G = g := Option.some.inj hg
    rw [← hgG]
    exact ⟨nG Q hQ (fun e => (h.nv Q e).1 rfl), nG ng hng (fun e => (h.nv ng e).2 rfl)⟩
  · by_cases e : j = k
    · subst e
      rw [up_same, hne]
      refine ⟨rfl, rfl, rfl, rfl, rfl, rfl, hr.kp kp (fun g o e => by cases e; exact hr4), rg, rfl, hr1, Nat.lt_of_lt_of_le hr2 kp.size, hr3, fun e => nG rg hr2 hr4 (Option.some.inj e)⟩
    · rw [up_other _ _ _ _ e]
      obtain ⟨a0, a1, a2, a3, a4, a5, a6, g, a7, a8, a9, a10, a11⟩ := h.each j (by omega)
      exact ⟨a0, a1, a2, a3, a4, a5, a6.kp kp (fun g' o e => by rw [a7] at e; cases e; exact a11), g, a7, a8, Nat.lt_of_lt_of_le a9 kp.size, a10, fun e => nG g a9 a11 (Option.some.inj e)⟩
end Go.Proofs.YtnpgkiidpeaapaaDoor
