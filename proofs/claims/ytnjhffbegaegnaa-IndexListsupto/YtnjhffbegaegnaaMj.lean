/- IndexLists: views of rows, and what the law's calls do to them. -/
import Derived.Test.YtnjhffbegaegnaaMi
namespace Go.Proofs.Ytnjhffbegaegnaa
open Go.RowKit Go.Lib Go.Shelf Go.Sort

/-- A slice that shows these numbers. -/
def Vw (w : World) (v : Value) (l : List Int) : Prop := ∃ a c, v = .slice a l.length c ∧ l.length ≤ c ∧ Zm w a l
theorem Vw.below {w w' : World} {v : Value} {l : List Int} (h : Vw w v l) (hb : Below w.heap.size w w') : Vw w' v l := by
  obtain ⟨a, c, e, hc, hm⟩ := h
  exact ⟨a, c, e, hc, hm.below hb⟩
theorem Zr.vw {w : World} {S : Nat} {v : Value} {l : List Int} (h : Zr w S v l) : Vw w v l := h.sl
theorem Vw.lit (w : World) (l : List Int) : Vw (w.alloc (.cells (zc l).toArray 3)) (.slice (some ⟨w.heap.size, 0, none⟩) l.length l.length) l := by
  refine ⟨_, _, rfl, Nat.le_refl _, ?_⟩
  refine .inr ⟨w.heap.size, 0, rfl, by simp, fun j hj => ?_⟩
  have hnew := heap_alloc_new w (.cells (zc l).toArray 3)
  unfold World.cell?
  rw [hnew]
  simp [zc, List.getD, hj]
theorem same_v {u v : Value} {xs ys : List Int} {w : World} (hx : Vw w u xs) (hy : Vw w v ys) (hl : xs.length ≤ 4194304) (he : xs = ys) :
    Calls Try.prog 4 #[u, v] w fun e w' => e = .returned (.bool true) ∧ Below w.heap.size w w' := by
  obtain ⟨a, c, rfl, _, hm⟩ := hx
  obtain ⟨b, d, rfl, _, hm2⟩ := hy
  have := same_any a b c d xs ys w hm hm2 hl
  rw [decide_eq_true he] at this
  exact this
theorem and_v {u v : Value} {xs ys : List Int} {w : World} (hx : Vw w u xs) (hy : Vw w v ys) (hl : xs.length ≤ 2097152) (hl2 : ys.length ≤ 2097152) : Calls Try.prog 5 #[u, v] w (RZ w (anL xs ys)) := by
  obtain ⟨a, c, rfl, _, hm⟩ := hx
  obtain ⟨b, d, rfl, _, hm2⟩ := hy
  exact and_any a b c d xs ys w hm hm2 (by omega) (by omega)
theorem or_v {u v : Value} {xs ys : List Int} {w : World} (hx : Vw w u xs) (hy : Vw w v ys) (hl : xs.length ≤ 2097152) (hl2 : ys.length ≤ 2097152) : Calls Try.prog 9 #[u, v] w (RZ w (orL xs ys)) := by
  obtain ⟨a, c, rfl, _, hm⟩ := hx
  obtain ⟨b, d, rfl, _, hm2⟩ := hy
  exact or_any a b c d xs ys w hm hm2 hl hl2
theorem without_v {u v : Value} {xs ys : List Int} {w : World} (hx : Vw w u xs) (hy : Vw w v ys) (hl : xs.length ≤ 2097152) (hl2 : ys.length ≤ 2097152) : Calls Try.prog 10 #[u, v] w (RZ w (wiL xs ys)) := by
  obtain ⟨a, c, rfl, _, hm⟩ := hx
  obtain ⟨b, d, rfl, _, hm2⟩ := hy
  exact without_any a b c d xs ys w hm hm2 (by omega) (by omega)
theorem rand_v {u v : Value} {xs ys : List Int} {w : World} (hx : Vw w u xs) (hy : Vw w v ys) (hl : xs.length ≤ 2097152) (hl2 : ys.length ≤ 2097152) : Calls Try.prog 6 #[u, v] w (RZ w (anL xs ys)) := by
  obtain ⟨a, c, rfl, h1, hm⟩ := hx
  obtain ⟨b, d, rfl, h2, hm2⟩ := hy
  exact rand_any a b c d xs ys w hm hm2 h1 h2 hl hl2
theorem ror_v {u v : Value} {xs ys : List Int} {w : World} (hx : Vw w u xs) (hy : Vw w v ys) (hl : xs.length ≤ 2097152) (hl2 : ys.length ≤ 2097152) : Calls Try.prog 7 #[u, v] w (RZ w (orL xs ys)) := by
  obtain ⟨a, c, rfl, h1, hm⟩ := hx
  obtain ⟨b, d, rfl, h2, hm2⟩ := hy
  exact ror_any a b c d xs ys w hm hm2 h1 h2 hl hl2
theorem rwithout_v {u v : Value} {xs ys : List Int} {w : World} (hx : Vw w u xs) (hy : Vw w v ys) (hl : xs.length ≤ 2097152) (hl2 : ys.length ≤ 2097152) : Calls Try.prog 8 #[u, v] w (RZ w (wiL xs ys)) := by
  obtain ⟨a, c, rfl, h1, hm⟩ := hx
  obtain ⟨b, d, rfl, h2, hm2⟩ := hy
  exact rwithout_any a b c d xs ys w hm hm2 h1 h2 hl hl2
theorem an_ex : anL [3, 1, 3] [3, 2, 1] = [1, 3] := by
  obtain ⟨h1, h2⟩ := mg_spec false true false _ _ (rsg_rs [3, 1, 3]) (rsg_rs [3, 2, 1])
  refine h1.uniq (by simp [Rs]) (fun x => ?_)
  rw [h2]
  simp only [wnt, rsg_mem]
  simp
  omega
theorem an_len (a b : List Int) : (anL a b).length ≤ a.length + b.length := Nat.le_trans (mg_len ..) (Nat.add_le_add (rsg_len a) (rsg_len b))
theorem or_len (a b : List Int) : (orL a b).length ≤ a.length + b.length := Nat.le_trans (mg_len ..) (Nat.add_le_add (rsg_len a) (rsg_len b))
theorem wi_len (a b : List Int) : (wiL a b).length ≤ a.length + b.length := Nat.le_trans (mg_len ..) (Nat.add_le_add (rsg_len a) (rsg_len b))
/-- A row whose block lies between. -/
structure Rw (w : World) (lo hi : Nat) (v : Value) (l : List Int) : Prop where
  row : Zr w lo v l
  top : ∀ g, v.ownBlock = some g → lo ≤ g ∧ g < hi
theorem Rw.mk' {w : World} {lo : Nat} {v : Value} {l : List Int} (h : Zr w lo v l) : Rw w lo w.heap.size v l := ⟨h, fun g hg => World.ownsRow.lt h g hg⟩
theorem Rw.below {w w' : World} {lo hi : Nat} {v : Value} {l : List Int} (h : Rw w lo hi v l) (hb : Below w.heap.size w w') : Rw w' lo hi v l := ⟨h.row.below hb, h.top⟩
theorem Rw.oth {w w' : World} {lo hi : Nat} {v : Value} {l : List Int} {o : Option Nat} (h : Rw w lo hi v l) (hg : w.grownBy w' o) (hne : ∀ g, o = some g → g < lo ∨ hi ≤ g) : Rw w' lo hi v l := by
  refine ⟨World.ownsRow.kept h.row hg ?_, h.top⟩
  cases ho : v.ownBlock with
  | none => exact .inl rfl
  | some g =>
    right
    intro e
    have h1 := h.top g ho
    rcases hne g e.symm with h2 | h2 <;> omega
theorem Rw.vw {w : World} {lo hi : Nat} {v : Value} {l : List Int} (h : Rw w lo hi v l) : Vw w v l := h.row.vw
/-- A list behind which two numbers lie, in a new row. -/
theorem room_run (w : World) (a : Option Addr) (c : Nat) (xs : List Int) (s t : Int) (hx : Zm w a xs) (hl : xs.length ≤ 2097152) :
    ∃ v1 w1 g cx w2, (Builtin.append_ #[22, 22] 22 #[.slice (some ⟨w.heap.size, 0, none⟩) 0 0, .slice a xs.length c]).run Try.prog (w.alloc (.cells #[] 3)) = .ok v1 w1 ∧
      (Builtin.append_ #[22, 22] 22 #[v1, .slice (some ⟨w1.heap.size, 0, none⟩) 2 2]).run Try.prog (w1.alloc (.cells #[.int .i64 s, .int .i64 t] 3)) = .ok (.slice (some ⟨g, 0, none⟩) (xs.length + 2) cx) w2 ∧
      Zr w2 w.heap.size (.slice (some ⟨g, 0, none⟩) (xs.length + 2) cx) (xs ++ [s, t]) ∧ xs.length + 2 ≤ cx ∧ w.heap.size ≤ g ∧ g < w2.heap.size ∧ Below w.heap.size w w2 := by
  have bA : Below w.heap.size w (w.alloc (.cells #[] 3)) := (Below.refl _ _).alloc (Nat.le_refl _) _
  obtain ⟨v1, w1, r1, z1, b1⟩ := append_zs (w.alloc (.cells #[] 3)) w.heap.size _ [] xs a c (by simp) (by simp; omega) (Zr.built w) (hx.below bA)
  rw [List.nil_append] at z1
  have bB : Below w1.heap.size w1 (w1.alloc (.cells #[.int .i64 s, .int .i64 t] 3)) := (Below.refl _ _).alloc (Nat.le_refl _) _
  have hs : w.heap.size ≤ w1.heap.size := Nat.le_trans bA.size b1.size
  obtain ⟨a2, c2, e2, _, m2⟩ := Vw.lit w1 [s, t]
  cases e2
  obtain ⟨v2, w2, r2, z2, b2⟩ := append_zs (w1.alloc (.cells #[.int .i64 s, .int .i64 t] 3)) w.heap.size v1 xs [s, t] (some ⟨w1.heap.size, 0, none⟩) 2 (Nat.le_trans hs bB.size) (by simp; omega) (z1.below bB) m2
  have hlt := World.ownsRow.lt z2
  have hlen : (xs ++ [s, t]).length = xs.length + 2 := by simp
  rcases z2.2 with ⟨_, h0⟩ | ⟨g, cap, cur, rfl, h1, h2, h3, _⟩
  · rw [hlen] at h0; omega
  · rw [hlen] at r2 h3
    refine ⟨v1, w1, g, cap, w2, r1, r2, ?_, h3, (hlt g rfl).1, (hlt g rfl).2, (bA.trans b1).trans ((bB.mono hs).trans b2)⟩
    rw [hlen] at z2
    exact z2
theorem Zr.head {w : World} {S g c : Nat} {xs : List Int} {s t : Int} (h : Zr w S (.slice (some ⟨g, 0, none⟩) (xs.length + 2) c) (xs ++ [s, t])) (hc : xs.length + 2 ≤ c) : Vw w (.slice (some ⟨g, 0, none⟩) xs.length c) xs := by
  obtain ⟨a, c', e, hm⟩ := h.zm
  have hlen : (xs ++ [s, t]).length = xs.length + 2 := by simp
  rw [hlen] at e
  cases e
  refine ⟨_, c, rfl, by omega, ?_⟩
  have := hm.take xs.length
  rw [List.take_left] at this
  exact this
theorem Zr.tail {w : World} {S g c : Nat} {xs : List Int} {s t : Int} (h : Zr w S (.slice (some ⟨g, 0, none⟩) (xs.length + 2) c) (xs ++ [s, t])) :
    w.cell? ⟨g, xs.length, none⟩ = some (.int .i64 s) ∧ w.cell? ⟨g, xs.length + 1, none⟩ = some (.int .i64 t) := by
  have hlen : (xs ++ [s, t]).length = xs.length + 2 := by simp
  rw [← hlen] at h
  have h1 := h.cell xs.length (by omega)
  have h2 := h.cell (xs.length + 1) (by omega)
  constructor
  · rw [h1]; simp [List.getD]
  · rw [h2]; simp [List.getD]
theorem gtrans {w w1 w2 : World} {o : Option Nat} (h : w.grownBy w1 o) (k : w1.grownBy w2 o) : w.grownBy w2 o :=
  ⟨k.os.trans h.os, k.tape.trans h.tape, k.output.trans h.output, Nat.le_trans h.size k.size, fun i hi hne => (k.block i (Nat.lt_of_lt_of_le hi h.size) hne).trans (h.block i hi hne)⟩
end Go.Proofs.Ytnjhffbegaegnaa
