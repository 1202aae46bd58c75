
/- Rows of strings. -/
import Derived.Test.YtcgpjmpppajfdaaWi
import Derived.Test.YtcgpjmpppajfdaaWj
import Derived.Test.YtcgpjmpppajfdaaWm
import Derived.Test.YtcgpjmpppajfdaaIa
namespace Go.Proofs.Ytcgpjmpppajfdaa.Ws
open Go.RowKit

abbrev iX (x : ByteArray) : Obj := .cells #[.string x] 9
def i2 (x : ByteArray) : List Value := [.string x]
def ic (f : Nat → ByteArray) (n : Nat) : List Value := (List.range n).flatMap fun j => i2 (f j)
theorem ic_succ (f : Nat → ByteArray) (n : Nat) : ic f (n + 1) = ic f n ++ i2 (f n) := by
  unfold ic
  rw [List.range_succ, List.flatMap_append]
  simp
theorem ic_len (f : Nat → ByteArray) (n : Nat) : (ic f n).length = n := by
  induction n with
  | zero => rfl
  | succ n ih => rw [ic_succ, List.length_append, ih]; simp [i2]
theorem ic_get (f : Nat → ByteArray) : ∀ (n j : Nat), j < n → (ic f n)[j]? = some (.string (f j))
  | 0, j, h => by omega
  | n + 1, j, h => by
    rw [ic_succ]
    by_cases hj : j < n
    · rw [List.getElem?_append_left (by rw [ic_len]; omega)]
      exact ic_get f n j hj
    · obtain rfl : j = n := by omega
      rw [List.getElem?_append_right (by rw [ic_len]; omega), ic_len, Nat.sub_self]
      rfl
theorem ic_congr (f g : Nat → ByteArray) (n : Nat) (h : ∀ j, j < n → f j = g j) : ic f n = ic g n := by
  induction n with
  | zero => rfl
  | succ n ih => rw [ic_succ, ic_succ, ih fun j hj => h j (by omega), h n (by omega)]
theorem ic_push (f : Nat → ByteArray) (n : Nat) (x : ByteArray) : ic (up f n x) (n + 1) = ic f n ++ i2 x := by
  rw [ic_succ, up_same]
  congr 1
  exact ic_congr _ _ _ fun j hj => up_other f n x j (by omega)
theorem infI : (Try.prog.info? 9).map (fun i => (i.zero, i.size, i.bytes)) = some (some (.string ⟨#[]⟩), 1, 16) := by kernel_rfl
/-- Things that a slice shows. -/
def Iml (w : World) (a : Option Addr) (f : Nat → ByteArray) (n : Nat) : Prop := n = 0 ∨ ∃ g o, a = some ⟨g, o, none⟩ ∧ g < w.heap.size ∧ ∀ j, j < n → w.cell? ⟨g, o + j, none⟩ = some (.string (f j))
theorem Iml.below {w w' : World} {a : Option Addr} {f : Nat → ByteArray} {n : Nat} (h : Iml w a f n) (hb : Below w.heap.size w w') : Iml w' a f n := by
  rcases h with h | ⟨g, o, rfl, hg, hc⟩
  · exact .inl h
  · exact .inr ⟨g, o, rfl, Nat.lt_of_lt_of_le hg hb.size, fun j hj => (hb.cell (p := ⟨g, o + j, none⟩) hg).trans (hc j hj)⟩
theorem Iml.kp {w w' : World} {a : Option Addr} {f : Nat → ByteArray} {n : Nat} {M : Nat → Prop} (h : Iml w a f n) (k : Kp M w w') (hm : ∀ g o, a = some ⟨g, o, none⟩ → ¬ M g) : Iml w' a f n := by
  rcases h with h | ⟨g, o, rfl, hg, hc⟩
  · exact .inl h
  · exact .inr ⟨g, o, rfl, Nat.lt_of_lt_of_le hg k.size, fun j hj => k.cell (hc j hj) (hm g o rfl)⟩
/-- A row of things of one's own. -/
def Ir (w : World) (S : Nat) (v : Value) (n : Nat) (f : Nat → ByteArray) : Prop := w.ownsRow S 9 1 v n (ic f n)
theorem Ir.below {w w' : World} {S n : Nat} {v : Value} {f : Nat → ByteArray} (h : Ir w S v n f) (hb : Below w.heap.size w w') : Ir w' S v n f := (Kp.of (M := fun _ => False) hb).row h (fun _ _ => id)
theorem Ir.congr {w : World} {S n : Nat} {v : Value} {f g : Nat → ByteArray} (h : Ir w S v n f) (e : ∀ j, j < n → f j = g j) : Ir w S v n g := by
  unfold Ir
  rw [← ic_congr f g n e]
  exact h
theorem Ir.iml {w : World} {S n : Nat} {v : Value} {f : Nat → ByteArray} (h : Ir w S v n f) : ∃ a c, v = .slice a n c ∧ Iml w a f n ∧ n ≤ c := by
  have hc := fun g => h.cells (g := g)
  rcases h.2 with ⟨rfl, h0⟩ | ⟨g, c, cur, rfl, _, hg, hnc, _⟩
  · subst h0
    exact ⟨none, 0, rfl, .inl rfl, Nat.le_refl _⟩
  · refine ⟨_, c, rfl, .inr ⟨g, 0, rfl, (Array.getElem?_eq_some_iff.1 hg).1, fun j hj => ?_⟩, hnc⟩
    have h1 := hc g rfl j _ (ic_get f n j hj)
    rw [Go.WideShapes.add_plain] at h1
    exact h1
theorem iX_cell (w : World) (x : ByteArray) (j : Nat) (u : Value) (h : (i2 x)[j]? = some u) : (w.alloc (iX x)).cell? ⟨w.heap.size, j, none⟩ = some u := by
  unfold World.cell?
  rw [show (w.alloc (iX x)).heap[w.heap.size]? = some (iX x) from heap_alloc_new w _]
  simpa [i2] using h
theorem append_i (w : World) (S : Nat) (v : Value) (n : Nat) (f : Nat → ByteArray) (x : ByteArray) (hS : S ≤ w.heap.size) (hn : (n + 1) * 16 ≤ 140737488355328) (o : Ir w S v n f) :
    ∃ g c w', (Builtin.append_ #[41, 41] 41 #[v, .slice (some ⟨w.heap.size, 0, none⟩) 1 1]).run Try.prog (w.alloc (iX x)) = .ok (.slice (some ⟨g, 0, none⟩) (n + 1) c) w' ∧ Ir w' S (.slice (some ⟨g, 0, none⟩) (n + 1) c) (n + 1) (up f n x) ∧ Kp (fun k => v.ownBlock = some k) w w' ∧ (v.ownBlock = some g ∨ w.heap.size ≤ g) := by
  obtain ⟨i0, hi, hz0, hz1, hz2⟩ := info_parts infI
  have o0 := World.ownsRow.alloc o (iX x)
  obtain ⟨v', w', r, o', g, _, h5⟩ := run_append_own_at (P := Try.prog) (w.alloc (iX x)) S 41 41 9 i0 (.string ⟨#[]⟩) 1 16 Try.underlying41 hi hz0 hz1 hz2 rfl (by decide) _ n (ic f n) o0 ⟨w.heap.size, 0, none⟩ 1 1 (i2 x) (by rfl)
    (fun j u hj => by
      rw [Go.WideShapes.add_plain, Nat.zero_add]
      exact iX_cell w x j u hj) (by intro u hu; simp [i2] at hu; subst hu; rfl) (by unfold maxLen; omega) hn (by simp; omega)
  rw [← ic_push] at o'
  rcases o'.2 with ⟨_, h0⟩ | ⟨G, C, cur, rfl, _⟩
  · omega
  · refine ⟨G, C, w', r, o', ((Kp.refl _ w).alloc _).grown g (fun k hk _ => hk), ?_⟩
    rcases h5 with h5 | h5
    · exact .inl (h5.symm.trans rfl)
    · have h6 : G = (w.alloc (iX x)).heap.size := Option.some.inj h5
      rw [World.size_alloc] at h6
      exact .inr (by omega)
theorem isK : Is (fun x => (x.size : Int)) (inO lsK) := fun x y => by
  unfold inO lsK Lx
  split <;> simp <;> omega
end Go.Proofs.Ytcgpjmpppajfdaa.Ws
