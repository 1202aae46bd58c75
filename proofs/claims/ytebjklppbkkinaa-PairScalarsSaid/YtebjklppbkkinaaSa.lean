/- Samples: the small functions. -/
import Derived.Test.YtebjklppbkkinaaRw
import Derived.Test.YtebjklppbkkinaaSq
import Derived.Deep.QuietTactic
import Derived.BigQuiet
namespace Go.Proofs.Ytebjklppbkkinaa
open Go.RowKit

/-- A sample. -/
structure Smp where
  t : Int
  v : Nat
  s : Bool
/-- Samples in memory. -/
def SAt (w : World) (g o : Nat) (ss : Nat → Smp) (n : Nat) : Prop := ∀ j, j < n → w.cell? ⟨g, o + j * 3, none⟩ = some (.int .i64 (ss j).t) ∧ w.cell? ⟨g, o + j * 3 + 1, none⟩ = some (.float .f64 (ss j).v) ∧ w.cell? ⟨g, o + j * 3 + 2, none⟩ = some (.bool (ss j).s)
def Sml (w : World) (a : Option Addr) (ss : Nat → Smp) (n : Nat) : Prop := n = 0 ∨ ∃ g o, a = some ⟨g, o, none⟩ ∧ g < w.heap.size ∧ SAt w g o ss n
def SW (ss : Nat → Smp) (n : Nat) : Prop := ∀ j, j < n → -9223372036854775808 ≤ (ss j).t ∧ (ss j).t ≤ 9223372036854775807 ∧ (ss j).v < 18446744073709551616
theorem Sml.below {w w' : World} {a : Option Addr} {ss : Nat → Smp} {n : Nat} (h : Sml w a ss n) (hb : Below w.heap.size w w') : Sml w' a ss n := by
  rcases h with h | ⟨g, o, rfl, hg, h⟩
  · exact .inl h
  · refine .inr ⟨g, o, rfl, Nat.lt_of_lt_of_le hg hb.size, fun j hj => ?_⟩
    obtain ⟨h1, h2, h3⟩ := h j hj
    exact ⟨(hb.cell (p := ⟨g, o + j * 3, none⟩) hg).trans h1, (hb.cell (p := ⟨g, o + j * 3 + 1, none⟩) hg).trans h2, (hb.cell (p := ⟨g, o + j * 3 + 2, none⟩) hg).trans h3⟩

/-- A difference of times. -/
def df (a b : Int) : Int := IntKind.i64.wrap (a - b)
theorem df_bd (a b : Int) : -9223372036854775808 ≤ df a b ∧ df a b ≤ 9223372036854775807 := by
  unfold df
  rw [IntKind.wrap_i64]
  omega

/-- The eighth. -/
def rm (d p : Int) : Int := if d.tmod p < 0 then d.tmod p + p else d.tmod p
def eg (d p : Int) : Int := (8 * rm d p).tdiv p
theorem tm_low (d p : Int) (hp : 1 ≤ p) : -p < d.tmod p := by
  have h2 := Int.tmod_lt_of_pos (-d) (show 0 < p by omega)
  rw [Int.neg_tmod] at h2
  omega
theorem rm_bd (d p : Int) (hp : 1 ≤ p) : 0 ≤ rm d p ∧ rm d p < p := by
  unfold rm
  have h1 := Int.tmod_lt_of_pos d (show 0 < p by omega)
  have h2 := tm_low d p hp
  split <;> omega
theorem eg_bd (d p : Int) (hp : 1 ≤ p) : 0 ≤ eg d p ∧ eg d p ≤ 7 := by
  have h := rm_bd d p hp
  unfold eg
  rw [Int.tdiv_eq_ediv_of_nonneg (by omega)]
  have h1 : 0 ≤ 8 * rm d p / p := Int.ediv_nonneg (by omega) (by omega)
  have h2 : 8 * rm d p / p < 8 := Int.ediv_lt_of_lt_mul (by omega) (by omega)
  omega

/-- A period? -/
def prB (p : Int) : Bool := decide (1 ≤ p) && decide (p ≤ 315360000000000)
set_option maxHeartbeats 400000 in
theorem fromBits_any (n : Int) (w : World) : Calls Try.prog 60 #[.int .u64 n] w fun r w' => r = .returned (.float .f64 n.toNat) ∧ w' = w := by
  have h3 := callFrom
  go_enter Try.func60, Try.ntmps60
  go_wp2
  go_ret
  exact ⟨rfl, rfl⟩

theorem run_store_complex {P : Program} (a : Addr) (m : Mode) (x y : Nat) (w : World) : (store a (.complex .f64 x y) m).run P w = stored P w a (.complex .f64 x y) m := run_store P w a _ m rfl

/-- The eight directions. -/
abbrev dirs : Array Value := #[.complex .f64 4607182418800017408 0, .complex .f64 4604544271217802189 4604544271217802189, .complex .f64 0 4607182418800017408, .complex .f64 13827916308072577997 4604544271217802189,
  .complex .f64 13830554455654793216 0, .complex .f64 13827916308072577997 13827916308072577997, .complex .f64 0 13830554455654793216, .complex .f64 4604544271217802189 13827916308072577997]
/-- A sample that a round of a loop holds. -/
abbrev cp (u : Smp) : Obj := .cells #[.int .i64 u.t, .float .f64 u.v, .bool u.s] 27
theorem cp_cell (w : World) (u : Smp) (j : Nat) (v : Value) (h : (#[Value.int .i64 u.t, Value.float .f64 u.v, Value.bool u.s] : Array Value)[j]? = some v) : (w.alloc (cp u)).cell? ⟨w.heap.size, j, none⟩ = some v := by
  unfold World.cell?
  rw [show (w.alloc (cp u)).heap[w.heap.size]? = some (cp u) from heap_alloc_new w _]
  simpa using h

/-- Do all values equal the first one? -/
def lvB (ss : Nat → Smp) (n : Nat) : Bool := (List.range (n - 1)).all fun j => FloatKind.f64.format.order (ss (j + 1)).v (ss 0).v == some .eq
theorem lv_false (ss : Nat → Smp) (n j : Nat) (hj : j < n - 1) (h : (FloatKind.f64.format.order (ss (j + 1)).v (ss 0).v == some .eq) = false) : lvB ss n = false := by
  unfold lvB
  rw [List.all_eq_false]
  exact ⟨j, List.mem_range.2 hj, by rw [h]; decide⟩
theorem lv_true (ss : Nat → Smp) (n : Nat) (h : ∀ j, j < n - 1 → (FloatKind.f64.format.order (ss (j + 1)).v (ss 0).v == some .eq) = true) : lvB ss n = true := by
  unfold lvB
  rw [List.all_eq_true]
  exact fun j hj => h j (List.mem_range.1 hj)

end Go.Proofs.Ytebjklppbkkinaa
