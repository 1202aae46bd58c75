/- RxprogSounds: an instruction as data; where it is sound; rows of ranges and of instructions in memory. -/
import Derived.Test.YtnpgkiidpeaapaaDoorRows
import Derived.WalkKit
import Derived.Below
import Derived.Laws.OwnMore
import Derived.Laws.MakeOwn
import Derived.Laws.AppendOwn
import Derived.Laws.StructEq
import Derived.Maps.AppendAt
import Derived.Deep.RegionLaw
import Derived.Deep.RegionHeld3
import Derived.BigRegion
import Derived.Lib.QuietBelow
import Derived.BigQuiet
import Derived.Deep.DeepFit
namespace Go.Proofs.YtnpgkiidpeaapaaDoor
open Go.RowKit

abbrev Rg := Int × Int
structure In where
  op : Int
  out : Int
  alt : Int
  arg : Int
  ra : Option Addr
  rn : Nat
  rc : Nat
  rf : Nat → Rg
abbrev inV (op out alt arg : Int) (a : Option Addr) (n c : Nat) : Value := .agg #[.int .i64 op, .int .i64 out, .int .i64 alt, .int .i64 arg, .slice a n c]
abbrev inX (op out alt arg : Int) (a : Option Addr) (n c : Nat) : Obj := .cells #[.int .i64 op, .int .i64 out, .int .i64 alt, .int .i64 arg, .slice a n c] 25

theorem ret_bool {a b : Bool} (h : a = b) : Ending.returned (.bool a) = .returned (.bool b) := by rw [h]

/-- Is a place within? -/
def plB (i n : Int) : Bool := decide (0 ≤ i ∧ i < n)
def spB (op out alt n : Int) : Bool := if op = 1 ∨ op = 11 then decide (out = 0 ∧ alt = 0) else if op = 3 then plB out n && plB alt n else plB out n && decide (alt = 0)
def saB (op arg g : Int) : Bool := if op = 4 then decide (2 ≤ arg ∧ arg ≤ 2 * g + 1) else if op = 9 then decide (arg = 0 ∨ arg = 1) else decide (arg = 0)
/-- A range fits behind those ahead of it. -/
def okB (f : Nat → Rg) (i : Nat) : Bool := decide (0 ≤ (f i).1 ∧ (f i).1 ≤ (f i).2 ∧ (f i).2 ≤ 1114111 ∧ (0 < i → (f (i - 1)).2 < (f i).1))
def rgB (f : Nat → Rg) : Nat → Bool
  | 0 => true
  | n + 1 => rgB f n && okB f n
def srB (op : Int) (n : Nat) (f : Nat → Rg) : Bool := if op = 2 then rgB f n && decide (0 < n) else decide (n = 0)
def sdB (op out alt arg : Int) (n : Nat) (f : Nat → Rg) (m g : Int) : Bool := decide (1 ≤ op ∧ op ≤ 11) && spB op out alt m && saB op arg g && srB op n f
def leF (f : Nat → Rg) (i : Nat) : Int := if i = 0 then 0 else (f (i - 1)).2 + 1

theorem rgB_le {f : Nat → Rg} {m n : Nat} (h : m ≤ n) (hr : rgB f n = true) : rgB f m = true := by
  induction n with
  | zero => obtain rfl : m = 0 := by omega
            exact hr
  | succ n ih =>
    by_cases e : m = n + 1
    · rw [e]; exact hr
    · exact ih (by omega) (by unfold rgB at hr; simp at hr; exact hr.1)
theorem rgB_bad {f : Nat → Rg} {i n : Nat} (h : i < n) (hb : okB f i = false) : rgB f n = false := by
  cases hr : rgB f n with
  | false => rfl
  | true =>
    have := rgB_le (m := i + 1) h hr
    unfold rgB at this
    rw [hb] at this
    simp at this
theorem rgB_succ {f : Nat → Rg} {i : Nat} (h : rgB f i = true) (hb : okB f i = true) : rgB f (i + 1) = true := by
  unfold rgB
  rw [h, hb]
  rfl
theorem rgB_lo {f : Nat → Rg} {i : Nat} (h : rgB f i = true) (h0 : 0 < i) : 0 ≤ (f (i - 1)).2 ∧ (f (i - 1)).2 ≤ 1114111 := by
  obtain ⟨j, rfl⟩ : ∃ j, i = j + 1 := ⟨i - 1, by omega⟩
  unfold rgB okB at h
  simp at h
  simp
  omega
theorem okB_iff {f : Nat → Rg} {i : Nat} (h : rgB f i = true) : okB f i = true ↔ (leF f i ≤ (f i).1 ∧ (f i).1 ≤ (f i).2 ∧ (f i).2 ≤ 1114111) := by
  unfold okB leF
  by_cases h0 : i = 0
  · subst h0; simp
  · have := rgB_lo h (by omega)
    rw [if_neg h0, decide_eq_true_iff]
    omega
theorem leF_bd {f : Nat → Rg} {i : Nat} (h : rgB f i = true) : 0 ≤ leF f i ∧ leF f i ≤ 1114112 := by
  unfold leF
  by_cases h0 : i = 0
  · rw [if_pos h0]; omega
  · have := rgB_lo h (by omega)
    rw [if_neg h0]; omega
theorem leF_succ (f : Nat → Rg) (i : Nat) : leF f (i + 1) = (f i).2 + 1 := by
  unfold leF
  rw [if_neg (by omega)]
  rfl
theorem rgB_congr {f g : Nat → Rg} {n : Nat} (h : ∀ j, j < n → f j = g j) : rgB f n = rgB g n := by
  induction n with
  | zero => rfl
  | succ n ih =>
    unfold rgB
    rw [ih fun j hj => h j (by omega)]
    unfold okB
    rw [h n (by omega), h (n - 1) (by omega)]
theorem sdB_congr (op out alt arg : Int) (n : Nat) {f g : Nat → Rg} (m gr : Int) (h : ∀ j, j < n → f j = g j) : sdB op out alt arg n f m gr = sdB op out alt arg n g m gr := by
  unfold sdB srB
  rw [rgB_congr h]

/-- Ranges that a slice shows. -/
def Rml (w : World) (a : Option Addr) (f : Nat → Rg) (n : Nat) : Prop := n = 0 ∨ ∃ g o, a = some ⟨g, o, none⟩ ∧ g < w.heap.size ∧ ∀ j, j < n → w.cell? ⟨g, o + j * 2, none⟩ = some (.int .i32 (f j).1) ∧ w.cell? ⟨g, o + j * 2 + 1, none⟩ = some (.int .i32 (f j).2)
theorem Rml.below {w w' : World} {a : Option Addr} {f : Nat → Rg} {n : Nat} (h : Rml w a f n) (hb : Below w.heap.size w w') : Rml w' a f n := by
  rcases h with h | ⟨g, o, rfl, hg, hc⟩
  · exact .inl h
  · exact .inr ⟨g, o, rfl, Nat.lt_of_lt_of_le hg hb.size, fun j hj => ⟨(hb.cell (p := ⟨g, o + j * 2, none⟩) hg).trans (hc j hj).1, (hb.cell (p := ⟨g, o + j * 2 + 1, none⟩) hg).trans (hc j hj).2⟩⟩
theorem Rml.at {w : World} {a : Option Addr} {f : Nat → Rg} {n : Nat} (h : Rml w a f n) (j : Nat) (hj : j < n) : ∃ g o, a = some ⟨g, o, none⟩ ∧ g < w.heap.size ∧ w.cell? ⟨g, o + j * 2, none⟩ = some (.int .i32 (f j).1) ∧ w.cell? ⟨g, o + j * 2 + 1, none⟩ = some (.int .i32 (f j).2) := by
  rcases h with h | ⟨g, o, rfl, hg, hat⟩
  · omega
  · exact ⟨g, o, rfl, hg, (hat j hj).1, (hat j hj).2⟩
/-- Instructions that a slice shows, their ranges with them. -/
def Nml (w : World) (a : Option Addr) (x : Nat → In) (n : Nat) : Prop := n = 0 ∨ ∃ g o, a = some ⟨g, o, none⟩ ∧ g < w.heap.size ∧ ∀ j, j < n → w.cell? ⟨g, o + j * 5, none⟩ = some (.int .i64 (x j).op) ∧ w.cell? ⟨g, o + j * 5 + 1, none⟩ = some (.int .i64 (x j).out) ∧ w.cell? ⟨g, o + j * 5 + 2, none⟩ = some (.int .i64 (x j).alt) ∧ w.cell? ⟨g, o + j * 5 + 3, none⟩ = some (.int .i64 (x j).arg) ∧ w.cell? ⟨g, o + j * 5 + 4, none⟩ = some (.slice (x j).ra (x j).rn (x j).rc) ∧ Rml w (x j).ra (x j).rf (x j).rn ∧ (x j).rn * 8 ≤ 140737488351232
theorem Nml.below {w w' : World} {a : Option Addr} {x : Nat → In} {n : Nat} (h : Nml w a x n) (hb : Below w.heap.size w w') : Nml w' a x n := by
  rcases h with h | ⟨g, o, rfl, hg, hc⟩
  · exact .inl h
  · refine .inr ⟨g, o, rfl, Nat.lt_of_lt_of_le hg hb.size, fun j hj => ?_⟩
    obtain ⟨h0, h1, h2, h3, h4, h5, h6⟩ := hc j hj
    exact ⟨(hb.cell (p := ⟨g, o + j * 5, none⟩) hg).trans h0, (hb.cell (p := ⟨g, o + j * 5 + 1, none⟩) hg).trans h1, (hb.cell (p := ⟨g, o + j * 5 + 2, none⟩) hg).trans h2, (hb.cell (p := ⟨g, o + j * 5 + 3, none⟩) hg).trans h3, (hb.cell (p := ⟨g, o + j * 5 + 4, none⟩) hg).trans h4, h5.below hb, h6⟩
theorem Nml.at {w : World} {a : Option Addr} {x : Nat → In} {n : Nat} (h : Nml w a x n) (j : Nat) (hj : j < n) : ∃ g o, a = some ⟨g, o, none⟩ ∧ g < w.heap.size ∧ w.cell? ⟨g, o + j * 5, none⟩ = some (.int .i64 (x j).op) ∧ w.cell? ⟨g, o + j * 5 + 1, none⟩ = some (.int .i64 (x j).out) ∧ w.cell? ⟨g, o + j * 5 + 2, none⟩ = some (.int .i64 (x j).alt) ∧ w.cell? ⟨g, o + j * 5 + 3, none⟩ = some (.int .i64 (x j).arg) ∧ w.cell? ⟨g, o + j * 5 + 4, none⟩ = some (.slice (x j).ra (x j).rn (x j).rc) ∧ Rml w (x j).ra (x j).rf (x j).rn ∧ (x j).rn * 8 ≤ 140737488351232 := by
  rcases h with h | ⟨g, o, rfl, hg, hat⟩
  · omega
  · exact ⟨g, o, rfl, hg, hat j hj⟩
/-- Are all instructions sound? -/
def allB (x : Nat → In) (m g : Int) : Nat → Bool
  | 0 => true
  | n + 1 => allB x m g n && sdB (x n).op (x n).out (x n).alt (x n).arg (x n).rn (x n).rf m g
theorem allB_bad {x : Nat → In} {m g : Int} {i : Nat} : ∀ {n : Nat}, i < n → sdB (x i).op (x i).out (x i).alt (x i).arg (x i).rn (x i).rf m g = false → allB x m g n = false
  | 0, h, _ => by omega
  | n + 1, h, hb => by
    unfold allB
    by_cases e : i = n
    · subst e; rw [hb]; simp
    · rw [allB_bad (n := n) (by omega) hb]; rfl
theorem allB_succ {x : Nat → In} {m g : Int} {i : Nat} (h : allB x m g i = true) (hb : sdB (x i).op (x i).out (x i).alt (x i).arg (x i).rn (x i).rf m g = true) : allB x m g (i + 1) = true := by
  unfold allB
  rw [h, hb]
  rfl
/-- May a program be run? -/
def SdB (x : Nat → In) (n : Nat) (st gr : Int) (nn : Nat) : Bool := decide (n ≤ 10000) && plB st n && decide (gr ≤ 100) && decide ((nn : Int) = gr) && allB x n gr n

theorem bcell2 {w w' : World} {p : Addr} {v : Value} (hb : Below w.heap.size w w') (h : w.cell? p = some v) : w'.cell? p = some v := (hb.cell (World.block_lt_of_cell? w _ h)).trans h
end Go.Proofs.YtnpgkiidpeaapaaDoor
