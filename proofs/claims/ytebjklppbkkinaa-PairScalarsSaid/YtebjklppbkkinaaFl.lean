/- Floats by their classes: a word, or NaN (none). -/
import Derived.Laws.FloatArith
import Derived.Deep.Draws
import Derived.Laws.Externs
namespace Go.Proofs.Ytebjklppbkkinaa
open Ieee

/-- Is the word a NaN? -/
def nanB (n : Nat) : Bool := (Ieee.double.read n).isNaN
/-- A word's class: none for every NaN. -/
def cl (n : Nat) : Option Nat := if nanB n = true then none else some n

theorem cl_nan {n : Nat} (h : nanB n = true) : cl n = none := if_pos h
theorem cl_num {n : Nat} (h : nanB n = false) : cl n = some n := if_neg (by rw [h]; decide)
theorem cl_some {n m : Nat} (h : cl n = some m) : n = m ∧ nanB n = false := by
  unfold cl at h
  split at h
  · cases h
  · rename_i h'
    exact ⟨Option.some.inj h, by simpa using h'⟩
theorem cl_none {n : Nat} (h : cl n = none) : nanB n = true := by
  unfold cl at h
  split at h
  · assumption
  · cases h

theorem nanB_eq (n : Nat) : nanB n = decide (0x7ff0000000000000 < n % 2 ^ 63) := by
  have h1 : Ieee.double.binade = 2 ^ 52 := rfl
  have h2 : Ieee.double.infRung = 0x7ff0000000000000 := by decide
  have h3 : Ieee.double.signWeight = 2 ^ 63 := rfl
  unfold nanB Ieee.Format.read
  simp only [h1, h2, h3]
  generalize n % 2 ^ 63 = r
  split
  · simp [Datum.isNaN]; omega
  · split
    · simp [Datum.isNaN]; omega
    · split
      · simp [Datum.isNaN]; omega
      · simp [Datum.isNaN]; omega

theorem nanB_word (s : Bool) (r : Nat) (h : r ≤ Ieee.double.infRung) : nanB (Ieee.double.word s r) = false := by
  have h2 : Ieee.double.infRung = 0x7ff0000000000000 := by decide
  have h3 : Ieee.double.signWeight = 2 ^ 63 := rfl
  rw [h2] at h
  rw [nanB_eq]
  unfold Ieee.Format.word
  rw [h3]
  cases s <;> simp <;> omega
theorem nanB_write_number (s : Bool) (m : Nat) (i : Int) : nanB (Ieee.double.write (.number s m i)) = false := by
  show nanB (Ieee.double.nearest s m i) = false
  unfold Ieee.Format.nearest
  split
  · exact nanB_word s 0 (Nat.zero_le _)
  · exact nanB_word s _ (Nat.min_le_right _ _)
theorem nanB_write_inf (s : Bool) : nanB (Ieee.double.write (.infinity s)) = false := nanB_word s _ (Nat.le_refl _)
theorem nanB_write (d : Datum) (h : d.isNaN = false) : nanB (Ieee.double.write d) = false := by
  cases d with
  | number s m i => exact nanB_write_number s m i
  | infinity s => exact nanB_write_inf s
  | nan s f => simp [Datum.isNaN] at h

theorem sum_num (a b d : Datum) (h : a.sum b = some d) : d.isNaN = false := by
  unfold Datum.sum at h
  split at h <;> first | (cases h; done) | skip
  · split at h
    · cases h; rfl
    · cases h
  · cases h; rfl
  · cases h; rfl
  · cases h; rfl
theorem product_num (a b d : Datum) (h : a.product b = some d) : d.isNaN = false := by
  unfold Datum.product at h
  split at h <;> first | (cases h; done) | skip
  · cases h; rfl
  · split at h
    · cases h
    · cases h; rfl
  · split at h
    · cases h
    · cases h; rfl
  · cases h; rfl
theorem quotient_num (n : Nat) (a b d : Datum) (h : a.quotient n b = some d) : d.isNaN = false := by
  unfold Datum.quotient at h
  split at h <;> first | (cases h; done) | skip
  · cases h; rfl
  · cases h; rfl
  · split at h
    · split at h
      · cases h
      · cases h; rfl
    · cases h; rfl

/-- What an operation answers is no NaN. -/
theorem fb_num {op : BinOp} {x y r : Nat} (h : floatBits op .f64 x y = some r) : nanB r = false := by
  unfold floatBits at h
  split at h
  · change (((Ieee.double.read x).sum (Ieee.double.read y)).map Ieee.double.write) = some r at h
    obtain ⟨d, hd, rfl⟩ := Option.map_eq_some_iff.1 h
    exact nanB_write d (sum_num _ _ _ hd)
  · change (((Ieee.double.read x).sum (Ieee.double.read y).opposite).map Ieee.double.write) = some r at h
    obtain ⟨d, hd, rfl⟩ := Option.map_eq_some_iff.1 h
    exact nanB_write d (sum_num _ _ _ hd)
  · change (((Ieee.double.read x).product (Ieee.double.read y)).map Ieee.double.write) = some r at h
    obtain ⟨d, hd, rfl⟩ := Option.map_eq_some_iff.1 h
    exact nanB_write d (product_num _ _ _ hd)
  · change (((Ieee.double.read x).quotient 54 (Ieee.double.read y)).map Ieee.double.write) = some r at h
    obtain ⟨d, hd, rfl⟩ := Option.map_eq_some_iff.1 h
    exact nanB_write d (quotient_num _ _ _ _ hd)
  · cases h

theorem sum_nanL (a b : Datum) (h : a.isNaN = true) : a.sum b = none := by
  cases a <;> simp [Datum.isNaN] at h; rfl
theorem sum_nanR (a b : Datum) (h : b.isNaN = true) : a.sum b = none := by
  cases b <;> simp [Datum.isNaN] at h; cases a <;> rfl
theorem product_nanL (a b : Datum) (h : a.isNaN = true) : a.product b = none := by
  cases a <;> simp [Datum.isNaN] at h; rfl
theorem product_nanR (a b : Datum) (h : b.isNaN = true) : a.product b = none := by
  cases b <;> simp [Datum.isNaN] at h; cases a <;> rfl
theorem quotient_nanL (n : Nat) (a b : Datum) (h : a.isNaN = true) : a.quotient n b = none := by
  cases a <;> simp [Datum.isNaN] at h; rfl
theorem quotient_nanR (n : Nat) (a b : Datum) (h : b.isNaN = true) : a.quotient n b = none := by
  cases b <;> simp [Datum.isNaN] at h; cases a <;> rfl
theorem opposite_nan (a : Datum) : a.opposite.isNaN = a.isNaN := by cases a <;> rfl

theorem fb_nanL (op : BinOp) (x y : Nat) (h : nanB x = true) : floatBits op .f64 x y = none := by
  unfold nanB at h
  unfold floatBits
  split
  · show ((Ieee.double.read x).sum (Ieee.double.read y)).map Ieee.double.write = none
    rw [sum_nanL _ _ h]; rfl
  · show ((Ieee.double.read x).sum (Ieee.double.read y).opposite).map Ieee.double.write = none
    rw [sum_nanL _ _ h]; rfl
  · show ((Ieee.double.read x).product (Ieee.double.read y)).map Ieee.double.write = none
    rw [product_nanL _ _ h]; rfl
  · show ((Ieee.double.read x).quotient 54 (Ieee.double.read y)).map Ieee.double.write = none
    rw [quotient_nanL _ _ _ h]; rfl
  · rfl
theorem fb_nanR (op : BinOp) (x y : Nat) (h : nanB y = true) : floatBits op .f64 x y = none := by
  unfold nanB at h
  unfold floatBits
  split
  · show ((Ieee.double.read x).sum (Ieee.double.read y)).map Ieee.double.write = none
    rw [sum_nanR _ _ h]; rfl
  · show ((Ieee.double.read x).sum (Ieee.double.read y).opposite).map Ieee.double.write = none
    rw [sum_nanR _ _ (by rw [opposite_nan]; exact h)]; rfl
  · show ((Ieee.double.read x).product (Ieee.double.read y)).map Ieee.double.write = none
    rw [product_nanR _ _ h]; rfl
  · show ((Ieee.double.read x).quotient 54 (Ieee.double.read y)).map Ieee.double.write = none
    rw [quotient_nanR _ _ _ h]; rfl
  · rfl

/-- An operation on classes. -/
def fb (op : BinOp) (x y : Option Nat) : Option Nat := x.bind fun a => y.bind fun b => floatBits op .f64 a b
theorem fb_cl (op : BinOp) (x y : Nat) : floatBits op .f64 x y = fb op (cl x) (cl y) := by
  unfold fb cl
  by_cases hx : nanB x = true
  · rw [if_pos hx, fb_nanL _ _ _ hx]; rfl
  · rw [if_neg hx]
    by_cases hy : nanB y = true
    · rw [if_pos hy, fb_nanR _ _ _ hy]; rfl
    · rw [if_neg hy]; rfl

/-- The word that an operation answers in a world, and how often it asks the tape. -/
def fz (op : BinOp) (x y : Nat) (w : World) : Nat :=
  match floatBits op .f64 x y with
  | some r => r
  | none => (Question.nanBits .f64 x y).cut (w.tape w.drawn (.nanBits .f64 x y))
def fk (op : BinOp) (x y : Nat) : Nat :=
  match floatBits op .f64 x y with
  | some _ => 0
  | none => 1

theorem cut_nan (x y t : Nat) : nanB (Question.cut (.nanBits .f64 x y) t) = true := by
  rw [nanB_eq]
  apply decide_eq_true
  unfold Question.cut
  simp only
  have h1 : t / 2 % (2 ^ 52 - 1) < 2 ^ 52 - 1 := Nat.mod_lt _ (by decide)
  generalize t / 2 % (2 ^ 52 - 1) = u at *
  have h2 : t % 2 < 2 := Nat.mod_lt _ (by decide)
  generalize t % 2 = v at *
  rcases (show v = 0 ∨ v = 1 by omega) with rfl | rfl <;> omega

theorem cl_fz (op : BinOp) (x y : Nat) (w : World) : cl (fz op x y w) = fb op (cl x) (cl y) := by
  rw [← fb_cl]
  unfold fz
  cases h : floatBits op .f64 x y with
  | some r => exact cl_num (fb_num h)
  | none => exact cl_nan (cut_nan _ _ _)

theorem cut_lt (x y t : Nat) : Question.cut (.nanBits .f64 x y) t < 18446744073709551616 := by
  unfold Question.cut
  simp only
  have h1 : t / 2 % (2 ^ 52 - 1) < 2 ^ 52 - 1 := Nat.mod_lt _ (by decide)
  have h2 : t % 2 < 2 := Nat.mod_lt _ (by decide)
  omega
theorem fb_lt {op : BinOp} {x y r : Nat} (h : floatBits op .f64 x y = some r) : r < 18446744073709551616 := by
  have := floatBits_wf h
  simpa [Lit.wf] using this
theorem fz_lt (op : BinOp) (x y : Nat) (w : World) : fz op x y w < 18446744073709551616 := by
  unfold fz
  cases h : floatBits op .f64 x y with
  | some r => exact fb_lt h
  | none => exact cut_lt _ _ _

section
variable {P : Program}
theorem run_fl (op : BinOp) (hop : op = .add ∨ op = .sub ∨ op = .mul ∨ op = .quo) (t : TypeId) (x y : Nat) (w : World) :
    (binOp op t (.float .f64 x) (.float .f64 y)).run P w = .ok (.float .f64 (fz op x y w)) (w.drewN (fk op x y)) := by
  cases h : floatBits op .f64 x y with
  | some r =>
    have e1 : fz op x y w = r := by unfold fz; rw [h]
    have e2 : fk op x y = 0 := by unfold fk; rw [h]
    rw [e1, e2]
    exact run_float_arith w op t .f64 x y r h
  | none =>
    have e2 : fk op x y = 1 := by unfold fk; rw [h]
    rw [e2]
    unfold fz
    rw [h]
    unfold floatBits at h
    rcases hop with rfl | rfl | rfl | rfl
    all_goals
      simp only at h
      simp [binOp, Op.floatArith, h, Question.forced]
      rfl
theorem run_fadd (t : TypeId) (x y : Nat) (w : World) : (binOp .add t (.float .f64 x) (.float .f64 y)).run P w = .ok (.float .f64 (fz .add x y w)) (w.drewN (fk .add x y)) := run_fl .add (.inl rfl) t x y w
theorem run_fsub (t : TypeId) (x y : Nat) (w : World) : (binOp .sub t (.float .f64 x) (.float .f64 y)).run P w = .ok (.float .f64 (fz .sub x y w)) (w.drewN (fk .sub x y)) := run_fl .sub (.inr (.inl rfl)) t x y w
theorem run_fmul (t : TypeId) (x y : Nat) (w : World) : (binOp .mul t (.float .f64 x) (.float .f64 y)).run P w = .ok (.float .f64 (fz .mul x y w)) (w.drewN (fk .mul x y)) := run_fl .mul (.inr (.inr (.inl rfl))) t x y w
theorem run_fquo (t : TypeId) (x y : Nat) (w : World) : (binOp .quo t (.float .f64 x) (.float .f64 y)).run P w = .ok (.float .f64 (fz .quo x y w)) (w.drewN (fk .quo x y)) := run_fl .quo (.inr (.inr (.inr rfl))) t x y w
end

/-- How two classes stand. -/
def fo (x y : Option Nat) : Option Ordering := x.bind fun a => y.bind fun b => Ieee.double.order a b
theorem order_nanL (a b : Datum) (h : a.isNaN = true) : a.order b = none := by
  cases a <;> simp [Datum.isNaN] at h; rfl
theorem order_nanR (a b : Datum) (h : b.isNaN = true) : a.order b = none := by
  cases b <;> simp [Datum.isNaN] at h; cases a <;> rfl
theorem fo_cl (x y : Nat) : FloatKind.f64.format.order x y = fo (cl x) (cl y) := by
  unfold fo cl
  show Ieee.double.order x y = _
  by_cases hx : nanB x = true
  · rw [if_pos hx]
    exact order_nanL _ _ hx
  · rw [if_neg hx]
    by_cases hy : nanB y = true
    · rw [if_pos hy]
      exact order_nanR _ _ hy
    · rw [if_neg hy]; rfl
theorem fo_self (x : Nat) : FloatKind.f64.format.order x x = if nanB x = true then none else some .eq := by
  show Ieee.double.order x x = _
  unfold Ieee.Format.order nanB
  cases Ieee.double.read x with
  | nan s f => rfl
  | infinity s => cases s <;> rfl
  | number s m i =>
    simp [Datum.order, Datum.isNaN]
/-- The absolute value, of a word and of a class. -/
def ab (c : Option Nat) : Option Nat := c.map fun x => x % 9223372036854775808
theorem cl_ab (x : Nat) : cl (x % 9223372036854775808) = ab (cl x) := by
  unfold cl ab
  have e : nanB (x % 9223372036854775808) = nanB x := by
    rw [nanB_eq, nanB_eq]
    rw [show (2 : Nat) ^ 63 = 9223372036854775808 from rfl, Nat.mod_mod]
  rw [e]
  split <;> rfl
/-- Is it infinite? -/
def infB (c : Option Nat) : Bool := fo (ab c) (some 9218868437227405311) == some .gt
/-- The class of a number that is no NaN, by looking. -/
theorem cl_lit (n : Nat) (h : n % 9223372036854775808 ≤ 0x7ff0000000000000) : cl n = some n := by
  apply cl_num
  rw [nanB_eq]
  exact decide_eq_false (by rw [show (2 : Nat) ^ 63 = 9223372036854775808 from rfl]; omega)
/-- alike: both NaN, or one word. -/
theorem alike_of {a b : Nat} (h : cl a = cl b) : (nanB a = true ∧ nanB b = true) ∨ a = b := by
  unfold cl at h
  split at h
  · split at h
    · exact .inl ⟨by assumption, by assumption⟩
    · cases h
  · split at h
    · cases h
    · exact .inr (Option.some.inj h)
end Go.Proofs.Ytebjklppbkkinaa
