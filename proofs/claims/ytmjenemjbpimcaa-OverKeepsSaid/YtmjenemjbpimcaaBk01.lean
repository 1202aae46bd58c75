/- A bundle of texts. -/
import Derived.Laws.FloatArith
import Derived.Deep.Draws
import Derived.Laws.Externs
import Derived.BigQuiet
/- Floats by their classes: a word, or NaN (none). -/
namespace Go.Proofs.Ytmjenemjbpimcaa
open Ieee

/-- Is the word a NaN? -/
def nanB (n : Nat) : Bool := (Ieee.double.read n).isNaN
/-- A word's class: none for every NaN. -/
def cl (n : Nat) : Option Nat := if nanB n = true then none else some n

theorem cl_nan {n : Nat} (h : nanB n = true) : cl n = none := if_pos h
theorem cl_num {n : Nat} (h : nanB n = false) : cl n = some n := if_neg (by rw [h]; decide)
theorem cl_some {n m : Nat} (h : cl n = some m) : n = m ∧ nanB n = false := by
  unfold cl at h
  split at h
  · cases h
  · rename_i h'
    exact ⟨Option.some.inj h, by simpa using h'⟩
theorem cl_none {n : Nat} (h : cl n = none) : nanB n = true := by
  unfold cl at h
  split at h
  · assumption
  · cases h

theorem nanB_eq (n : Nat) : nanB n = decide (0x7ff0000000000000 < n % 2 ^ 63) := by
  have h1 : Ieee.double.binade = 2 ^ 52 := rfl
  have h2 : Ieee.double.infRung = 0x7ff0000000000000 := by decide
  have h3 : Ieee.double.signWeight = 2 ^ 63 := rfl
  unfold nanB Ieee.Format.read
  simp only [h1, h2, h3]
  generalize n % 2 ^ 63 = r
  split
  · simp [Datum.isNaN]; omega
  · split
    · simp [Datum.isNaN]; omega
    · split
      · simp [Datum.isNaN]; omega
      · simp [Datum.isNaN]; omega

theorem nanB_word (s : Bool) (r : Nat) (h : r ≤ Ieee.double.infRung) : nanB (Ieee.double.word s r) = false := by
  have h2 : Ieee.double.infRung = 0x7ff0000000000000 := by decide
  have h3 : Ieee.double.signWeight = 2 ^ 63 := rfl
  rw [h2] at h
  rw [nanB_eq]
  unfold Ieee.Format.word
  rw [h3]
  cases s <;> simp <;> omega
theorem nanB_write_number (s : Bool) (m : Nat) (i : Int) : nanB (Ieee.double.write (.number s m i)) = false := by
  show nanB (Ieee.double.nearest s m i) = false
  unfold Ieee.Format.nearest
  split
  · exact nanB_word s 0 (Nat.zero_le _)
  · exact nanB_word s _ (Nat.min_le_right _ _)
theorem nanB_write_inf (s : Bool) : nanB (Ieee.double.write (.infinity s)) = false := nanB_word s _ (Nat.le_refl _)
theorem nanB_write (d : Datum) (h : d.isNaN = false) : nanB (Ieee.double.write d) = false := by
  cases d with
  | number s m i => exact nanB_write_number s m i
  | infinity s => exact nanB_write_inf s
  | nan s f => simp [Datum.isNaN] at h

theorem sum_num (a b d : Datum) (h : a.sum b = some d) : d.isNaN = false := by
  unfold Datum.sum at h
  split at h <;> first | (cases h; done) | skip
  · split at h
    · cases h; rfl
    · cases h
  · cases h; rfl
  · cases h; rfl
  · cases h; rfl
theorem product_num (a b d : Datum) (h : a.product b = some d) : d.isNaN = false := by
  unfold Datum.product at h
  split at h <;> first | (cases h; done) | skip
  · cases h; rfl
  · split at h
    · cases h
    · cases h; rfl
  · split at h
    · cases h
    · cases h; rfl
  · cases h; rfl
theorem quotient_num (n : Nat) (a b d : Datum) (h : a.quotient n b = some d) : d.isNaN = false := by
  unfold Datum.quotient at h
  split at h <;> first | (cases h; done) | skip
  · cases h; rfl
  · cases h; rfl
  · split at h
    · split at h
      · cases h
      · cases h; rfl
    · cases h; rfl

/-- What an operation answers is no NaN. -/
theorem fb_num {op : BinOp} {x y r : Nat} (h : floatBits op .f64 x y = some r) : nanB r = false := by
  unfold floatBits at h
  split at h
  · change (((Ieee.double.read x).sum (Ieee.double.read y)).map Ieee.double.write) = some r at h
    obtain ⟨d, hd, rfl⟩ := Option.map_eq_some_iff.1 h
    exact nanB_write d (sum_num _ _ _ hd)
  · change (((Ieee.double.read x).sum (Ieee.double.read y).opposite).map Ieee.double.write) = some r at h
    obtain ⟨d, hd, rfl⟩ := Option.map_eq_some_iff.1 h
    exact nanB_write d (sum_num _ _ _ hd)
  · change (((Ieee.double.read x).product (Ieee.double.read y)).map Ieee.double.write) = some r at h
    obtain ⟨d, hd, rfl⟩ := Option.map_eq_some_iff.1 h
    exact nanB_write d (product_num _ _ _ hd)
  · change (((Ieee.double.read x).quotient 54 (Ieee.double.read y)).map Ieee.double.write) = some r at h
    obtain ⟨d, hd, rfl⟩ := Option.map_eq_some_iff.1 h
    exact nanB_write d (quotient_num _ _ _ _ hd)
  · cases h

theorem sum_nanL (a b : Datum) (h : a.isNaN = true) : a.sum b = none := by
  cases a <;> simp [Datum.isNaN] at h; rfl
theorem sum_nanR (a b : Datum) (h : b.isNaN = true) : a.sum b = none := by
  cases b <;> simp [Datum.isNaN] at h; cases a <;> rfl
theorem product_nanL (a b : Datum) (h : a.isNaN = true) : a.product b = none := by
  cases a <;> simp [Datum.isNaN] at h; rfl
theorem product_nanR (a b : Datum) (h : b.isNaN = true) : a.product b = none := by
  cases b <;> simp [Datum.isNaN] at h; cases a <;> rfl
theorem quotient_nanL (n : Nat) (a b : Datum) (h : a.isNaN = true) : a.quotient n b = none := by
  cases a <;> simp [Datum.isNaN] at h; rfl
theorem quotient_nanR (n : Nat) (a b : Datum) (h : b.isNaN = true) : a.quotient n b = none := by
  cases b <;> simp [Datum.isNaN] at h; cases a <;> rfl
theorem opposite_nan (a : Datum) : a.opposite.isNaN = a.isNaN := by cases a <;> rfl

theorem fb_nanL (op : BinOp) (x y : Nat) (h : nanB x = true) : floatBits op .f64 x y = none := by
  unfold nanB at h
  unfold floatBits
  split
  · show ((Ieee.double.read x).sum (Ieee.double.read y)).map Ieee.double.write = none
    rw [sum_nanL _ _ h]; rfl
  · show ((Ieee.double.read x).sum (Ieee.double.read y).opposite).map Ieee.double.write = none
    rw [sum_nanL _ _ h]; rfl
  · show ((Ieee.double.read x).product (Ieee.double.read y)).map Ieee.double.write = none
    rw [product_nanL _ _ h]; rfl
  · show ((Ieee.double.read x).quotient 54 (Ieee.double.read y)).map Ieee.double.write = none
    rw [quotient_nanL _ _ _ h]; rfl
  · rfl
theorem fb_nanR (op : BinOp) (x y : Nat) (h : nanB y = true) : floatBits op .f64 x y = none := by
  unfold nanB at h
  unfold floatBits
  split
  · show ((Ieee.double.read x).sum (Ieee.double.read y)).map Ieee.double.write = none
    rw [sum_nanR _ _ h]; rfl
  · show ((Ieee.double.read x).sum (Ieee.double.read y).opposite).map Ieee.double.write = none
    rw [sum_nanR _ _ (by rw [opposite_nan]; exact h)]; rfl
  · show ((Ieee.double.read x).product (Ieee.double.read y)).map Ieee.double.write = none
    rw [product_nanR _ _ h]; rfl
  · show ((Ieee.double.read x).quotient 54 (Ieee.double.read y)).map Ieee.double.write = none
    rw [quotient_nanR _ _ _ h]; rfl
  · rfl

/-- An operation on classes. -/
def fb (op : BinOp) (x y : Option Nat) : Option Nat := x.bind fun a => y.bind fun b => floatBits op .f64 a b
theorem fb_cl (op : BinOp) (x y : Nat) : floatBits op .f64 x y = fb op (cl x) (cl y) := by
  unfold fb cl
  by_cases hx : nanB x = true
  · rw [if_pos hx, fb_nanL _ _ _ hx]; rfl
  · rw [if_neg hx]
    by_cases hy : nanB y = true
    · rw [if_pos hy, fb_nanR _ _ _ hy]; rfl
    · rw [if_neg hy]; rfl

/-- The word that an operation answers in a world, and how often it asks the tape. -/
def fz (op : BinOp) (x y : Nat) (w : World) : Nat :=
  match floatBits op .f64 x y with
  | some r => r
  | none => (Question.nanBits .f64 x y).cut (w.tape w.drawn (.nanBits .f64 x y))
def fk (op : BinOp) (x y : Nat) : Nat :=
  match floatBits op .f64 x y with
  | some _ => 0
  | none => 1

theorem cut_nan (x y t : Nat) : nanB (Question.cut (.nanBits .f64 x y) t) = true := by
  rw [nanB_eq]
  apply decide_eq_true
  unfold Question.cut
  simp only
  have h1 : t / 2 % (2 ^ 52 - 1) < 2 ^ 52 - 1 := Nat.mod_lt _ (by decide)
  generalize t / 2 % (2 ^ 52 - 1) = u at *
  have h2 : t % 2 < 2 := Nat.mod_lt _ (by decide)
  generalize t % 2 = v at *
  rcases (show v = 0 ∨ v = 1 by omega) with rfl | rfl <;> omega

theorem cl_fz (op : BinOp) (x y : Nat) (w : World) : cl (fz op x y w) = fb op (cl x) (cl y) := by
  rw [← fb_cl]
  unfold fz
  cases h : floatBits op .f64 x y with
  | some r => exact cl_num (fb_num h)
  | none => exact cl_nan (cut_nan _ _ _)

theorem cut_lt (x y t : Nat) : Question.cut (.nanBits .f64 x y) t < 18446744073709551616 := by
  unfold Question.cut
  simp only
  have h1 : t / 2 % (2 ^ 52 - 1) < 2 ^ 52 - 1 := Nat.mod_lt _ (by decide)
  have h2 : t % 2 < 2 := Nat.mod_lt _ (by decide)
  omega
theorem fb_lt {op : BinOp} {x y r : Nat} (h : floatBits op .f64 x y = some r) : r < 18446744073709551616 := by
  have := floatBits_wf h
  simpa [Lit.wf] using this
theorem fz_lt (op : BinOp) (x y : Nat) (w : World) : fz op x y w < 18446744073709551616 := by
  unfold fz
  cases h : floatBits op .f64 x y with
  | some r => exact fb_lt h
  | none => exact cut_lt _ _ _

section
variable {P : Program}
theorem run_fl (op : BinOp) (hop : op = .add ∨ op = .sub ∨ op = .mul ∨ op = .quo) (t : TypeId) (x y : Nat) (w : World) :
    (binOp op t (.float .f64 x) (.float .f64 y)).run P w = .ok (.float .f64 (fz op x y w)) (w.drewN (fk op x y)) := by
  cases h : floatBits op .f64 x y with
  | some r =>
    have e1 : fz op x y w = r := by unfold fz; rw [h]
    have e2 : fk op x y = 0 := by unfold fk; rw [h]
    rw [e1, e2]
    exact run_float_arith w op t .f64 x y r h
  | none =>
    have e2 : fk op x y = 1 := by unfold fk; rw [h]
    rw [e2]
    unfold fz
    rw [h]
    unfold floatBits at h
    rcases hop with rfl | rfl | rfl | rfl
    all_goals
      simp only at h
      simp [binOp, Op.floatArith, h, Question.forced]
      rfl
theorem run_fadd (t : TypeId) (x y : Nat) (w : World) : (binOp .add t (.float .f64 x) (.float .f64 y)).run P w = .ok (.float .f64 (fz .add x y w)) (w.drewN (fk .add x y)) := run_fl .add (.inl rfl) t x y w
theorem run_fsub (t : TypeId) (x y : Nat) (w : World) : (binOp .sub t (.float .f64 x) (.float .f64 y)).run P w = .ok (.float .f64 (fz .sub x y w)) (w.drewN (fk .sub x y)) := run_fl .sub (.inr (.inl rfl)) t x y w
theorem run_fmul (t : TypeId) (x y : Nat) (w : World) : (binOp .mul t (.float .f64 x) (.float .f64 y)).run P w = .ok (.float .f64 (fz .mul x y w)) (w.drewN (fk .mul x y)) := run_fl .mul (.inr (.inr (.inl rfl))) t x y w
theorem run_fquo (t : TypeId) (x y : Nat) (w : World) : (binOp .quo t (.float .f64 x) (.float .f64 y)).run P w = .ok (.float .f64 (fz .quo x y w)) (w.drewN (fk .quo x y)) := run_fl .quo (.inr (.inr (.inr rfl))) t x y w
end

/-- How two classes stand. -/
def fo (x y : Option Nat) : Option Ordering := x.bind fun a => y.bind fun b => Ieee.double.order a b
theorem order_nanL (a b : Datum) (h : a.isNaN = true) : a.order b = none := by
  cases a <;> simp [Datum.isNaN] at h; rfl
theorem order_nanR (a b : Datum) (h : b.isNaN = true) : a.order b = none := by
  cases b <;> simp [Datum.isNaN] at h; cases a <;> rfl
theorem fo_cl (x y : Nat) : FloatKind.f64.format.order x y = fo (cl x) (cl y) := by
  unfold fo cl
  show Ieee.double.order x y = _
  by_cases hx : nanB x = true
  · rw [if_pos hx]
    exact order_nanL _ _ hx
  · rw [if_neg hx]
    by_cases hy : nanB y = true
    · rw [if_pos hy]
      exact order_nanR _ _ hy
    · rw [if_neg hy]; rfl
theorem fo_self (x : Nat) : FloatKind.f64.format.order x x = if nanB x = true then none else some .eq := by
  show Ieee.double.order x x = _
  unfold Ieee.Format.order nanB
  cases Ieee.double.read x with
  | nan s f => rfl
  | infinity s => cases s <;> rfl
  | number s m i =>
    simp [Datum.order, Datum.isNaN]
/-- The absolute value, of a word and of a class. -/
def ab (c : Option Nat) : Option Nat := c.map fun x => x % 9223372036854775808
theorem cl_ab (x : Nat) : cl (x % 9223372036854775808) = ab (cl x) := by
  unfold cl ab
  have e : nanB (x % 9223372036854775808) = nanB x := by
    rw [nanB_eq, nanB_eq]
    rw [show (2 : Nat) ^ 63 = 9223372036854775808 from rfl, Nat.mod_mod]
  rw [e]
  split <;> rfl
/-- Is it infinite? -/
def infB (c : Option Nat) : Bool := fo (ab c) (some 9218868437227405311) == some .gt
/-- The class of a number that is no NaN, by looking. -/
theorem cl_lit (n : Nat) (h : n % 9223372036854775808 ≤ 0x7ff0000000000000) : cl n = some n := by
  apply cl_num
  rw [nanB_eq]
  exact decide_eq_false (by rw [show (2 : Nat) ^ 63 = 9223372036854775808 from rfl]; omega)
/-- alike: both NaN, or one word. -/
theorem alike_of {a b : Nat} (h : cl a = cl b) : (nanB a = true ∧ nanB b = true) ∨ a = b := by
  unfold cl at h
  split at h
  · split at h
    · exact .inl ⟨by assumption, by assumption⟩
    · cases h
  · split at h
    · cases h
    · exact .inr (Option.some.inj h)
end Go.Proofs.Ytmjenemjbpimcaa
/- A region that draws its order and reckons with floats: each operation yields a value of some kind; one walk of the lexical order serves every order. -/
namespace Go.Proofs.Ytmjenemjbpimcaa
open Go

section
variable {P : Program} {ops : Array Oper} {md : Region.Mode} {C : World → Prop}

/-- What is asked of what an operation yielded: a value of the kind S, in a world of the class. -/
def looseUpon (C : World → Prop) (S : Value → Prop) : Result Next → Prop
  | .ok (.value u) w' => C w' ∧ S u
  | .ok .skip w' => C w' ∧ S undef
  | _ => False
def looseAt (P : Program) (o : Oper) (a : Act) (C : World → Prop) (w : World) (S : Value → Prop) : Prop := looseUpon C S ((execOp a.eval o).run P w)
def loose (P : Program) (o : Oper) (a : Act) (C : World → Prop) (next : Act → Prop) : Prop := ∃ S : Value → Prop, (∀ w, C w → looseAt P o a C w S) ∧ ∀ v, S v → next (a.put o.dst v)

/-- The lexical walk. -/
def wpLoose (P : Program) (ops : Array Oper) (C : World → Prop) (Q : Act → Prop) : List Oper → Act → Prop
  | [], a => Q a
  | o :: rest, a => if Region.wanted o (yielded ops a.tmps) then loose P o a C (wpLoose P ops C Q rest) else wpLoose P ops C Q rest (a.put o.dst undef)

/-- Operation number i comes up. -/
def lOp (P : Program) (ops : Array Oper) (C : World → Prop) (i : Nat) (K : Act → Prop) (a : Act) : Prop :=
  match ops[i]? with
  | none => K a
  | some o => if Region.wanted o (yielded ops a.tmps) then loose P o a C K else K (a.put o.dst undef)

theorem loose_mono {o : Oper} {a : Act} {K K' : Act → Prop} (h : ∀ a, K a → K' a) (hh : loose P o a C K) : loose P o a C K' :=
  let ⟨S, h1, h2⟩ := hh
  ⟨S, h1, fun v hv => h _ (h2 v hv)⟩

theorem lOp_mono {i : Nat} {a : Act} {K K' : Act → Prop} (h : ∀ a, K a → K' a) (hh : lOp P ops C i K a) : lOp P ops C i K' a := by
  unfold lOp at *
  split
  · exact h _ (by simpa [*] using hh)
  · rename_i o ho
    simp only [ho] at hh
    split
    · rename_i hw; simp only [hw, if_true] at hh; exact loose_mono h hh
    · rename_i hw; simp only [hw] at hh; exact h _ hh

/-- Whatever order is picked from here on. -/
def wpAnyL (P : Program) (md : Region.Mode) (ops : Array Oper) (C : World → Prop) (Q : Act → Prop) : Nat → Array Bool → Act → Prop
  | 0, listed, a => Region.ready md ops listed = [] ∧ Q a
  | fuel + 1, listed, a =>
    (Region.ready md ops listed = [] → Q a) ∧
    ∀ i ∈ Region.ready md ops listed, lOp P ops C i (wpAnyL P md ops C Q fuel (listed.setIfInBounds i true)) a

theorem wp_of_loose {o : Oper} {a : Act} {K : Act → Prop} {K' : Act → World → Prop} {Q' : Exit → Act → World → Prop} {w : World} (hw : C w) (h : ∀ a w', C w' → K a → K' a w') (hh : loose P o a C K) : o.wp P a w K' Q' := by
  obtain ⟨S, h1, h2⟩ := hh
  have h3 := h1 w hw
  unfold looseAt at h3
  unfold Oper.wp
  generalize (execOp a.eval o).run P w = r at *
  cases r with
  | ok n w' =>
    cases n <;> simp only [looseUpon] at h3 <;> simp only [Oper.upon]
    case value u => exact h _ _ h3.1 (h2 _ h3.2)
    case skip => exact h _ _ h3.1 (h2 _ h3.2)
  | halt x w' => simp only [looseUpon] at h3

theorem wpOp_of_lOp {i : Nat} {a : Act} {K : Act → Prop} {K' : Act → World → Prop} {Q' : Exit → Act → World → Prop} {w : World} (hC : C w) (h : ∀ a w', C w' → K a → K' a w') (hh : lOp P ops C i K a) : wpOp P ops Q' i K' a w := by
  unfold lOp at hh
  unfold wpOp
  split
  · rename_i ho; simp only [ho] at hh; exact h _ _ hC hh
  · rename_i o ho
    simp only [ho] at hh
    split
    · rename_i hw; simp only [hw, if_true] at hh; exact .inl (wp_of_loose hC h hh)
    · rename_i hw; simp only [hw] at hh; exact h _ _ hC hh

theorem wpAny_of_loose {Q : Act → Prop} {Q' : Exit → Act → World → Prop} (hQ : ∀ a w, C w → Q a → Q' .normal a w) : ∀ (fuel : Nat) (listed : Array Bool) (a : Act) (w : World), C w →
    wpAnyL P md ops C Q fuel listed a → wpAny P md ops Q' fuel listed a w
  | 0, _, _, _, hw, h => ⟨h.1, hQ _ _ hw h.2⟩
  | fuel + 1, _, _, _, hw, h => ⟨fun h0 => hQ _ _ hw (h.1 h0), fun i hi => wpOp_of_lOp hw (fun a' w' hw' => wpAny_of_loose hQ fuel _ a' w' hw') (h.2 i hi)⟩

/-- In every world of the class the operation yields a value of the kind S. -/
def YieldsL (P : Program) (ops : Array Oper) (C : World → Prop) (o : Oper) (S : Value → Prop) (a : Act) : Prop :=
  (Region.wanted o (yielded ops a.tmps) = true ∧ ∀ w, C w → looseAt P o a C w S) ∨
  (Region.wanted o (yielded ops a.tmps) = false ∧ S = fun v => v = undef)

theorem YieldsL.lOp {i : Nat} {o : Oper} {S : Value → Prop} {a : Act} (hi : ops[i]? = some o) (hy : YieldsL P ops C o S a) {K : Act → Prop} (h : ∀ v, S v → K (a.put o.dst v)) : lOp P ops C i K a := by
  unfold Ytmjenemjbpimcaa.lOp
  simp only [hi]
  rcases hy with ⟨hw, hv⟩ | ⟨hw, rfl⟩
  · simp only [hw, if_true]; exact ⟨S, hv, h⟩
  · simp only [hw, Bool.false_eq_true, if_false]; exact h _ rfl

theorem YieldsL.of_same {o : Oper} {S : Value → Prop} {a a' : Act} (hy : YieldsL P ops C o S a) (he : execOp a'.eval o = execOp a.eval o)
    (hw : Region.wanted o (yielded ops a'.tmps) = Region.wanted o (yielded ops a.tmps)) : YieldsL P ops C o S a' := by
  unfold YieldsL looseAt at *
  rw [he, hw]
  exact hy

theorem YieldsL.some {o : Oper} {S : Value → Prop} {a : Act} (hy : YieldsL P ops C o S a) (hC : ∃ w, C w) : ∃ v, S v := by
  rcases hy with ⟨_, hv⟩ | ⟨_, rfl⟩
  · obtain ⟨w, hw⟩ := hC
    have := hv w hw
    unfold looseAt at this
    generalize (execOp a.eval o).run P w = r at *
    cases r with
    | ok n w' =>
      cases n <;> simp only [looseUpon] at this
      case value u => exact ⟨_, this.2⟩
      case skip => exact ⟨_, this.2⟩
    | halt x w' => simp only [looseUpon] at this
  · exact ⟨_, rfl⟩

theorem yieldsL_of_lOp {i : Nat} {o : Oper} {a : Act} {K : Act → Prop} (hi : ops[i]? = some o) (h : lOp P ops C i K a) : ∃ S, YieldsL P ops C o S a ∧ ∀ v, S v → K (a.put o.dst v) := by
  unfold lOp at h
  simp only [hi] at h
  by_cases hw : Region.wanted o (yielded ops a.tmps) = true
  · simp only [hw, if_true] at h
    obtain ⟨S, h1, h2⟩ := h
    exact ⟨S, .inl ⟨hw, h1⟩, h2⟩
  · simp only [hw] at h
    exact ⟨fun v => v = undef, .inr ⟨by simpa using hw, rfl⟩, fun v hv => by subst hv; exact h⟩

theorem looseUpon_all {ι : Type} {T : ι → Prop} {S : ι → Value → Prop} {r : Result Next} (h0 : ∃ i, T i) (h : ∀ i, T i → looseUpon C (S i) r) : looseUpon C (fun u => ∀ i, T i → S i u) r := by
  obtain ⟨i, hi⟩ := h0
  have h1 := h i hi
  cases r with
  | ok n w' =>
    cases n <;> simp only [looseUpon] at h1 h ⊢
    case value u => exact ⟨h1.1, fun j hj => (h j hj).2⟩
    case skip => exact ⟨h1.1, fun j hj => (h j hj).2⟩
  | halt x w' => simp only [looseUpon] at h1

theorem lOp_put {j : Nat} {oi oj : Oper} {S : Value → Prop} (hC : ∃ w, C w) (hj : ops[j]? = some oj) (hap : oi.apart ops oj = true)
    (hsi : ∀ cs b, oi.op ≠ .select cs b) (hsj : ∀ cs b, oj.op ≠ .select cs b) {K : Act → Prop} {a : Act}
    (hy : YieldsL P ops C oi S a) (h : ∀ v, S v → lOp P ops C j K (a.put oi.dst v)) :
    lOp P ops C j (fun a' => YieldsL P ops C oi S a' ∧ ∀ v, S v → K (a'.put oi.dst v)) a := by
  obtain ⟨h1, h2, h3⟩ := Oper.apart_spec hap
  have keep : ∀ (a : Act), YieldsL P ops C oi S a → ∀ u, YieldsL P ops C oi S (a.put oj.dst u) := fun a hy u =>
    hy.of_same (execOp_put oi hsi a oj.dst u h3) (wanted_put oi a oj.dst u h3)
  unfold lOp at *
  simp only [hj] at *
  obtain ⟨v0, hv0⟩ := hy.some hC
  split
  · rename_i hw
    have h' : ∀ v, S v → loose P oj (a.put oi.dst v) C K := fun v hv => by
      have := h v hv
      rw [wanted_put oj a oi.dst v h1] at this
      simpa only [hw, if_true] using this
    obtain ⟨T, hT⟩ : ∃ T : Value → Value → Prop, ∀ v, S v → (∀ w, C w → looseAt P oj (a.put oi.dst v) C w (T v)) ∧ ∀ u, T v u → K ((a.put oi.dst v).put oj.dst u) :=
      Classical.axiomOfChoice (r := fun (v : Value) (T : Value → Prop) => S v → (∀ w, C w → looseAt P oj (a.put oi.dst v) C w T) ∧ ∀ u, T u → K ((a.put oi.dst v).put oj.dst u)) (fun v => (Classical.em (S v)).elim
        (fun hv => let ⟨T, hT⟩ := h' v hv; ⟨T, fun _ => hT⟩) (fun hv => ⟨fun _ => False, fun h => absurd h hv⟩))
    refine ⟨fun u => ∀ v, S v → T v u, fun w hw' => ?_, fun u hu => ⟨keep a hy u, fun v hv => by rw [← Act.put_comm a v u h2]; exact (hT v hv).2 u (hu v hv)⟩⟩
    unfold looseAt
    refine looseUpon_all ⟨v0, hv0⟩ fun v hv => ?_
    have := (hT v hv).1 w hw'
    unfold looseAt at this
    rwa [execOp_put oj hsj a oi.dst v h1] at this
  · rename_i hw
    refine ⟨keep a hy _, fun v hv => ?_⟩
    have := h v hv
    rw [wanted_put oj a oi.dst v h1] at this
    rw [← Act.put_comm a v undef h2]
    simpa only [hw, Bool.false_eq_true, if_false] using this

theorem wpAnyL_first {Q : Act → Prop} {i : Nat} {oi : Oper} {S : Value → Prop} (hC : ∃ w, C w) (hi : ops[i]? = some oi) (hsel : ∀ (j : Nat) (o : Oper) cs b, ops[j]? = some o → o.op ≠ .select cs b) :
    ∀ (fuel : Nat) (listed : Array Bool) (a : Act),
      (∀ j oj, ops[j]? = some oj → j ≠ i → listed.getD j true = false → (∀ e ∈ oj.after, Region.binds md e = true → e.on ≠ i) → oi.apart ops oj = true) →
      i ∈ Region.ready md ops listed → YieldsL P ops C oi S a →
      (∀ v, S v → wpAnyL P md ops C Q fuel (listed.setIfInBounds i true) (a.put oi.dst v)) → wpAnyL P md ops C Q (fuel + 1) listed a := by
  intro fuel
  induction fuel with
  | zero =>
    intro listed a _ hr hy H
    refine ⟨fun h => (by rw [h] at hr; cases hr), fun j hj => ?_⟩
    by_cases hji : j = i
    · subst hji; exact hy.lOp hi H
    · have := ready_mono hj hji
      obtain ⟨v, hv⟩ := hy.some hC
      rw [(H v hv).1] at this
      cases this
  | succ fuel ih =>
    intro listed a hfree hr hy H
    refine ⟨fun h => (by rw [h] at hr; cases hr), fun j hj => ?_⟩
    by_cases hji : j = i
    · subst hji; exact hy.lOp hi H
    · have h1 := fun v hv => (H v hv).2 j (ready_mono hj hji)
      obtain ⟨hjun, oj, hoj, hall⟩ := mem_ready.1 hj
      have hnot : ∀ e ∈ oj.after, Region.binds md e = true → e.on ≠ i := fun e he hb heq => by
        have h1 := hall e he hb
        have h0 := (mem_ready.1 hr).1
        rw [heq] at h1
        rcases Nat.lt_or_ge i listed.size with h' | h'
        · simp [h'] at h0 h1; rw [h0] at h1; cases h1
        · simp [Array.getElem?_eq_none h'] at h1
      have h2 := lOp_put hC hoj (hfree j oj hoj hji hjun hnot) (fun cs b => hsel i oi cs b hi) (fun cs b => hsel j oj cs b hoj) hy h1
      have hfree' : ∀ k ok, ops[k]? = some ok → k ≠ i → (listed.setIfInBounds j true).getD k true = false →
          (∀ e ∈ ok.after, Region.binds md e = true → e.on ≠ i) → oi.apart ops ok = true := fun k ok hk hki hun hno => by
        refine hfree k ok hk hki ?_ hno
        by_cases hjk : j = k
        · subst hjk; exact hjun
        · rw [getD_set_ne true hjk] at hun; exact hun
      refine lOp_mono (fun a' h3 => ih (listed.setIfInBounds j true) a' hfree' (ready_mono hr (Ne.symm hji)) h3.1 ?_) h2
      intro v hv
      rw [Array.setIfInBounds_comm _ _ hji]
      exact h3.2 v hv

theorem wpAnyL_lex {Q : Act → Prop} (hC : ∃ w, C w) (hs : Region.noSelect ops = true) : ∀ (l : List Oper) (k : Nat) (listed : Array Bool) (a : Act), (∀ j, l[j]? = ops[k + j]?) →
    Region.lexFrom md ops l.length k listed = true → wpLoose P ops C Q l a → wpAnyL P md ops C Q l.length listed a
  | [], _, _, _, _, hB, h => ⟨by simpa [Region.lexFrom] using hB, h⟩
  | o :: l, k, listed, a, hl, hB, h => by
    have h0 : ops[k]? = some o := by simpa using (hl 0).symm
    simp only [List.length_cons, Region.lexFrom, Bool.and_eq_true] at hB
    obtain ⟨⟨hr, hf⟩, hB'⟩ := hB
    have hst : lOp P ops C k (wpLoose P ops C Q l) a := by unfold lOp; simp only [h0]; exact h
    obtain ⟨S, hy, hK⟩ := yieldsL_of_lOp h0 hst
    exact wpAnyL_first hC h0 (Region.noSelect_spec hs) l.length listed a (Region.free_spec h0 hf) (by simpa using hr) hy
      (fun v hv => wpAnyL_lex hC hs l (k + 1) _ _ (fun j => by have := hl (j + 1); simpa [Nat.add_assoc, Nat.add_comm 1 j] using this) hB' (hK v hv))

theorem wp_region_loose {id : Nat} {Q : Exit → Act → World → Prop} {a : Act} {w : World} {l : List Oper} (hm : P.follows .mixedOrders = true) (hB : Region.lexB .any l.toArray = true)
    (h : wpLoose P l.toArray (fun w' => ∃ n, w' = w.drewN n) (fun a' => ∀ n, Q .normal a' (w.drewN n)) l a) : (Code.region id l.toArray true).wp P Q a w := by
  have hC : (fun w' => ∃ n, w' = w.drewN n) { w with drawn := w.drawn + 1 } := ⟨1, rfl⟩
  simp only [Region.lexB, Bool.and_eq_true] at hB
  refine wp_region_any hm (wpAny_of_loose (C := fun w' => ∃ n, w' = w.drewN n) (Q := fun a' => ∀ n, Q .normal a' (w.drewN n)) (fun _ w' hw' h => by obtain ⟨n, rfl⟩ := hw'; exact h n) _ _ _ _ hC ?_)
  have := wpAnyL_lex (C := fun w' => ∃ n, w' = w.drewN n) (md := .any) ⟨_, hC⟩ hB.1 l 0 (Array.replicate l.length false) a (by simp) (by simpa using hB.2) h
  simpa using this

/-- Operations that are no calls. -/
def plainOp : Op → Bool
  | .move _ | .assign _ | .pick .. | .load .. | .indexAddr .. | .binOp .. | .unOp .. | .convert .. | .fieldAddr .. | .field .. | .index .. | .extract .. => true
  | _ => false

theorem plain_run (o : Oper) (ρ : Operand → Value) (h : plainOp o.op = true) (w : World) : (∃ v w', (execOp ρ o).run P w = .ok (.value v) w') ∨ (∃ x w', (execOp ρ o).run P w = .halt x w') := by
  have key : ∀ s : Sem Value, (∃ v w', ((do pure (.value (← s)) : Sem Next)).run P w = .ok (.value v) w') ∨ (∃ x w', ((do pure (.value (← s)) : Sem Next)).run P w = .halt x w') := by
    intro s
    simp only [Sem.run_bind]
    cases s.run P w with
    | ok v w' => left; exact ⟨v, w', by simp [Result.andThen]⟩
    | halt x w' => right; exact ⟨x, w', by simp [Result.andThen]⟩
  unfold execOp
  cases ho : o.op <;> rw [ho] at h <;> simp only [plainOp] at h <;> first | (cases h; done) | skip
  all_goals simp only
  case move x => exact .inl ⟨_, w, rfl⟩
  case assign x => exact .inl ⟨_, w, rfl⟩
  case pick c x y =>
    simp only [Sem.run_bind]
    cases (asBool (ρ c)).run P w with
    | ok v w' => left; exact ⟨_, w', by simp [Result.andThen]; rfl⟩
    | halt x w' => right; exact ⟨x, w', by simp [Result.andThen]⟩
  all_goals exact key _

/-- A quiet operation that is no call. -/
theorem loose_of_quiet {o : Oper} {a : Act} {K : Act → Prop} (hp : plainOp o.op = true) (h : o.quiet P a C K) : loose P o a C K := by
  obtain ⟨v, h1, h2⟩ := h
  refine ⟨fun u => u = v, fun w hw => ?_, fun u hu => by subst hu; exact h2⟩
  have h3 := h1 w hw
  unfold Oper.quietAt at h3
  unfold looseAt
  rcases plain_run (P := P) o a.eval hp w with ⟨u, w', e⟩ | ⟨x, w', e⟩
  · rw [e] at h3 ⊢
    simp only [Oper.quietUpon] at h3
    simp only [looseUpon]
    exact ⟨by rw [h3.1]; exact hw, h3.2⟩
  · rw [e] at h3
    simp only [Oper.quietUpon] at h3

theorem wpLoose_nil {Q : Act → Prop} {a : Act} (h : Q a) : wpLoose P ops C Q [] a := h
theorem wpLoose_quiet {Q : Act → Prop} {a : Act} {o : Oper} {rest : List Oper} (hp : plainOp o.op = true) (hw : Region.wanted o (yielded ops a.tmps) = true)
    (h : ∀ K : Act → Prop, (∀ a, wpLoose P ops C Q rest a → K a) → o.quiet P a C K) : wpLoose P ops C Q (o :: rest) a := by
  unfold wpLoose
  rw [if_pos hw]
  exact loose_of_quiet hp (h _ fun _ h => h)
/-- An operation on floats. -/
theorem wpLoose_float {Q : Act → Prop} {a : Act} {o : Oper} {rest : List Oper} (op : BinOp) (hop : op = .add ∨ op = .sub ∨ op = .mul ∨ op = .quo) (t t' : TypeId) (x y : Operand) (ho : o.op = .binOp op t x y t') (hw : Region.wanted o (yielded ops a.tmps) = true)
    (zx zy : Nat) (hx : a.eval x = .float .f64 zx) (hy : a.eval y = .float .f64 zy) (hC : ∀ w k, C w → C (w.drewN k))
    (h : ∀ z, z < 18446744073709551616 → cl z = fb op (cl zx) (cl zy) → wpLoose P ops C Q rest (a.put o.dst (.float .f64 z))) : wpLoose P ops C Q (o :: rest) a := by
  unfold wpLoose
  rw [if_pos hw]
  refine ⟨fun v => ∃ z, v = .float .f64 z ∧ z < 18446744073709551616 ∧ cl z = fb op (cl zx) (cl zy), fun w' hw' => ?_, fun v ⟨z, hv, hl, hz⟩ => by subst hv; exact h z hl hz⟩
  unfold looseAt execOp
  simp only [ho, hx, hy]
  have hg : eqGuard op t x y (.float .f64 zx) (.float .f64 zy) = pure () := by
    rcases hop with rfl | rfl | rfl | rfl <;> rfl
  simp only [hg, Sem.run_bind, Sem.run_pure, Result.andThen_ok, run_fl op hop]
  exact ⟨hC _ _ hw', ⟨_, rfl, fz_lt op zx zy _, cl_fz op zx zy _⟩⟩
end
end Go.Proofs.Ytmjenemjbpimcaa
