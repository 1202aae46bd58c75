/- A bundle of texts. -/
import Derived.Laws.FloatArith
import Derived.Deep.Draws
import Derived.Laws.Externs
/- Floats by their classes: a word, or NaN (none). -/
namespace Go.Proofs.YtebjklppbkkinaaGreatDoor.F
open Ieee

/-- Is the word a NaN? -/
def nanB (n : Nat) : Bool := (Ieee.double.read n).isNaN
/-- A word's class: none for every NaN. -/
def cl (n : Nat) : Option Nat := if nanB n = true then none else some n

theorem cl_nan {n : Nat} (h : nanB n = true) : cl n = none := if_pos h
theorem cl_num {n : Nat} (h : nanB n = false) : cl n = some n := if_neg (by rw [h]; decide)
theorem cl_some {n m : Nat} (h : cl n = some m) : n = m ∧ nanB n = false := by
  unfold cl at h
  split at h
  · cases h
  · rename_i h'
    exact ⟨Option.some.inj h, by simpa using h'⟩
theorem cl_none {n : Nat} (h : cl n = none) : nanB n = true := by
  unfold cl at h
  split at h
  · assumption
  · cases h

theorem nanB_eq (n : Nat) : nanB n = decide (0x7ff0000000000000 < n % 2 ^ 63) := by
  have h1 : Ieee.double.binade = 2 ^ 52 := rfl
  have h2 : Ieee.double.infRung = 0x7ff0000000000000 := by decide
  have h3 : Ieee.double.signWeight = 2 ^ 63 := rfl
  unfold nanB Ieee.Format.read
  simp only [h1, h2, h3]
  generalize n % 2 ^ 63 = r
  split
  · simp [Datum.isNaN]; omega
  · split
    · simp [Datum.isNaN]; omega
    · split
      · simp [Datum.isNaN]; omega
      · simp [Datum.isNaN]; omega

theorem nanB_word (s : Bool) (r : Nat) (h : r ≤ Ieee.double.infRung) : nanB (Ieee.double.word s r) = false := by
  have h2 : Ieee.double.infRung = 0x7ff0000000000000 := by decide
  have h3 : Ieee.double.signWeight = 2 ^ 63 := rfl
  rw [h2] at h
  rw [nanB_eq]
  unfold Ieee.Format.word
  rw [h3]
  cases s <;> simp <;> omega
theorem nanB_write_number (s : Bool) (m : Nat) (i : Int) : nanB (Ieee.double.write (.number s m i)) = false := by
  show nanB (Ieee.double.nearest s m i) = false
  unfold Ieee.Format.nearest
  split
  · exact nanB_word s 0 (Nat.zero_le _)
  · exact nanB_word s _ (Nat.min_le_right _ _)
theorem nanB_write_inf (s : Bool) : nanB (Ieee.double.write (.infinity s)) = false := nanB_word s _ (Nat.le_refl _)
theorem nanB_write (d : Datum) (h : d.isNaN = false) : nanB (Ieee.double.write d) = false := by
  cases d with
  | number s m i => exact nanB_write_number s m i
  | infinity s => exact nanB_write_inf s
  | nan s f => simp [Datum.isNaN] at h

theorem sum_num (a b d : Datum) (h : a.sum b = some d) : d.isNaN = false := by
  unfold Datum.sum at h
  split at h <;> first | (cases h; done) | skip
  · split at h
    · cases h; rfl
    · cases h
  · cases h; rfl
  · cases h; rfl
  · cases h; rfl
theorem product_num (a b d : Datum) (h : a.product b = some d) : d.isNaN = false := by
  unfold Datum.product at h
  split at h <;> first | (cases h; done) | skip
  · cases h; rfl
  · split at h
    · cases h
    · cases h; rfl
  · split at h
    · cases h
    · cases h; rfl
  · cases h; rfl
theorem quotient_num (n : Nat) (a b d : Datum) (h : a.quotient n b = some d) : d.isNaN = false := by
  unfold Datum.quotient at h
  split at h <;> first | (cases h; done) | skip
  · cases h; rfl
  · cases h; rfl
  · split at h
    · split at h
      · cases h
      · cases h; rfl
    · cases h; rfl

/-- What an operation answers is no NaN. -/
theorem fb_num {op : BinOp} {x y r : Nat} (h : floatBits op .f64 x y = some r) : nanB r = false := by
  unfold floatBits at h
  split at h
  · change (((Ieee.double.read x).sum (Ieee.double.read y)).map Ieee.double.write) = some r at h
    obtain ⟨d, hd, rfl⟩ := Option.map_eq_some_iff.1 h
    exact nanB_write d (sum_num _ _ _ hd)
  · change (((Ieee.double.read x).sum (Ieee.double.read y).opposite).map Ieee.double.write) = some r at h
    obtain ⟨d, hd, rfl⟩ := Option.map_eq_some_iff.1 h
    exact nanB_write d (sum_num _ _ _ hd)
  · change (((Ieee.double.read x).product (Ieee.double.read y)).map Ieee.double.write) = some r at h
    obtain ⟨d, hd, rfl⟩ := Option.map_eq_some_iff.1 h
    exact nanB_write d (product_num _ _ _ hd)
  · change (((Ieee.double.read x).quotient 54 (Ieee.double.read y)).map Ieee.double.write) = some r at h
    obtain ⟨d, hd, rfl⟩ := Option.map_eq_some_iff.1 h
    exact nanB_write d (quotient_num _ _ _ _ hd)
  · cases h

theorem sum_nanL (a b : Datum) (h : a.isNaN = true) : a.sum b = none := by
  cases a <;> simp [Datum.isNaN] at h; rfl
theorem sum_nanR (a b : Datum) (h : b.isNaN = true) : a.sum b = none := by
  cases b <;> simp [Datum.isNaN] at h; cases a <;> rfl
theorem product_nanL (a b : Datum) (h : a.isNaN = true) : a.product b = none := by
  cases a <;> simp [Datum.isNaN] at h; rfl
theorem product_nanR (a b : Datum) (h : b.isNaN = true) : a.product b = none := by
  cases b <;> simp [Datum.isNaN] at h; cases a <;> rfl
theorem quotient_nanL (n : Nat) (a b : Datum) (h : a.isNaN = true) : a.quotient n b = none := by
  cases a <;> simp [Datum.isNaN] at h; rfl
theorem quotient_nanR (n : Nat) (a b : Datum) (h : b.isNaN = true) : a.quotient n b = none := by
  cases b <;> simp [Datum.isNaN] at h; cases a <;> rfl
theorem opposite_nan (a : Datum) : a.opposite.isNaN = a.isNaN := by cases a <;> rfl

theorem fb_nanL (op : BinOp) (x y : Nat) (h : nanB x = true) : floatBits op .f64 x y = none := by
  unfold nanB at h
  unfold floatBits
  split
  · show ((Ieee.double.read x).sum (Ieee.double.read y)).map Ieee.double.write = none
    rw [sum_nanL _ _ h]; rfl
  · show ((Ieee.double.read x).sum (Ieee.double.read y).opposite).map Ieee.double.write = none
    rw [sum_nanL _ _ h]; rfl
  · show ((Ieee.double.read x).product (Ieee.double.read y)).map Ieee.double.write = none
    rw [product_nanL _ _ h]; rfl
  · show ((Ieee.double.read x).quotient 54 (Ieee.double.read y)).map Ieee.double.write = none
    rw [quotient_nanL _ _ _ h]; rfl
  · rfl
theorem fb_nanR (op : BinOp) (x y : Nat) (h : nanB y = true) : floatBits op .f64 x y = none := by
  unfold nanB at h
  unfold floatBits
  split
  · show ((Ieee.double.read x).sum (Ieee.double.read y)).map Ieee.double.write = none
    rw [sum_nanR _ _ h]; rfl
  · show ((Ieee.double.read x).sum (Ieee.double.read y).opposite).map Ieee.double.write = none
    rw [sum_nanR _ _ (by rw [opposite_nan]; exact h)]; rfl
  · show ((Ieee.double.read x).product (Ieee.double.read y)).map Ieee.double.write = none
    rw [product_nanR _ _ h]; rfl
  · show ((Ieee.double.read x).quotient 54 (Ieee.double.read y)).map Ieee.double.write = none
    rw [quotient_nanR _ _ _ h]; rfl
  · rfl

/-- An operation on classes. -/
def fb (op : BinOp) (x y : Option Nat) : Option Nat := x.bind fun a => y.bind fun b => floatBits op .f64 a b
theorem fb_cl (op : BinOp) (x y : Nat) : floatBits op .f64 x y = fb op (cl x) (cl y) := by
  unfold fb cl
  by_cases hx : nanB x = true
  · rw [if_pos hx, fb_nanL _ _ _ hx]; rfl
  · rw [if_neg hx]
    by_cases hy : nanB y = true
    · rw [if_pos hy, fb_nanR _ _ _ hy]; rfl
    · rw [if_neg hy]; rfl

/-- The word that an operation answers in a world, and how often it asks the tape. -/
def fz (op : BinOp) (x y : Nat) (w : World) : Nat :=
  match floatBits op .f64 x y with
  | some r => r
  | none => (Question.nanBits .f64 x y).cut (w.tape w.drawn (.nanBits .f64 x y))
def fk (op : BinOp) (x y : Nat) : Nat :=
  match floatBits op .f64 x y with
  | some _ => 0
  | none => 1

theorem cut_nan (x y t : Nat) : nanB (Question.cut (.nanBits .f64 x y) t) = true := by
  rw [nanB_eq]
  apply decide_eq_true
  unfold Question.cut
  simp only
  have h1 : t / 2 % (2 ^ 52 - 1) < 2 ^ 52 - 1 := Nat.mod_lt _ (by decide)
  generalize t / 2 % (2 ^ 52 - 1) = u at *
  have h2 : t % 2 < 2 := Nat.mod_lt _ (by decide)
  generalize t % 2 = v at *
  rcases (show v = 0 ∨ v = 1 by omega) with rfl | rfl <;> omega

theorem cl_fz (op : BinOp) (x y : Nat) (w : World) : cl (fz op x y w) = fb op (cl x) (cl y) := by
  rw [← fb_cl]
  unfold fz
  cases h : floatBits op .f64 x y with
  | some r => exact cl_num (fb_num h)
  | none => exact cl_nan (cut_nan _ _ _)

theorem cut_lt (x y t : Nat) : Question.cut (.nanBits .f64 x y) t < 18446744073709551616 := by
  unfold Question.cut
  simp only
  have h1 : t / 2 % (2 ^ 52 - 1) < 2 ^ 52 - 1 := Nat.mod_lt _ (by decide)
  have h2 : t % 2 < 2 := Nat.mod_lt _ (by decide)
  omega
theorem fb_lt {op : BinOp} {x y r : Nat} (h : floatBits op .f64 x y = some r) : r < 18446744073709551616 := by
  have := floatBits_wf h
  simpa [Lit.wf] using this
theorem fz_lt (op : BinOp) (x y : Nat) (w : World) : fz op x y w < 18446744073709551616 := by
  unfold fz
  cases h : floatBits op .f64 x y with
  | some r => exact fb_lt h
  | none => exact cut_lt _ _ _

section
variable {P : Program}
theorem run_fl (op : BinOp) (hop : op = .add ∨ op = .sub ∨ op = .mul ∨ op = .quo) (t : TypeId) (x y : Nat) (w : World) :
    (binOp op t (.float .f64 x) (.float .f64 y)).run P w = .ok (.float .f64 (fz op x y w)) (w.drewN (fk op x y)) := by
  cases h : floatBits op .f64 x y with
  | some r =>
    have e1 : fz op x y w = r := by unfold fz; rw [h]
    have e2 : fk op x y = 0 := by unfold fk; rw [h]
    rw [e1, e2]
    exact run_float_arith w op t .f64 x y r h
  | none =>
    have e2 : fk op x y = 1 := by unfold fk; rw [h]
    rw [e2]
    unfold fz
    rw [h]
    unfold floatBits at h
    rcases hop with rfl | rfl | rfl | rfl
    all_goals
      simp only at h
      simp [binOp, Op.floatArith, h, Question.forced]
      rfl
theorem run_fadd (t : TypeId) (x y : Nat) (w : World) : (binOp .add t (.float .f64 x) (.float .f64 y)).run P w = .ok (.float .f64 (fz .add x y w)) (w.drewN (fk .add x y)) := run_fl .add (.inl rfl) t x y w
theorem run_fsub (t : TypeId) (x y : Nat) (w : World) : (binOp .sub t (.float .f64 x) (.float .f64 y)).run P w = .ok (.float .f64 (fz .sub x y w)) (w.drewN (fk .sub x y)) := run_fl .sub (.inr (.inl rfl)) t x y w
theorem run_fmul (t : TypeId) (x y : Nat) (w : World) : (binOp .mul t (.float .f64 x) (.float .f64 y)).run P w = .ok (.float .f64 (fz .mul x y w)) (w.drewN (fk .mul x y)) := run_fl .mul (.inr (.inr (.inl rfl))) t x y w
theorem run_fquo (t : TypeId) (x y : Nat) (w : World) : (binOp .quo t (.float .f64 x) (.float .f64 y)).run P w = .ok (.float .f64 (fz .quo x y w)) (w.drewN (fk .quo x y)) := run_fl .quo (.inr (.inr (.inr rfl))) t x y w
end

/-- How two classes stand. -/
def fo (x y : Option Nat) : Option Ordering := x.bind fun a => y.bind fun b => Ieee.double.order a b
theorem order_nanL (a b : Datum) (h : a.isNaN = true) : a.order b = none := by
  cases a <;> simp [Datum.isNaN] at h; rfl
theorem order_nanR (a b : Datum) (h : b.isNaN = true) : a.order b = none := by
  cases b <;> simp [Datum.isNaN] at h; cases a <;> rfl
theorem fo_cl (x y : Nat) : FloatKind.f64.format.order x y = fo (cl x) (cl y) := by
  unfold fo cl
  show Ieee.double.order x y = _
  by_cases hx : nanB x = true
  · rw [if_pos hx]
    exact order_nanL _ _ hx
  · rw [if_neg hx]
    by_cases hy : nanB y = true
    · rw [if_pos hy]
      exact order_nanR _ _ hy
    · rw [if_neg hy]; rfl
theorem fo_self (x : Nat) : FloatKind.f64.format.order x x = if nanB x = true then none else some .eq := by
  show Ieee.double.order x x = _
  unfold Ieee.Format.order nanB
  cases Ieee.double.read x with
  | nan s f => rfl
  | infinity s => cases s <;> rfl
  | number s m i =>
    simp [Datum.order, Datum.isNaN]
/-- The absolute value, of a word and of a class. -/
def ab (c : Option Nat) : Option Nat := c.map fun x => x % 9223372036854775808
theorem cl_ab (x : Nat) : cl (x % 9223372036854775808) = ab (cl x) := by
  unfold cl ab
  have e : nanB (x % 9223372036854775808) = nanB x := by
    rw [nanB_eq, nanB_eq]
    rw [show (2 : Nat) ^ 63 = 9223372036854775808 from rfl, Nat.mod_mod]
  rw [e]
  split <;> rfl
/-- Is it infinite? -/
def infB (c : Option Nat) : Bool := fo (ab c) (some 9218868437227405311) == some .gt
/-- The class of a number that is no NaN, by looking. -/
theorem cl_lit (n : Nat) (h : n % 9223372036854775808 ≤ 0x7ff0000000000000) : cl n = some n := by
  apply cl_num
  rw [nanB_eq]
  exact decide_eq_false (by rw [show (2 : Nat) ^ 63 = 9223372036854775808 from rfl]; omega)
/-- alike: both NaN, or one word. -/
theorem alike_of {a b : Nat} (h : cl a = cl b) : (nanB a = true ∧ nanB b = true) ∨ a = b := by
  unfold cl at h
  split at h
  · split at h
    · exact .inl ⟨by assumption, by assumption⟩
    · cases h
  · split at h
    · cases h
    · exact .inr (Option.some.inj h)
end Go.Proofs.YtebjklppbkkinaaGreatDoor.F
/- Finite floats as whole numbers of units of 2 ^ -1074: sums and differences. -/
namespace Go.Proofs.YtebjklppbkkinaaGreatDoor.F
open Ieee

theorem cut0 (way : Toward) (neg : Bool) (n : Nat) : way.cut neg n 0 = n := by
  unfold Toward.cut
  simp only [Nat.zero_min, Nat.shiftLeft_zero, Nat.div_one, Nat.mod_one]
  cases way <;> simp

theorem log2_shl (n k : Nat) (hn : n ≠ 0) : (n <<< k).log2 = n.log2 + k := by
  rw [Nat.shiftLeft_eq]
  have h1 := Nat.log2_self_le hn
  have h2 := Nat.lt_log2_self (n := n)
  have hp : 0 < 2 ^ k := Nat.two_pow_pos k
  refine (Nat.log2_eq_iff (Nat.mul_ne_zero hn (by omega))).2 ⟨?_, ?_⟩
  · rw [Nat.pow_add]
    exact Nat.mul_le_mul_right _ h1
  · rw [show n.log2 + k + 1 = (n.log2 + 1) + k by omega, Nat.pow_add]
    exact Nat.mul_lt_mul_of_pos_right h2 hp

theorem cut_scale (neg : Bool) (n drop k : Nat) (hn : n ≠ 0) : Toward.even.cut neg (n <<< k) (drop + k) = Toward.even.cut neg n drop := by
  unfold Toward.cut
  have hp : 0 < 2 ^ k := Nat.two_pow_pos k
  have e1 : min (drop + k) ((n <<< k).log2 + 2) = min drop (n.log2 + 2) + k := by rw [log2_shl n k hn]; omega
  simp only [e1]
  generalize min drop (n.log2 + 2) = d
  have e2 : (1 : Nat) <<< (d + k) = (1 <<< d) * 2 ^ k := by rw [Nat.shiftLeft_eq, Nat.shiftLeft_eq, Nat.pow_add, Nat.mul_assoc]
  have e3 : (n <<< k) / (1 <<< (d + k)) = n / 1 <<< d := by
    rw [e2, Nat.shiftLeft_eq, Nat.mul_div_mul_right _ _ hp]
  have e4 : (n <<< k) % (1 <<< (d + k)) = (n % 1 <<< d) * 2 ^ k := by
    rw [e2, Nat.shiftLeft_eq, Nat.mul_mod_mul_right]
  rw [e3, e4, e2]
  generalize 1 <<< d = gap
  generalize n % gap = rest
  have e5 : decide (gap * 2 ^ k < 2 * (rest * 2 ^ k)) = decide (gap < 2 * rest) := by
    rw [← Nat.mul_assoc]
    exact decide_eq_decide.2 (Nat.mul_lt_mul_right hp)
  have e6 : (gap * 2 ^ k == 2 * (rest * 2 ^ k)) = (gap == 2 * rest) := by
    rw [← Nat.mul_assoc]
    apply Bool.eq_iff_iff.2
    simp only [beq_iff_eq]
    exact Nat.mul_left_inj (by omega)
  rw [e5, e6]

theorem cut_exact (neg : Bool) (n k : Nat) (hn : n ≠ 0) : Toward.even.cut neg (n <<< k) k = n := by
  have := cut_scale neg n 0 k hn
  rw [Nat.zero_add, cut0] at this
  exact this

/-- A number written with other digits is the same number. -/
theorem nearest_shift (neg : Bool) (mag k : Nat) (place : Int) : Ieee.double.nearest neg (mag <<< k) place = Ieee.double.nearest neg mag (place + k) := by
  unfold Format.nearest
  by_cases hm : mag = 0
  · subst hm
    rw [Nat.zero_shiftLeft, if_pos rfl, if_pos rfl]
  have hs : mag <<< k ≠ 0 := by
    rw [Nat.shiftLeft_eq]
    exact Nat.mul_ne_zero hm (Nat.ne_of_gt (Nat.two_pow_pos k))
  rw [if_neg hm, if_neg hs]
  have e1 : place + ((mag <<< k).log2 : Int) = place + k + (mag.log2 : Int) := by rw [log2_shl mag k hm]; omega
  simp only [e1]
  generalize max (place + k + (mag.log2 : Int) - (Ieee.double.fractionBits : Int)) Ieee.double.leastPlace = last
  have key : Toward.even.cut neg ((mag <<< k) <<< (place - last).toNat) (last - place).toNat = Toward.even.cut neg (mag <<< (place + k - last).toNat) (last - (place + k)).toNat := by
    rw [← Nat.shiftLeft_add]
    by_cases h1 : last ≤ place
    · rw [show (last - place).toNat = 0 by omega, show (last - (place + k)).toNat = 0 by omega, cut0, cut0]
      congr 1; omega
    · by_cases h2 : last ≤ place + k
      · rw [show (last - (place + k)).toNat = 0 by omega, cut0]
        rw [show k + (place - last).toNat = (place + k - last).toNat + (last - place).toNat by omega, Nat.shiftLeft_add]
        apply cut_exact
        rw [Nat.shiftLeft_eq]
        exact Nat.mul_ne_zero hm (Nat.ne_of_gt (Nat.two_pow_pos _))
      · rw [show (place + k - last).toNat = 0 by omega, Nat.shiftLeft_zero, show k + (place - last).toNat = k by omega,
          show (last - place).toNat = (last - (place + k)).toNat + k by omega]
        exact cut_scale neg mag _ k hm
  rw [key]

/-- The word nearest to z units. -/
def wr (z : Int) (s : Bool) : Nat := Ieee.double.nearest (if z = 0 then s else decide (z < 0)) z.natAbs (-1074)

theorem signed_eq (s : Bool) (m k : Nat) : Ieee.signed s m k = (if s = true then -1 else 1) * ((m * 2 ^ k : Nat) : Int) := by
  unfold Ieee.signed
  rw [Nat.shiftLeft_eq]
  cases s <;> simp
theorem signed_add (s : Bool) (m a k : Nat) : Ieee.signed s m (a + k) = Ieee.signed s m a * ((2 ^ k : Nat) : Int) := by
  rw [signed_eq, signed_eq, Nat.pow_add, ← Nat.mul_assoc, Int.natCast_mul, Int.mul_assoc]
theorem signed_not (s : Bool) (m k : Nat) : Ieee.signed (!s) m k = -Ieee.signed s m k := by
  rw [signed_eq, signed_eq]
  cases s <;> simp

/-- How many units a finite float is. -/
def un (s : Bool) (m : Nat) (i : Int) : Int := Ieee.signed s m (i + 1074).toNat

theorem sum_fin (s t : Bool) (m n : Nat) (i j : Int) (hi : -1074 ≤ i) (hj : -1074 ≤ j) :
    ((Datum.number s m i).sum (.number t n j)).map Ieee.double.write = some (wr (un s m i + un t n j) (s && t)) := by
  simp only [Datum.sum, Option.map_some, Option.some.injEq]
  show Ieee.double.nearest _ _ _ = _
  unfold wr un
  obtain ⟨b, hb⟩ : ∃ b, b = min i j := ⟨_, rfl⟩
  rw [← hb]
  obtain ⟨k, hk⟩ : ∃ k, k = (b + 1074).toNat := ⟨_, rfl⟩
  have hp : (0 : Int) < ((2 ^ k : Nat) : Int) := by have := Nat.two_pow_pos k; omega
  have e1 : Ieee.signed s m (i + 1074).toNat = Ieee.signed s m (i - b).toNat * ((2 ^ k : Nat) : Int) := by
    rw [← signed_add]; congr 1; omega
  have e2 : Ieee.signed t n (j + 1074).toNat = Ieee.signed t n (j - b).toNat * ((2 ^ k : Nat) : Int) := by
    rw [← signed_add]; congr 1; omega
  rw [e1, e2, ← Int.add_mul]
  generalize Ieee.signed s m (i - b).toNat + Ieee.signed t n (j - b).toNat = total
  have e3 : (total * ((2 ^ k : Nat) : Int)).natAbs = total.natAbs <<< k := by
    rw [Int.natAbs_mul, Nat.shiftLeft_eq]; rfl
  have e4 : (if total * ((2 ^ k : Nat) : Int) = 0 then s && t else decide (total * ((2 ^ k : Nat) : Int) < 0)) = (if total = 0 then s && t else decide (total < 0)) := by
    by_cases h : total = 0
    · rw [h, Int.zero_mul]
    · rw [if_neg h, if_neg (Int.mul_ne_zero h (by omega))]
      apply decide_eq_decide.2
      constructor
      · intro h'
        rcases Int.lt_trichotomy total 0 with h1 | h1 | h1
        · exact h1
        · exact absurd h1 h
        · have := Int.mul_pos h1 hp; omega
      · intro h'
        exact Int.mul_neg_of_neg_of_pos h' hp
  rw [e3, e4, nearest_shift]
  congr 1
  omega

/-- Reading a word that is no NaN and no infinity. -/
theorem read_place (x : Nat) (s : Bool) (m : Nat) (i : Int) (h : Ieee.double.read x = .number s m i) : -1074 ≤ i ∧ m < 2 ^ 53 := by
  unfold Ieee.Format.read at h
  have hb : Ieee.double.binade = 2 ^ 52 := rfl
  have hl : Ieee.double.leastPlace = -1074 := by decide
  simp only [hb, hl] at h
  split at h
  · rename_i hlt; cases h; omega
  · split at h
    · cases h
      have : x % Ieee.double.signWeight % 2 ^ 52 < 2 ^ 52 := Nat.mod_lt _ (by decide)
      omega
    · split at h <;> cases h

theorem add_fin (x y : Nat) (s t : Bool) (m n : Nat) (i j : Int) (hx : Ieee.double.read x = .number s m i) (hy : Ieee.double.read y = .number t n j) :
    floatBits .add .f64 x y = some (wr (un s m i + un t n j) (s && t)) := by
  show ((Ieee.double.read x).sum (Ieee.double.read y)).map Ieee.double.write = _
  rw [hx, hy]
  exact sum_fin s t m n i j (read_place x s m i hx).1 (read_place y t n j hy).1
theorem sub_fin (x y : Nat) (s t : Bool) (m n : Nat) (i j : Int) (hx : Ieee.double.read x = .number s m i) (hy : Ieee.double.read y = .number t n j) :
    floatBits .sub .f64 x y = some (wr (un s m i - un t n j) (s && !t)) := by
  show ((Ieee.double.read x).sum (Ieee.double.read y).opposite).map Ieee.double.write = _
  rw [hx, hy]
  show ((Datum.number s m i).sum (.number (!t) n j)).map Ieee.double.write = _
  rw [sum_fin s (!t) m n i j (read_place x s m i hx).1 (read_place y t n j hy).1]
  unfold un
  rw [signed_not, Int.sub_eq_add_neg]

/-- A number of at most 53 digits, not too great, is read back as it was written. -/
theorem read_nearest (neg : Bool) (mag : Nat) (place : Int) (h0 : mag ≠ 0) (hm : mag < 2 ^ 53) (hp : -1074 ≤ place) (ht : place ≤ 900) :
    ∃ k : Nat, (k : Int) ≤ place + 1074 ∧ Ieee.double.read (Ieee.double.nearest neg mag place) = .number neg (mag <<< k) (place - k) ∧ (Ieee.double.nearest neg mag place) % 2 ^ 63 < 0x7ff0000000000000 := by
  have hb : Ieee.double.binade = 2 ^ 52 := rfl
  have hl : Ieee.double.leastPlace = -1074 := by decide
  have hf : (Ieee.double.fractionBits : Int) = 52 := rfl
  have hi : Ieee.double.infRung = 0x7ff0000000000000 := by decide
  have hsw : Ieee.double.signWeight = 2 ^ 63 := rfl
  have hlog : mag.log2 ≤ 52 := by
    have := (Nat.log2_lt h0).2 hm
    omega
  unfold Format.nearest
  rw [if_neg h0]
  simp only [hb, hl, hf, hi]
  obtain ⟨last, hlast⟩ : ∃ last, last = max (place + (mag.log2 : Int) - 52) (-1074) := ⟨_, rfl⟩
  rw [← hlast]
  have h1 : last ≤ place := by omega
  obtain ⟨k, hk⟩ : ∃ k : Nat, k = (place - last).toNat := ⟨_, rfl⟩
  rw [show (last - place).toNat = 0 by omega, cut0, ← hk]
  refine ⟨k, by omega, ?_⟩
  have hlk : (mag <<< k).log2 = mag.log2 + k := log2_shl mag k h0
  have hks : mag <<< k ≠ 0 := by
    rw [Nat.shiftLeft_eq]
    exact Nat.mul_ne_zero h0 (Nat.ne_of_gt (Nat.two_pow_pos k))
  have hlt : mag <<< k < 2 ^ 53 := (Nat.log2_lt hks).1 (by rw [hlk]; omega)
  have hge : last ≠ -1074 → 2 ^ 52 ≤ mag <<< k := fun hne => by
    have h3 : (mag <<< k).log2 = 52 := by rw [hlk]; omega
    have := Nat.log2_self_le hks
    rw [h3] at this
    exact this
  have hpl : place - (k : Int) = last := by omega
  rw [hpl]
  generalize mag <<< k = q at *
  obtain ⟨u, hu⟩ : ∃ u : Nat, u = (last - -1074).toNat := ⟨_, rfl⟩
  rw [← hu]
  have hu2 : u ≤ 1974 := by omega
  rw [Nat.min_eq_left (by omega)]
  have hr : (Ieee.double.word neg (u * 2 ^ 52 + q)) % 2 ^ 63 = u * 2 ^ 52 + q := by
    unfold Format.word
    rw [hsw]
    cases neg <;> simp <;> omega
  have hn : ((Ieee.double.word neg (u * 2 ^ 52 + q)) / 2 ^ 63 % 2 == 1) = neg := by
    unfold Format.word
    rw [hsw]
    cases neg
    · simp; omega
    · have : (2 ^ 63 + (u * 2 ^ 52 + q)) / 2 ^ 63 = 1 := by omega
      simp [this]
  refine ⟨?_, by rw [hr]; omega⟩
  unfold Format.read
  simp only [hsw, hr, hn, hb, hl, hi]
  by_cases hsub : u * 2 ^ 52 + q < 2 ^ 52
  · rw [if_pos hsub]
    have hu0 : u = 0 := by
      rcases Nat.eq_zero_or_pos u with h | h
      · exact h
      · have : 1 * 2 ^ 52 ≤ u * 2 ^ 52 := Nat.mul_le_mul_right _ h
        omega
    subst hu0
    have e4 : (-1074 : Int) = last := by omega
    rw [Nat.zero_mul, Nat.zero_add, e4]
  · rw [if_neg hsub, if_pos (by omega)]
    have hq : 2 ^ 52 ≤ q := by
      by_cases h : last = -1074
      · have hu0 : u = 0 := by omega
        subst hu0
        omega
      · exact hge h
    have e1 : (u * 2 ^ 52 + q) % 2 ^ 52 = q - 2 ^ 52 := by omega
    have e2 : (u * 2 ^ 52 + q) / 2 ^ 52 = u + 1 := by omega
    have e3 : 2 ^ 52 + (q - 2 ^ 52) = q := by omega
    have e4 : (-1074 : Int) + ((u + 1 - 1 : Nat) : Int) = last := by omega
    rw [e1, e2, e3, e4]
end Go.Proofs.YtebjklppbkkinaaGreatDoor.F
/- Rounding keeps order; exact steps by powers of two. -/
namespace Go.Proofs.YtebjklppbkkinaaGreatDoor.F
open Ieee

/-- Rounding n / 2 ^ d to the nearest, between two to the even one. -/
def rn (n d : Nat) : Nat := n / 2 ^ d + (if 2 ^ d < 2 * (n % 2 ^ d) ∨ (2 ^ d = 2 * (n % 2 ^ d) ∧ n / 2 ^ d % 2 = 1) then 1 else 0)
theorem cut_form (neg : Bool) (n d : Nat) : Toward.even.cut neg n d = n / (1 <<< min d (n.log2 + 2)) + (decide (1 <<< min d (n.log2 + 2) < 2 * (n % (1 <<< min d (n.log2 + 2)))) || ((1 <<< min d (n.log2 + 2) == 2 * (n % (1 <<< min d (n.log2 + 2)))) && (n / (1 <<< min d (n.log2 + 2)) % 2 == 1))).toNat := rfl
theorem cut_rn (neg : Bool) (n d : Nat) : Toward.even.cut neg n d = rn n d := by
  have hlog := Nat.lt_log2_self (n := n)
  rw [cut_form]
  unfold rn
  by_cases h : d ≤ n.log2 + 2
  · have e : (1 : Nat) <<< min d (n.log2 + 2) = 2 ^ d := by rw [Nat.min_eq_left h, Nat.shiftLeft_eq, Nat.one_mul]
    rw [e]
    generalize n / 2 ^ d = q
    generalize n % 2 ^ d = r
    generalize 2 ^ d = g
    by_cases h1 : g < 2 * r
    · rw [if_pos (.inl h1), decide_eq_true h1]
      rfl
    · rw [decide_eq_false h1]
      by_cases h3 : g = 2 * r
      · by_cases h4 : q % 2 = 1
        · rw [if_pos (.inr ⟨h3, h4⟩), beq_iff_eq.2 h3, beq_iff_eq.2 h4]
          rfl
        · rw [if_neg (by rintro (h | h); exact h1 h; exact h4 h.2), beq_eq_false_iff_ne.2 h4, Bool.and_false]
          rfl
      · rw [if_neg (by rintro (h | h); exact h1 h; exact h3 h.1), beq_eq_false_iff_ne.2 h3]
        rfl
  · have e : (1 : Nat) <<< min d (n.log2 + 2) = 2 ^ (n.log2 + 2) := by rw [Nat.min_eq_right (by omega), Nat.shiftLeft_eq, Nat.one_mul]
    rw [e]
    have h1 : n < 2 ^ (n.log2 + 1) := hlog
    have h2 : 2 ^ (n.log2 + 2) = 2 * 2 ^ (n.log2 + 1) := by rw [Nat.pow_succ]; omega
    have h3 : 2 ^ (n.log2 + 2) ≤ 2 ^ d := Nat.pow_le_pow_right (by decide) (by omega)
    have h4 : 2 ^ (n.log2 + 2 + 1) ≤ 2 ^ d := Nat.pow_le_pow_right (by decide) (by omega)
    have h5 : 2 ^ (n.log2 + 2 + 1) = 2 * 2 ^ (n.log2 + 2) := by rw [Nat.pow_succ]; omega
    rw [Nat.div_eq_of_lt (show n < 2 ^ (n.log2 + 2) by omega), Nat.mod_eq_of_lt (show n < 2 ^ (n.log2 + 2) by omega), Nat.div_eq_of_lt (show n < 2 ^ d by omega), Nat.mod_eq_of_lt (show n < 2 ^ d by omega)]
    rw [if_neg (by omega), decide_eq_false (show ¬ 2 ^ (n.log2 + 2) < 2 * n by omega), Bool.false_or, Nat.zero_mod]
    rw [show ((0 : Nat) == 1) = false from rfl, Bool.and_false]
    rfl
theorem rn_mono (a b d : Nat) (h : a ≤ b) : rn a d ≤ rn b d := by
  unfold rn
  have hp := Nat.two_pow_pos d
  have h1 : a / 2 ^ d ≤ b / 2 ^ d := Nat.div_le_div_right h
  have ha := Nat.div_add_mod a (2 ^ d)
  have hb := Nat.div_add_mod b (2 ^ d)
  by_cases he : a / 2 ^ d = b / 2 ^ d
  · rw [he] at ha ⊢
    generalize 2 ^ d * (b / 2 ^ d) = t at *
    generalize a % 2 ^ d = r at *
    generalize b % 2 ^ d = s at *
    generalize 2 ^ d = g at *
    split <;> split <;> omega
  · split <;> split <;> omega
theorem rn_le (n d : Nat) : rn n d ≤ n / 2 ^ d + 1 := by
  unfold rn
  split <;> omega
theorem rn_ge (n d : Nat) : n / 2 ^ d ≤ rn n d := by
  unfold rn
  omega

/-- The place of the last digit that is kept. -/
def lst (mag : Nat) (place : Int) : Int := max (place + (mag.log2 : Int) - (Ieee.double.fractionBits : Int)) Ieee.double.leastPlace
theorem lst_eq (mag : Nat) (place : Int) : lst mag place = max (place + (mag.log2 : Int) - 52) (-1074) := by
  have hl : Ieee.double.leastPlace = -1074 := by decide
  have hf : (Ieee.double.fractionBits : Int) = 52 := rfl
  unfold lst
  rw [hl, hf]
/-- The rung of a number. -/
def rung (mag : Nat) (place : Int) : Nat := min ((lst mag place - Ieee.double.leastPlace).toNat * Ieee.double.binade + Toward.even.cut false (mag <<< (place - lst mag place).toNat) (lst mag place - place).toNat) Ieee.double.infRung
theorem nearest_rung (s : Bool) (mag : Nat) (place : Int) (h : mag ≠ 0) : Ieee.double.nearest s mag place = Ieee.double.word s (rung mag place) := by
  unfold Format.nearest
  rw [if_neg h]
  have e : Toward.even.cut s (mag <<< (place - lst mag place).toNat) (lst mag place - place).toNat = Toward.even.cut false (mag <<< (place - lst mag place).toNat) (lst mag place - place).toNat := by rw [cut_rn, cut_rn]
  unfold rung
  rw [← e]
  rfl
theorem rung_eq (mag : Nat) (place : Int) : rung mag place = min ((lst mag place + 1074).toNat * 2 ^ 52 + rn (mag <<< (place - lst mag place).toNat) (lst mag place - place).toNat) 0x7ff0000000000000 := by
  have hb : Ieee.double.binade = 2 ^ 52 := rfl
  have hl : Ieee.double.leastPlace = -1074 := by decide
  have hi : Ieee.double.infRung = 0x7ff0000000000000 := by decide
  unfold rung
  rw [hb, hl, hi, cut_rn, Int.sub_neg]
theorem word_pos (r : Nat) : Ieee.double.word false r = r := if_neg (by decide)
theorem rung_shift (mag k : Nat) (place : Int) (h : mag ≠ 0) : rung (mag <<< k) place = rung mag (place + k) := by
  have hs : mag <<< k ≠ 0 := by
    rw [Nat.shiftLeft_eq]
    exact Nat.mul_ne_zero h (Nat.ne_of_gt (Nat.two_pow_pos k))
  have := nearest_shift false mag k place
  rw [nearest_rung _ _ _ h, nearest_rung _ _ _ hs, word_pos, word_pos] at this
  exact this

theorem nz_shl (n k : Nat) (hn : n ≠ 0) : n <<< k ≠ 0 := by
  rw [Nat.shiftLeft_eq]
  exact Nat.mul_ne_zero hn (Nat.ne_of_gt (Nat.two_pow_pos k))
theorem pow_le (a b : Nat) (h : a ≤ b) : 2 ^ a ≤ 2 ^ b := Nat.pow_le_pow_right (by decide) h
/-- What is kept has at most 53 digits. -/
theorem kept_lt (n : Nat) (place l : Int) (D : Nat) (hD : D = 53) (hl : place + (n.log2 : Int) - 52 ≤ l) : n <<< (place - l).toNat / 2 ^ (l - place).toNat < 2 ^ D := by
  have hnlt := Nat.lt_log2_self (n := n)
  refine Nat.div_lt_of_lt_mul ?_
  rw [Nat.shiftLeft_eq, ← Nat.pow_add]
  have h1 : n * 2 ^ (place - l).toNat < 2 ^ (n.log2 + 1) * 2 ^ (place - l).toNat := Nat.mul_lt_mul_of_pos_right hnlt (Nat.two_pow_pos _)
  rw [← Nat.pow_add] at h1
  exact Nat.lt_of_lt_of_le h1 (pow_le _ _ (by omega))
/-- .. and at least that many above the least ones. -/
theorem kept_ge (n : Nat) (place l : Int) (D : Nat) (hD : D = 52) (hn : n ≠ 0) (hl : l = place + (n.log2 : Int) - 52) : 2 ^ D ≤ n <<< (place - l).toNat / 2 ^ (l - place).toNat := by
  have hble := Nat.log2_self_le hn
  rw [Nat.le_div_iff_mul_le (Nat.two_pow_pos _), ← Nat.pow_add, Nat.shiftLeft_eq]
  have h1 : 2 ^ n.log2 * 2 ^ (place - l).toNat ≤ n * 2 ^ (place - l).toNat := Nat.mul_le_mul_right _ hble
  rw [← Nat.pow_add] at h1
  exact Nat.le_trans (pow_le _ _ (by omega)) h1

theorem rung_mono (a b : Nat) (place : Int) (ha : a ≠ 0) (h : a ≤ b) : rung a place ≤ rung b place := by
  have hb : b ≠ 0 := by omega
  have hlog : a.log2 ≤ b.log2 := (Nat.le_log2 hb).2 (Nat.le_trans (Nat.log2_self_le ha) h)
  have hla := lst_eq a place
  have hlb := lst_eq b place
  rw [rung_eq, rung_eq]
  generalize lst a place = la at *
  generalize lst b place = lb at *
  refine Nat.le_min.2 ⟨Nat.le_trans (Nat.min_le_left _ _) ?_, Nat.min_le_right _ _⟩
  by_cases he : la = lb
  · rw [he]
    refine Nat.add_le_add_left (rn_mono _ _ _ ?_) _
    rw [Nat.shiftLeft_eq, Nat.shiftLeft_eq]
    exact Nat.mul_le_mul_right _ h
  · have k1 := kept_lt a place la 53 rfl (by omega)
    have k2 := rn_le (a <<< (place - la).toNat) (la - place).toNat
    have k3 := rn_ge (b <<< (place - lb).toNat) (lb - place).toNat
    have k4 := kept_ge b place lb 52 rfl hb (by omega)
    have h3 : (la + 1074).toNat + 1 ≤ (lb + 1074).toNat := by omega
    clear hla hlb he hlog h
    generalize (la + 1074).toNat = ua at *
    generalize (lb + 1074).toNat = ub at *
    generalize rn (a <<< (place - la).toNat) (la - place).toNat = ra at *
    generalize rn (b <<< (place - lb).toNat) (lb - place).toNat = rb at *
    generalize a <<< (place - la).toNat / 2 ^ (la - place).toNat = qa at *
    generalize b <<< (place - lb).toNat / 2 ^ (lb - place).toNat = qb at *
    have h4 : (ua + 1) * 2 ^ 52 ≤ ub * 2 ^ 52 := Nat.mul_le_mul_right _ h3
    omega
end Go.Proofs.YtebjklppbkkinaaGreatDoor.F
