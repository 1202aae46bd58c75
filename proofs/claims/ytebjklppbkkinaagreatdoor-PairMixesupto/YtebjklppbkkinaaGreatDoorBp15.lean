/- A bundle of texts. -/
import Derived.Test.YtebjklppbkkinaaGreatDoorBp13
import Derived.Laws.OwnMore
import Derived.Laws.MakeOwn
import Derived.Laws.AppendOwn
import Derived.Deep.RegionLaw
import Derived.Maps.AppendAt
import Derived.Deep.QuietTactic
import Derived.BigQuiet
import Derived.Test.YtebjklppbkkinaaGreatDoorBp14
/- Rows of floats that a call makes: append, make, store. -/
namespace Go.Proofs.YtebjklppbkkinaaGreatDoor.F
open Go.RowKit

def fc (l : List Nat) : List Value := l.map (Value.float .f64)
theorem fc_len (l : List Nat) : (fc l).length = l.length := by simp [fc]
theorem fc_app (l m : List Nat) : fc (l ++ m) = fc l ++ fc m := by simp [fc]
theorem info23 : (Tryz.prog.info? 23).map (fun i => (i.zero, i.size, i.bytes)) = some (some (.float .f64 0), 1, 8) := by kernel_rfl

/-- A row of the call's own. -/
def Fr (w : World) (S : Nat) (v : Value) (ys : List Nat) : Prop := w.ownsRow S 23 1 v ys.length (fc ys)
theorem Fr.nil (w : World) (S : Nat) : Fr w S (.slice none 0 0) [] := World.ownsRow_nil w S 23 1
theorem Fr.drew {w : World} {S : Nat} {v : Value} {ys : List Nat} (h : Fr w S v ys) (k : Nat) : Fr (w.drewN k) S v ys := h
theorem Fr.below {w w' : World} {S : Nat} {v : Value} {ys : List Nat} (h : Fr w S v ys) (hb : Below w.heap.size w w') : Fr w' S v ys := by
  refine ⟨h.1, ?_⟩
  rcases h.2 with h0 | ⟨g, cap, cur, hv, hB, hg, r⟩
  · exact .inl h0
  · exact .inr ⟨g, cap, cur, hv, hB, (hb.block g (Array.getElem?_eq_some_iff.1 hg).1).trans hg, r⟩
/-- .. as a slice. -/
theorem Fr.fm {w : World} {S : Nat} {v : Value} {ys : List Nat} (h : Fr w S v ys) : ∃ a c, v = .slice a ys.length c ∧ Fm w a ys := by
  have hc := fun g => h.cells (g := g)
  rcases h.2 with ⟨rfl, h0⟩ | ⟨g, c, cur, rfl, _, hg, _⟩
  · have hl : ys = [] := List.eq_nil_of_length_eq_zero h0
    subst hl
    exact ⟨none, 0, rfl, .inl rfl⟩
  · refine ⟨_, c, rfl, .inr ⟨g, 0, rfl, (Array.getElem?_eq_some_iff.1 hg).1, fun j hj => ?_⟩⟩
    have := hc g rfl j (.float .f64 (ys.getD j 0)) (by simp [fc, List.getD, hj])
    rw [Go.WideShapes.add_plain] at this
    exact this

theorem wpList_append_run {P : Program} {ops : Array Oper} {rest : List Oper} {o : Oper} {a : Act} {w w' : World} {v' : Value} {Q : Exit → Act → World → Prop} (hw : Region.wanted o (yielded ops a.tmps) = true) (s x : Operand) (t tx : TypeId)
    (ho : o.op = .call { callee := .builtin .append, args := #[s, x], argTypes := #[t, tx] }) (vs vx : Value) (hs : a.eval s = vs) (hx : a.eval x = vx)
    (hr : (Builtin.append_ #[t, tx] o.type #[vs, vx]).run P w = .ok v' w') (h : wpList P ops Q rest (a.put o.dst v') w') : wpList P ops Q (o :: rest) a w := by
  unfold wpList
  rw [if_pos hw]
  left
  unfold Oper.wp execOp
  simp only [ho, resolve, invoke, builtin, Sem.run_bind, Sem.run_pure, Result.andThen_ok, List.map_toArray, List.map_cons, List.map_nil, hs, hx, hr]
  exact h

/-- The store of a float. -/
theorem run_store_float {P : Program} (a : Addr) (m : Mode) (n : Nat) (w : World) : (store a (.float .f64 n) m).run P w = stored P w a (.float .f64 n) m := run_store P w a _ m rfl

/-- A store into such a row. -/
theorem Fr.set {w : World} {S g c : Nat} {ys : List Nat} (h : Fr w S (.slice (some ⟨g, 0, none⟩) ys.length c) ys) (j x : Nat) : Fr (w.setCell ⟨g, j, none⟩ (.float .f64 x)) S (.slice (some ⟨g, 0, none⟩) ys.length c) (ys.set j x) := by
  have := (World.ownsRow.stored h j (.float .f64 x)).1
  unfold Fr
  rw [List.length_set, show fc (ys.set j x) = (fc ys).set j (.float .f64 x) by simp [fc, List.map_set]]
  exact this
theorem Fr.cell {w : World} {S g c : Nat} {ys : List Nat} (h : Fr w S (.slice (some ⟨g, 0, none⟩) ys.length c) ys) (j : Nat) (hj : j < ys.length) : w.cell? ⟨g, j, none⟩ = some (.float .f64 (ys.getD j 0)) := by
  rw [World.ownsRow.cellAt h j (by omega)]
  simp [fc, List.getD, hj]
theorem Fr.froz {w : World} {S g c : Nat} {ys : List Nat} (h : Fr w S (.slice (some ⟨g, 0, none⟩) ys.length c) ys) (j : Nat) : w.frozen? ⟨g, j, none⟩ = false := World.ownsRow.frozenAt h j
theorem Fr.ge {w : World} {S g c : Nat} {ys : List Nat} (h : Fr w S (.slice (some ⟨g, 0, none⟩) ys.length c) ys) : S ≤ g := (World.ownsRow.lt h g rfl).1

/-- Numbers of the classes F 0, F 1, .. -/
def Ls (ys : List Nat) (i : Nat) (F : Nat → Option Nat) : Prop := ∀ j, j < i → cl (ys.getD j 0) = F j ∧ ys.getD j 0 < 18446744073709551616
theorem Ls.nil (ys : List Nat) (F : Nat → Option Nat) : Ls ys 0 F := fun j hj => absurd hj (by omega)
theorem Ls.push {ys : List Nat} {F : Nat → Option Nat} (h : Ls ys ys.length F) (x : Nat) (hx : cl x = F ys.length) (hl : x < 18446744073709551616) : Ls (ys ++ [x]) (ys.length + 1) F := by
  intro j hj
  by_cases h1 : j < ys.length
  · have := h j h1
    simpa [List.getD, List.getElem?_append_left h1] using this
  · obtain rfl : j = ys.length := by omega
    simpa [List.getD] using ⟨hx, hl⟩
theorem Ls.set {ys : List Nat} {i : Nat} {F : Nat → Option Nat} (h : Ls ys i F) (hi : i < ys.length) (x : Nat) (hx : cl x = F i) (hl : x < 18446744073709551616) : Ls (ys.set i x) (i + 1) F := by
  intro j hj
  by_cases h1 : j = i
  · subst h1
    simpa [List.getD, hi] using ⟨hx, hl⟩
  · have := h j (by omega)
    simpa [List.getD, List.getElem?_set_ne (Ne.symm h1)] using this
theorem Ls.cs {ys : List Nat} {F : Nat → Option Nat} (h : Ls ys ys.length F) : cs ys = (List.range ys.length).map F := by
  apply List.ext_getElem
  · simp [cs_len]
  · intro j h1 h2
    rw [cs_len] at h1
    have := (h j h1).1
    simpa [YtebjklppbkkinaaGreatDoor.F.cs, List.getD, h1] using this
theorem Ls.wd {ys : List Nat} {F : Nat → Option Nat} (h : Ls ys ys.length F) : Wd ys := fun j hj => (h j hj).2

/-- The float of a length. -/
def nW (n : Nat) : Nat := floatOfInt .f64 (n : Int)
theorem cvn (n : Nat) (w : World) : (convert 3 23 (.int .i64 (n : Int))).run Tryz.prog w = .ok (.float .f64 (nW n)) w := run_convert_int_float w 3 23 .i64 .f64 n (by rw [Tryz.underlying3]; rfl) Tryz.underlying23
theorem nW_num (n : Nat) : cl (nW n) = some (nW n) := cl_num (nanB_write_number _ _ _)
theorem nW_lt (n : Nat) : nW n < 18446744073709551616 := by
  have := floatOfInt_wf .f64 (n : Int)
  unfold nW
  simpa [Lit.wf] using this

/-- What a function that makes memory answers. -/
def RB (w : World) (c : Option Nat) (r : Ending) (w' : World) : Prop := ∃ z, r = .returned (.float .f64 z) ∧ Below w.heap.size w w' ∧ z < 18446744073709551616 ∧ cl z = c
theorem RF.rb {w : World} {c : Option Nat} {r : Ending} {w' : World} (h : RF w c r w') : RB w c r w' := by
  obtain ⟨z, k, h1, h2, h3, h4⟩ := h
  exact ⟨z, h1, by rw [h2]; exact below_drewN (Below.refl _ _) _, h3, h4⟩

/-- What a function that makes a row of floats answers. -/
def RL (w : World) (N : Nat) (F : Nat → Option Nat) (r : Ending) (w' : World) : Prop := ∃ v ys, r = .returned v ∧ Fr w' w.heap.size v ys ∧ ys.length = N ∧ Ls ys N F ∧ Below w.heap.size w w'
end Go.Proofs.YtebjklppbkkinaaGreatDoor.F
/- Several rows of floats that a call makes side by side. -/
namespace Go.Proofs.YtebjklppbkkinaaGreatDoor.F
open Go.RowKit

/-- The block of a row, if it has one, is of the colour k. -/
def Co (col : Nat → Nat) (k : Nat) (v : Value) : Prop := ∀ g, v.ownBlock = some g → col g = k
theorem Co.nil (col : Nat → Nat) (k : Nat) : Co col k (.slice none 0 0) := fun g h => by simp [Value.ownBlock] at h

end Go.Proofs.YtebjklppbkkinaaGreatDoor.F
/- The square root. -/
namespace Go.Proofs.YtebjklppbkkinaaGreatDoor.F
open Go.RowKit Ieee

def fsq (c : Option Nat) : Option Nat := c.bind fun x => Ieee.double.sqrt x
theorem root_num (n : Nat) (a d : Datum) (h : a.root n = some d) : d.isNaN = false := by
  unfold Datum.root at h
  split at h
  · cases h
  · split at h
    · cases h
    · cases h; rfl
  · split at h
    · cases h; rfl
    · split at h
      · cases h
      · cases h; rfl
theorem sqrt_num {x r : Nat} (h : Ieee.double.sqrt x = some r) : nanB r = false ∧ r < 18446744073709551616 := by
  change (((Ieee.double.read x).root 54).map Ieee.double.write) = some r at h
  obtain ⟨d, hd, rfl⟩ := Option.map_eq_some_iff.1 h
  refine ⟨nanB_write d (root_num _ _ _ hd), ?_⟩
  have : FloatKind.f64.encode d < 18446744073709551616 := by simpa [Lit.wf] using encode_wf .f64 d
  exact this
theorem sqrt_nan {x : Nat} (h : nanB x = true) : Ieee.double.sqrt x = none := by
  unfold nanB at h
  show ((Ieee.double.read x).root 54).map Ieee.double.write = none
  have : (Ieee.double.read x).root 54 = none := by
    generalize Ieee.double.read x = d at *
    cases d <;> simp [Datum.isNaN] at h; rfl
  rw [this]; rfl
theorem sqrtRow (x : Nat) : Extern.MathSqrt.sqrt #[.float .f64 x] = (match FloatKind.f64.format.sqrt x with
    | some r => pure (.float .f64 r)
    | none => do pure (.float .f64 (← choose (.nanBits .f64 x x)))) := rfl
end Go.Proofs.YtebjklppbkkinaaGreatDoor.F
/- Samples: the small functions. -/
namespace Go.Proofs.YtebjklppbkkinaaGreatDoor.F
open Go.RowKit

/-- A sample. -/
structure Smp where
  t : Int
  v : Nat
  s : Bool
/-- Samples in memory. -/
def SAt (w : World) (g o : Nat) (ss : Nat → Smp) (n : Nat) : Prop := ∀ j, j < n → w.cell? ⟨g, o + j * 3, none⟩ = some (.int .i64 (ss j).t) ∧ w.cell? ⟨g, o + j * 3 + 1, none⟩ = some (.float .f64 (ss j).v) ∧ w.cell? ⟨g, o + j * 3 + 2, none⟩ = some (.bool (ss j).s)
def Sml (w : World) (a : Option Addr) (ss : Nat → Smp) (n : Nat) : Prop := n = 0 ∨ ∃ g o, a = some ⟨g, o, none⟩ ∧ g < w.heap.size ∧ SAt w g o ss n
def SW (ss : Nat → Smp) (n : Nat) : Prop := ∀ j, j < n → -9223372036854775808 ≤ (ss j).t ∧ (ss j).t ≤ 9223372036854775807 ∧ (ss j).v < 18446744073709551616
theorem Sml.below {w w' : World} {a : Option Addr} {ss : Nat → Smp} {n : Nat} (h : Sml w a ss n) (hb : Below w.heap.size w w') : Sml w' a ss n := by
  rcases h with h | ⟨g, o, rfl, hg, h⟩
  · exact .inl h
  · refine .inr ⟨g, o, rfl, Nat.lt_of_lt_of_le hg hb.size, fun j hj => ?_⟩
    obtain ⟨h1, h2, h3⟩ := h j hj
    exact ⟨(hb.cell (p := ⟨g, o + j * 3, none⟩) hg).trans h1, (hb.cell (p := ⟨g, o + j * 3 + 1, none⟩) hg).trans h2, (hb.cell (p := ⟨g, o + j * 3 + 2, none⟩) hg).trans h3⟩

/-- A difference of times. -/
def df (a b : Int) : Int := IntKind.i64.wrap (a - b)
theorem df_bd (a b : Int) : -9223372036854775808 ≤ df a b ∧ df a b ≤ 9223372036854775807 := by
  unfold df
  rw [IntKind.wrap_i64]
  omega

/-- The eighth. -/
def rm (d p : Int) : Int := if d.tmod p < 0 then d.tmod p + p else d.tmod p
def eg (d p : Int) : Int := (8 * rm d p).tdiv p
theorem tm_low (d p : Int) (hp : 1 ≤ p) : -p < d.tmod p := by
  have h2 := Int.tmod_lt_of_pos (-d) (show 0 < p by omega)
  rw [Int.neg_tmod] at h2
  omega
theorem rm_bd (d p : Int) (hp : 1 ≤ p) : 0 ≤ rm d p ∧ rm d p < p := by
  unfold rm
  have h1 := Int.tmod_lt_of_pos d (show 0 < p by omega)
  have h2 := tm_low d p hp
  split <;> omega
theorem eg_bd (d p : Int) (hp : 1 ≤ p) : 0 ≤ eg d p ∧ eg d p ≤ 7 := by
  have h := rm_bd d p hp
  unfold eg
  rw [Int.tdiv_eq_ediv_of_nonneg (by omega)]
  have h1 : 0 ≤ 8 * rm d p / p := Int.ediv_nonneg (by omega) (by omega)
  have h2 : 8 * rm d p / p < 8 := Int.ediv_lt_of_lt_mul (by omega) (by omega)
  omega

/-- A period? -/
def prB (p : Int) : Bool := decide (1 ≤ p) && decide (p ≤ 315360000000000)
set_option maxHeartbeats 400000 in
theorem fromBits_any (n : Int) (w : World) : Calls Tryz.prog 164 #[.int .u64 n] w fun r w' => r = .returned (.float .f64 n.toNat) ∧ w' = w := by
  have h3 := callFrom
  go_enter Tryz.func164, Tryz.ntmps164
  go_wp2
  go_ret
  exact ⟨rfl, rfl⟩

theorem run_store_complex {P : Program} (a : Addr) (m : Mode) (x y : Nat) (w : World) : (store a (.complex .f64 x y) m).run P w = stored P w a (.complex .f64 x y) m := run_store P w a _ m rfl

/-- The eight directions. -/
abbrev dirs : Array Value := #[.complex .f64 4607182418800017408 0, .complex .f64 4604544271217802189 4604544271217802189, .complex .f64 0 4607182418800017408, .complex .f64 13827916308072577997 4604544271217802189,
  .complex .f64 13830554455654793216 0, .complex .f64 13827916308072577997 13827916308072577997, .complex .f64 0 13830554455654793216, .complex .f64 4604544271217802189 13827916308072577997]
/-- Do all values equal the first one? -/
def lvB (ss : Nat → Smp) (n : Nat) : Bool := (List.range (n - 1)).all fun j => FloatKind.f64.format.order (ss (j + 1)).v (ss 0).v == some .eq
theorem lv_false (ss : Nat → Smp) (n j : Nat) (hj : j < n - 1) (h : (FloatKind.f64.format.order (ss (j + 1)).v (ss 0).v == some .eq) = false) : lvB ss n = false := by
  unfold lvB
  rw [List.all_eq_false]
  exact ⟨j, List.mem_range.2 hj, by rw [h]; decide⟩
theorem lv_true (ss : Nat → Smp) (n : Nat) (h : ∀ j, j < n - 1 → (FloatKind.f64.format.order (ss (j + 1)).v (ss 0).v == some .eq) = true) : lvB ss n = true := by
  unfold lvB
  rw [List.all_eq_true]
  exact fun j hj => h j (List.mem_range.1 hj)

end Go.Proofs.YtebjklppbkkinaaGreatDoor.F
/- leastSquares and Line. -/
namespace Go.Proofs.YtebjklppbkkinaaGreatDoor.F
open Go.RowKit

theorem cvi (n : Int) (w : World) : (convert 2 23 (.int .i64 n)).run Tryz.prog w = .ok (.float .f64 (iw n)) w := run_convert_int_float w 2 23 .i64 .f64 n (by rw [Tryz.underlying2]; rfl) Tryz.underlying23
theorem iw_lt (n : Int) : iw n < 18446744073709551616 := by
  have := floatOfInt_wf .f64 n
  unfold iw
  simpa [Lit.wf] using this
theorem iw_num (n : Int) : cl (iw n) = some (iw n) := cl_num (nanB_write_number _ _ _)

/-- The numbers of the line of least squares, by the times' differences and the values. -/
def xF (D : Nat → Int) (j : Nat) : Option Nat := fb .quo (some (iw (D j))) (some 4652007308841189376)
def yF (V : Nat → Nat) (j : Nat) : Option Nat := cl (V j)
def xyF (D : Nat → Int) (V : Nat → Nat) (j : Nat) : Option Nat := fb .mul (xF D j) (yF V j)
def xxF (D : Nat → Int) (j : Nat) : Option Nat := fb .mul (xF D j) (xF D j)
def lsS (D : Nat → Int) (V : Nat → Nat) (n : Nat) : Option Nat :=
  fb .quo (fb .sub (sumF ((List.range n).map (xyF D V))) (fb .quo (fb .mul (sumF ((List.range n).map (xF D))) (sumF ((List.range n).map (yF V)))) (some (nW n))))
    (fb .sub (sumF ((List.range n).map (xxF D))) (fb .quo (fb .mul (sumF ((List.range n).map (xF D))) (sumF ((List.range n).map (xF D)))) (some (nW n))))
def lsV (D : Nat → Int) (V : Nat → Nat) (n : Nat) : Option Nat :=
  fb .sub (fb .quo (sumF ((List.range n).map (yF V))) (some (nW n))) (fb .quo (fb .mul (lsS D V n) (sumF ((List.range n).map (xF D)))) (some (nW n)))

/-- What a function that answers two floats answers. -/
def RT (w : World) (c1 c2 : Option Nat) (r : Ending) (w' : World) : Prop := ∃ z1 z2, r = .returned (.tuple #[.float .f64 z1, .float .f64 z2]) ∧ Below w.heap.size w w' ∧ z1 < 18446744073709551616 ∧ z2 < 18446744073709551616 ∧ cl z1 = c1 ∧ cl z2 = c2

/-- Four rows side by side. -/
def Four (w : World) (G : Nat) (col : Nat → Nat) (i : Nat) (A0 A1 A2 A3 : Option Addr) (C0 C1 C2 C3 : Nat) (y0 y1 y2 y3 : List Nat) : Prop :=
  (Fr w G (.slice A0 i C0) y0 ∧ Co col 0 (.slice A0 i C0) ∧ y0.length = i) ∧ (Fr w G (.slice A1 i C1) y1 ∧ Co col 1 (.slice A1 i C1) ∧ y1.length = i) ∧
  (Fr w G (.slice A2 i C2) y2 ∧ Co col 2 (.slice A2 i C2) ∧ y2.length = i) ∧ (Fr w G (.slice A3 i C3) y3 ∧ Co col 3 (.slice A3 i C3) ∧ y3.length = i)

/-- Line. -/
def liS (D : Nat → Int) (V : Nat → Nat) (n : Nat) (lv : Bool) : Option Nat := if n = 0 then none else if lv = false then lsS D V n else if infB (cl (V 0)) = true then none else some 0
def liV (D : Nat → Int) (V : Nat → Nat) (n : Nat) (lv : Bool) : Option Nat := if n = 0 then none else if lv = false then lsV D V n else if infB (cl (V 0)) = true then none else cl (V 0)

end Go.Proofs.YtebjklppbkkinaaGreatDoor.F
/- Turn and Beat. -/
namespace Go.Proofs.YtebjklppbkkinaaGreatDoor.F
open Go.RowKit

theorem run_farith {P : Program} (x y : Nat) (w : World) : (Op.floatArith .add .f64 x y).run P w = .ok (.float .f64 (fz .add x y w)) (w.drewN (fk .add x y)) := run_fadd 0 x y w
theorem run_cadd {P : Program} (t : TypeId) (a b c d : Nat) (w : World) : (binOp .add t (.complex .f64 a b) (.complex .f64 c d)).run P w =
    .ok (.complex .f64 (fz .add a c w) (fz .add b d (w.drewN (fk .add a c)))) (w.drewN (fk .add a c + fk .add b d)) := by
  simp [binOp, Op.complexOp, Op.Complex.arith, run_farith]

/-- The directions' parts. -/
def cw (k : Nat) : Nat := ([4607182418800017408, 4604544271217802189, 0, 13827916308072577997, 13830554455654793216, 13827916308072577997, 0, 4604544271217802189] : List Nat).getD k 0
def sw (k : Nat) : Nat := ([0, 4604544271217802189, 4607182418800017408, 4604544271217802189, 0, 13827916308072577997, 13830554455654793216, 13827916308072577997] : List Nat).getD k 0
theorem dir_at (k : Nat) (hk : k < 8) : dirs[k]? = some (.complex .f64 (cw k) (sw k)) := by
  rcases (show k = 0 ∨ k = 1 ∨ k = 2 ∨ k = 3 ∨ k = 4 ∨ k = 5 ∨ k = 6 ∨ k = 7 by omega) with rfl | rfl | rfl | rfl | rfl | rfl | rfl | rfl <;> rfl
theorem cw_num (k : Nat) (hk : k < 8) : cl (cw k) = some (cw k) := by
  rcases (show k = 0 ∨ k = 1 ∨ k = 2 ∨ k = 3 ∨ k = 4 ∨ k = 5 ∨ k = 6 ∨ k = 7 by omega) with rfl | rfl | rfl | rfl | rfl | rfl | rfl | rfl <;> exact cl_lit _ (by decide)
theorem sw_num (k : Nat) (hk : k < 8) : cl (sw k) = some (sw k) := by
  rcases (show k = 0 ∨ k = 1 ∨ k = 2 ∨ k = 3 ∨ k = 4 ∨ k = 5 ∨ k = 6 ∨ k = 7 by omega) with rfl | rfl | rfl | rfl | rfl | rfl | rfl | rfl <;> exact cl_lit _ (by decide)

/-- Turn's sums. -/
def trS (D : Nat → Int) (V : Nat → Nat) (p : Int) : Nat → Option Nat × Option Nat
  | 0 => (some 0, some 0)
  | i + 1 => (fb .add (trS D V p i).1 (fb .mul (cl (V i)) (some (cw (eg (D i) p).toNat))), fb .add (trS D V p i).2 (fb .mul (cl (V i)) (some (sw (eg (D i) p).toNat))))
def tuF (D : Nat → Int) (V : Nat → Nat) (n : Nat) (p : Int) : Option Nat × Option Nat := if prB p = true then trS D V p n else (some 0, some 0)
def RC (w : World) (c : Option Nat × Option Nat) (r : Ending) (w' : World) : Prop := ∃ z1 z2, r = .returned (.complex .f64 z1 z2) ∧ Below w.heap.size w w' ∧ z1 < 18446744073709551616 ∧ z2 < 18446744073709551616 ∧ (cl z1, cl z2) = c

/-- Beat. -/
def beF (D : Nat → Int) (V : Nat → Nat) (n : Nat) (p : Int) : Option Nat :=
  if n = 0 then none else if prB p = false then none
  else fb .quo (fsq (fb .add (fb .mul (tuF D V n p).1 (tuF D V n p).1) (fb .mul (tuF D V n p).2 (tuF D V n p).2))) (some (nW n))

end Go.Proofs.YtebjklppbkkinaaGreatDoor.F
/- The reference's Turn and Beat. -/
namespace Go.Proofs.YtebjklppbkkinaaGreatDoor.F
open Go.RowKit

set_option maxHeartbeats 400000 in
theorem rbits_any (n : Int) (w : World) : Calls Tryz.prog 173 #[.int .u64 n] w fun r w' => r = .returned (.float .f64 n.toNat) ∧ w' = w := by
  have h3 := callFrom
  go_enter Tryz.func173, Tryz.ntmps173
  go_wp2
  go_ret
  exact ⟨rfl, rfl⟩
set_option maxHeartbeats 400000 in
theorem rhalf_any (w : World) : Calls Tryz.prog 206 #[] w fun r w' => r = .returned (.float .f64 4604544271217802189) ∧ w' = w := by
  have k1 := rbits_any 4604544271217802189
  go_enter Tryz.func206, Tryz.ntmps206
  go_wp2_with fail
  go_fit (k1 _)
  rintro r w ⟨rfl, rfl⟩
  go_wp2
  go_ret
  exact ⟨rfl, rfl⟩

abbrev coss : Array Value := #[.float .f64 4607182418800017408, .float .f64 4604544271217802189, .float .f64 0, .float .f64 13827916308072577997, .float .f64 13830554455654793216, .float .f64 13827916308072577997, .float .f64 0, .float .f64 4604544271217802189]
abbrev sins : Array Value := #[.float .f64 0, .float .f64 4604544271217802189, .float .f64 4607182418800017408, .float .f64 4604544271217802189, .float .f64 0, .float .f64 13827916308072577997, .float .f64 13830554455654793216, .float .f64 13827916308072577997]
theorem cos_at (k : Nat) (hk : k < 8) : coss[k]? = some (.float .f64 (cw k)) := by
  rcases (show k = 0 ∨ k = 1 ∨ k = 2 ∨ k = 3 ∨ k = 4 ∨ k = 5 ∨ k = 6 ∨ k = 7 by omega) with rfl | rfl | rfl | rfl | rfl | rfl | rfl | rfl <;> rfl
theorem sin_at (k : Nat) (hk : k < 8) : sins[k]? = some (.float .f64 (sw k)) := by
  rcases (show k = 0 ∨ k = 1 ∨ k = 2 ∨ k = 3 ∨ k = 4 ∨ k = 5 ∨ k = 6 ∨ k = 7 by omega) with rfl | rfl | rfl | rfl | rfl | rfl | rfl | rfl <;> rfl

end Go.Proofs.YtebjklppbkkinaaGreatDoor.F
