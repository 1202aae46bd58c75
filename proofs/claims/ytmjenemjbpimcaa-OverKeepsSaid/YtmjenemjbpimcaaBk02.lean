/- A bundle of texts. -/
import Derived.Test.YtmjenemjbpimcaaRows
import Derived.Test.YtmjenemjbpimcaaBk01
import Derived.WalkKit
import Derived.WalkSpells
import Derived.WalkLawsBesides
import Derived.Deep.DeepFit
import Derived.Below
import Derived.OwnWalk
import Derived.BigQuiet
import Derived.Laws.OwnMore
import Derived.Laws.MakeOwn
import Derived.Laws.AppendOwn
import Derived.Deep.RegionLaw
import Derived.Maps.AppendAt
/- The small functions: bits, Abs, IsInf, NaN, alike; lists of floats in memory. -/
namespace Go.Proofs.Ytmjenemjbpimcaa
open Go.RowKit

/-- Floats in memory from a place on. -/
def FAt (w : World) (g o : Nat) (xs : List Nat) : Prop := ∀ j, j < xs.length → w.cell? ⟨g, o + j, none⟩ = some (.float .f64 (xs.getD j 0))
/-- A slice's floats. -/
def Fm (w : World) (a : Option Addr) (xs : List Nat) : Prop := xs = [] ∨ ∃ g o, a = some ⟨g, o, none⟩ ∧ g < w.heap.size ∧ FAt w g o xs
/-- They are words. -/
def Wd (xs : List Nat) : Prop := ∀ j, j < xs.length → xs.getD j 0 < 18446744073709551616
theorem Fm.below {w w' : World} {a : Option Addr} {xs : List Nat} (h : Fm w a xs) (hb : Below w.heap.size w w') : Fm w' a xs := by
  rcases h with h | ⟨g, o, rfl, hg, h⟩
  · exact .inl h
  · exact .inr ⟨g, o, rfl, Nat.lt_of_lt_of_le hg hb.size, fun j hj => (hb.cell (p := ⟨g, o + j, none⟩) hg).trans (h j hj)⟩
theorem Fm.drew {w : World} {a : Option Addr} {xs : List Nat} (h : Fm w a xs) (k : Nat) : Fm (w.drewN k) a xs := h

theorem callBits0 (args : Array Value) (w : World) : (callFunc 22 args).run Try.prog w = ((Extern.MathFloatBits.float64bits args).run Try.prog w).andThen fun v w' => .ok (.value v) w' :=
  run_callFunc_extern Try.func22 (by kernel_rfl) (by kernel_rfl) (by kernel_rfl) (by kernel_rfl) args w
theorem callBits (x : Nat) (w : World) : (callFunc 22 #[.float .f64 x]).run Try.prog w = .ok (.value (.int .u64 (x : Int))) w := by
  rw [callBits0]; rfl
theorem callFrom0 (args : Array Value) (w : World) : (callFunc 86 args).run Try.prog w = ((Extern.MathFloatBits.float64frombits args).run Try.prog w).andThen fun v w' => .ok (.value v) w' :=
  run_callFunc_extern Try.func86 (by kernel_rfl) (by kernel_rfl) (by kernel_rfl) (by kernel_rfl) args w
theorem callFrom (n : Int) (w : World) : (callFunc 86 #[.int .u64 n]).run Try.prog w = .ok (.value (.float .f64 n.toNat)) w := by
  rw [callFrom0]; rfl

theorem andNot63 (x : Nat) (hx : x < 18446744073709551616) : bits .andNot .u64 (x : Int) 9223372036854775808 = ((x % 9223372036854775808 : Nat) : Int) := by
  have h := u64_andNot_nat x 9223372036854775808 hx (by decide)
  rw [show ((9223372036854775808 : Nat) : Int) = 9223372036854775808 from rfl] at h
  rw [h]
  have e : x &&& (18446744073709551615 - 9223372036854775808) = x % 2 ^ 63 := Nat.and_two_pow_sub_one_eq_mod x 63
  rw [e]

set_option maxHeartbeats 400000 in
theorem abs_any (x : Nat) (hx : x < 18446744073709551616) (w : World) : Calls Try.prog 69 #[.float .f64 x] w fun r w' => r = .returned (.float .f64 (x % 9223372036854775808)) ∧ w' = w := by
  have h1 := callBits x
  have h2 := andNot63 x hx
  have h3 := callFrom
  go_enter Try.func69, Try.ntmps69
  go_wp2
  go_ret
  exact ⟨by simp, rfl⟩

set_option maxHeartbeats 400000 in
theorem isInf_any (x : Nat) (hx : x < 18446744073709551616) (w : World) : Calls Try.prog 68 #[.float .f64 x, .int .i64 0] w fun r w' => r = .returned (.bool (infB (cl x))) ∧ w' = w := by
  have k1 := abs_any x hx w
  have e : infB (cl x) = (FloatKind.f64.format.order (x % 9223372036854775808) 9218868437227405311 == some .gt) := by
    unfold infB
    rw [fo_cl, cl_ab, cl_lit 9218868437227405311 (by decide)]
  rw [e]
  go_enter Try.func68, Try.ntmps68
  go_wp2_with fail
  go_fit k1
  rintro r w' ⟨rfl, rfl⟩
  go_wp2
  go_ret
  exact ⟨rfl, rfl⟩

set_option maxHeartbeats 400000 in
theorem nan_any (w : World) : Calls Try.prog 70 #[] w fun r w' => r = .returned (.float .f64 9221120237041090561) ∧ w' = w := by
  have h3 := callFrom
  go_enter Try.func70, Try.ntmps70
  go_wp2
  go_ret
  exact ⟨rfl, rfl⟩
theorem cl_theNaN : cl 9221120237041090561 = none := cl_nan (by rw [nanB_eq]; decide)

/-- Above 0 and below 1? -/
def insB (c : Option Nat) : Bool := (fo c (some 0) == some .gt) && (fo c (some 4607182418800017408) == some .lt)
set_option maxHeartbeats 400000 in
theorem inside_any (x : Nat) (w : World) : Calls Try.prog 83 #[.float .f64 x] w fun r w' => r = .returned (.bool (insB (cl x))) ∧ w' = w := by
  have e1 : fo (cl x) (some 0) = FloatKind.f64.format.order x 0 := by rw [fo_cl, cl_lit 0 (by decide)]
  have e2 : fo (cl x) (some 4607182418800017408) = FloatKind.f64.format.order x 4607182418800017408 := by rw [fo_cl, cl_lit 4607182418800017408 (by decide)]
  unfold insB
  rw [e1, e2]
  cases h1 : FloatKind.f64.format.order x 0 == some .gt
  · go_enter Try.func83, Try.ntmps83
    go_wp2
    go_ret
    exact ⟨rfl, rfl⟩
  · go_enter Try.func83, Try.ntmps83
    go_wp2
    go_ret
    exact ⟨rfl, rfl⟩
end Go.Proofs.Ytmjenemjbpimcaa
/- Sum on both sides. -/
namespace Go.Proofs.Ytmjenemjbpimcaa
open Go.RowKit

/-- A value hidden from the walk. -/
def Hid (p : Prop) : Prop := p
theorem Hid.out {p : Prop} (h : Hid p) : p := h

def geB (x y : Option Nat) : Bool := (fo x y == some .gt) || (fo x y == some .eq)
/-- One step of Sum, on classes. -/
def smStep (st : Option Nat × Option Nat) (v : Option Nat) : Option Nat × Option Nat :=
  (fb .add st.1 v, if infB (fb .add st.1 v) = true then some 0 else if geB (ab st.1) (ab v) = true then fb .add st.2 (fb .add (fb .sub st.1 (fb .add st.1 v)) v) else fb .add st.2 (fb .add (fb .sub v (fb .add st.1 v)) st.1))
def sumS (l : List (Option Nat)) : Option Nat × Option Nat := l.foldl smStep (some 0, some 0)
def sumF (l : List (Option Nat)) : Option Nat := fb .add (sumS l).1 (sumS l).2
/-- The classes of words. -/
def cs (xs : List Nat) : List (Option Nat) := xs.map cl
theorem cs_len (xs : List Nat) : (cs xs).length = xs.length := by simp [cs]
theorem sumS_next (xs : List Nat) (i : Nat) (hi : i < xs.length) : sumS ((cs xs).take (i + 1)) = smStep (sumS ((cs xs).take i)) (cl (xs.getD i 0)) := by
  unfold sumS
  rw [List.take_succ_eq_append_getElem (by rw [cs_len]; exact hi), List.foldl_append]
  simp [cs, List.getD, hi]
theorem sumS_all (xs : List Nat) : sumS ((cs xs).take xs.length) = sumS (cs xs) := by
  rw [List.take_of_length_le (by rw [cs_len]; exact Nat.le_refl _)]
theorem geB_cl (a b : Nat) : geB (ab (cl a)) (ab (cl b)) = (FloatKind.f64.format.order (a % 9223372036854775808) (b % 9223372036854775808) == some .gt || FloatKind.f64.format.order (a % 9223372036854775808) (b % 9223372036854775808) == some .eq) := by
  unfold geB
  rw [fo_cl, cl_ab, cl_ab]

/-- What a function that answers a float answers: a word of that class; the world has drawn. -/
def RF (w : World) (c : Option Nat) (r : Ending) (w' : World) : Prop := ∃ z k, r = .returned (.float .f64 z) ∧ w' = w.drewN k ∧ z < 18446744073709551616 ∧ cl z = c

set_option maxHeartbeats 2000000 in
set_option maxRecDepth 100000 in
theorem sum_any (a : Option Addr) (c : Nat) (xs : List Nat) (w : World) (hf : Fm w a xs) (hw : Wd xs) (hl : xs.length ≤ 9223372036854775807) :
    Calls Try.prog 35 #[.slice a xs.length c] w (RF w (sumF (cs xs))) := by
  have ha := @run_fadd Try.prog
  have hs := @run_fsub Try.prog
  have HN : Hid (∀ i, i < xs.length → sumS ((cs xs).take (i + 1)) = smStep (sumS ((cs xs).take i)) (cl (xs.getD i 0))) := sumS_next xs
  have HA : Hid (sumS ((cs xs).take xs.length) = sumS (cs xs)) := sumS_all xs
  have HF : Hid (Fm w a xs) := hf
  have HW : Hid (Wd xs) := hw
  clear hf hw
  go_enter Try.func35, Try.ntmps35
  go_wp2
  go_loopw [3, 4, 10] (fun sv cv iv w' => ∃ (i s d k : Nat), iv = .int .i64 (i : Int) ∧ i ≤ xs.length ∧ sv = .float .f64 s ∧ cv = .float .f64 d ∧ s < 18446744073709551616 ∧ d < 18446744073709551616 ∧ Hid ((cl s, cl d) = sumS ((cs xs).take i)) ∧ w' = w.drewN k) (fun _ _ iv _ => xs.length - (RowKit.intOf iv).toNat)
  case atStart => exact ⟨0, 0, 0, 0, rfl, by omega, rfl, rfl, by omega, by omega, (by simp [sumS, cl_lit 0 (by decide)] : _ = _), rfl⟩
  case round =>
    obtain ⟨i, s, d, k, rfl, hi, rfl, rfl, hs1, hd1, hst, rfl⟩ := hrel
    by_cases hlt : i < xs.length
    · have hii : (i : Int) < xs.length := by omega
      rcases HF.out with h0 | ⟨g, o, rfl, hg, hat⟩
      · rw [h0] at hlt; simp at hlt
      have hcell := hat i hlt
      have hv := HW.out i hlt
      have hn := HN.out i hlt
      rw [← hst.out] at hn
      have HI : Hid (i + 1 ≤ xs.length) := hlt
      clear hat
      generalize xs.getD i 0 = v at *
      have hn' : Hid (sumS ((cs xs).take (i + 1)) = smStep (cl s, cl d) (cl v)) := hn
      clear hn hst
      have kI := fun w => isInf_any (fz .add s v (w)) (fz_lt _ _ _ _) 
      have kA := fun w => abs_any s hs1 w
      have kB := fun w => abs_any v hv w
      go_wp2_with fail
      go_fit (kI _ _)
      rintro r w1 ⟨rfl, rfl⟩
      rw [cl_fz]
      by_cases hinf : infB (fb .add (cl s) (cl v)) = true
      · rw [hinf]
        go_wp2
        refine ⟨⟨i + 1, _, 0, _, by go_num, HI, rfl, rfl, fz_lt _ _ _ _, by omega, ?_, rfl⟩, by simp [RowKit.intOf]; omega⟩
        show _ = _
        rw [hn'.out, cl_fz]
        unfold smStep
        rw [if_pos hinf, cl_lit 0 (by decide)]
      · rw [Bool.not_eq_true] at hinf
        rw [hinf]
        go_wp2_with fail
        go_fit (kA _)
        rintro r w2 ⟨rfl, rfl⟩
        go_wp2_with fail
        go_fit (kB _)
        rintro r w3 ⟨rfl, rfl⟩
        have hge := geB_cl s v
        cases hg2 : geB (ab (cl s)) (ab (cl v))
        · rw [hg2] at hge
          have hge' := hge.symm
          clear hge
          go_wp2
          refine ⟨⟨i + 1, _, _, _, by go_num, HI, rfl, rfl, fz_lt _ _ _ _, fz_lt _ _ _ _, ?_, rfl⟩, by simp [RowKit.intOf]; omega⟩
          show _ = _
          rw [hn'.out]
          simp only [cl_fz]
          unfold smStep
          rw [if_neg (by rw [hinf]; decide), if_neg (by rw [hg2]; decide)]
        · rw [hg2] at hge
          have hge' := hge.symm
          clear hge
          go_wp2
          refine ⟨⟨i + 1, _, _, _, by go_num, HI, rfl, rfl, fz_lt _ _ _ _, fz_lt _ _ _ _, ?_, rfl⟩, by simp [RowKit.intOf]; omega⟩
          show _ = _
          rw [hn'.out]
          simp only [cl_fz]
          unfold smStep
          rw [if_neg (by rw [hinf]; decide), if_pos hg2]
    · have hii : ¬ (i : Int) < xs.length := by omega
      obtain rfl : i = xs.length := by omega
      go_wp2
      go_ret
      refine ⟨_, _, rfl, rfl, fz_lt _ _ _ _, ?_⟩
      rw [cl_fz]
      unfold sumF
      rw [← HA.out, ← hst.out]
end Go.Proofs.Ytmjenemjbpimcaa
/- Rows of floats that a call makes: append, make, store. -/
namespace Go.Proofs.Ytmjenemjbpimcaa
open Go.RowKit

def fc (l : List Nat) : List Value := l.map (Value.float .f64)
theorem fc_len (l : List Nat) : (fc l).length = l.length := by simp [fc]
theorem fc_app (l m : List Nat) : fc (l ++ m) = fc l ++ fc m := by simp [fc]
theorem info23 : (Try.prog.info? 25).map (fun i => (i.zero, i.size, i.bytes)) = some (some (.float .f64 0), 1, 8) := by kernel_rfl

/-- A row of the call's own. -/
def Fr (w : World) (S : Nat) (v : Value) (ys : List Nat) : Prop := w.ownsRow S 25 1 v ys.length (fc ys)
theorem Fr.nil (w : World) (S : Nat) : Fr w S (.slice none 0 0) [] := World.ownsRow_nil w S 25 1
theorem Fr.drew {w : World} {S : Nat} {v : Value} {ys : List Nat} (h : Fr w S v ys) (k : Nat) : Fr (w.drewN k) S v ys := h
theorem Fr.below {w w' : World} {S : Nat} {v : Value} {ys : List Nat} (h : Fr w S v ys) (hb : Below w.heap.size w w') : Fr w' S v ys := by
  refine ⟨h.1, ?_⟩
  rcases h.2 with h0 | ⟨g, cap, cur, hv, hB, hg, r⟩
  · exact .inl h0
  · exact .inr ⟨g, cap, cur, hv, hB, (hb.block g (Array.getElem?_eq_some_iff.1 hg).1).trans hg, r⟩
/-- .. as a slice. -/
theorem Fr.fm {w : World} {S : Nat} {v : Value} {ys : List Nat} (h : Fr w S v ys) : ∃ a c, v = .slice a ys.length c ∧ Fm w a ys := by
  have hc := fun g => h.cells (g := g)
  rcases h.2 with ⟨rfl, h0⟩ | ⟨g, c, cur, rfl, _, hg, _⟩
  · have hl : ys = [] := List.eq_nil_of_length_eq_zero h0
    subst hl
    exact ⟨none, 0, rfl, .inl rfl⟩
  · refine ⟨_, c, rfl, .inr ⟨g, 0, rfl, (Array.getElem?_eq_some_iff.1 hg).1, fun j hj => ?_⟩⟩
    have := hc g rfl j (.float .f64 (ys.getD j 0)) (by simp [fc, List.getD, hj])
    rw [Go.WideShapes.add_plain] at this
    exact this

theorem append_f (w : World) (S : Nat) (v : Value) (ys : List Nat) (x : Nat) (hS : S ≤ w.heap.size) (hn : (ys.length + 1) * 8 ≤ 140737488355328) (o : Fr w S v ys) :
    ∃ v' w', (Builtin.append_ #[32, 32] 32 #[v, .slice (some ⟨w.heap.size, 0, none⟩) 1 1]).run Try.prog (w.alloc (.cells #[.float .f64 x] 25)) = .ok v' w' ∧ Fr w' S v' (ys ++ [x]) ∧ Below S w w' := by
  obtain ⟨i0, hi, hz0, hz1, hz2⟩ := info_parts info23
  have o0 := World.ownsRow.alloc o (.cells #[.float .f64 x] 25)
  obtain ⟨v', w', r, o', g, _⟩ := run_append_own (P := Try.prog) (w.alloc (.cells #[.float .f64 x] 25)) S 32 32 25 i0 (.float .f64 0) 1 8 Try.underlying32 hi hz0 hz1 hz2 rfl (by decide) _ ys.length (fc ys) o0 ⟨w.heap.size, 0, none⟩ 1 1 [.float .f64 x] (by simp)
    (fun j u hj => by
      rw [Go.WideShapes.add_plain]
      unfold World.cell?
      rw [show (w.alloc (.cells #[.float .f64 x] 25)).heap[w.heap.size]? = some (.cells #[.float .f64 x] 25) from heap_alloc_new w _]
      simpa using hj) (by intro u hu; simp at hu; subst hu; rfl) (by unfold maxLen; omega) hn (by simp; omega)
  refine ⟨v', w', r, ?_, ?_⟩
  · unfold Fr
    rw [List.length_append, fc_app]; exact o'
  · exact ((Below.refl S w).alloc hS _).grown g (by simp; omega) (fun k hk => (World.ownsRow.lt o k hk).1)

theorem wpList_append_run {P : Program} {ops : Array Oper} {rest : List Oper} {o : Oper} {a : Act} {w w' : World} {v' : Value} {Q : Exit → Act → World → Prop} (hw : Region.wanted o (yielded ops a.tmps) = true) (s x : Operand) (t tx : TypeId)
    (ho : o.op = .call { callee := .builtin .append, args := #[s, x], argTypes := #[t, tx] }) (vs vx : Value) (hs : a.eval s = vs) (hx : a.eval x = vx)
    (hr : (Builtin.append_ #[t, tx] o.type #[vs, vx]).run P w = .ok v' w') (h : wpList P ops Q rest (a.put o.dst v') w') : wpList P ops Q (o :: rest) a w := by
  unfold wpList
  rw [if_pos hw]
  left
  unfold Oper.wp execOp
  simp only [ho, resolve, invoke, builtin, Sem.run_bind, Sem.run_pure, Result.andThen_ok, List.map_toArray, List.map_cons, List.map_nil, hs, hx, hr]
  exact h

/-- make([]float64, n) -/
theorem make_f (w : World) (n : Nat) (hn : 8 * n ≤ 281474976710656) :
    ∃ w', (Instr.makeSlice 32 (.int .i64 (n : Int)) (.int .i64 (n : Int))).run Try.prog w = .ok (.slice (some ⟨w.heap.size, 0, none⟩) n n) w' ∧ Fr w' w.heap.size (.slice (some ⟨w.heap.size, 0, none⟩) n n) (List.replicate n 0) ∧ Below w.heap.size w w' := by
  obtain ⟨i0, hi, hz0, hz1, hz2⟩ := info_parts info23
  obtain ⟨w', r, o, g⟩ := run_make_full (P := Try.prog) w w.heap.size 32 25 i0 (.float .f64 0) 1 Try.underlying32 hi hz0 hz1 .i64 .i64 n (by rw [hz2]; exact hn) (by unfold maxLen; omega) (Nat.le_refl _)
  refine ⟨w', r, ?_, (Below.refl _ w).grown g (Nat.le_refl _) (fun k hk => by cases hk)⟩
  unfold Fr
  have e : (madeCells (Value.float .f64 0).cells (n * 1)).toList = fc (List.replicate n 0) := by
    rw [show (Value.float FloatKind.f64 0).cells = #[.float .f64 0] from rfl, toList_madeCells_one]
    simp [fc]
  rw [e] at o
  rw [List.length_replicate]
  exact o

/-- The store of a float. -/
theorem run_store_float {P : Program} (a : Addr) (m : Mode) (n : Nat) (w : World) : (store a (.float .f64 n) m).run P w = stored P w a (.float .f64 n) m := run_store P w a _ m rfl

/-- A store into such a row. -/
theorem Fr.set {w : World} {S g c : Nat} {ys : List Nat} (h : Fr w S (.slice (some ⟨g, 0, none⟩) ys.length c) ys) (j x : Nat) : Fr (w.setCell ⟨g, j, none⟩ (.float .f64 x)) S (.slice (some ⟨g, 0, none⟩) ys.length c) (ys.set j x) := by
  have := (World.ownsRow.stored h j (.float .f64 x)).1
  unfold Fr
  rw [List.length_set, show fc (ys.set j x) = (fc ys).set j (.float .f64 x) by simp [fc, List.map_set]]
  exact this
theorem Fr.cell {w : World} {S g c : Nat} {ys : List Nat} (h : Fr w S (.slice (some ⟨g, 0, none⟩) ys.length c) ys) (j : Nat) (hj : j < ys.length) : w.cell? ⟨g, j, none⟩ = some (.float .f64 (ys.getD j 0)) := by
  rw [World.ownsRow.cellAt h j (by omega)]
  simp [fc, List.getD, hj]
theorem Fr.froz {w : World} {S g c : Nat} {ys : List Nat} (h : Fr w S (.slice (some ⟨g, 0, none⟩) ys.length c) ys) (j : Nat) : w.frozen? ⟨g, j, none⟩ = false := World.ownsRow.frozenAt h j
theorem Fr.ge {w : World} {S g c : Nat} {ys : List Nat} (h : Fr w S (.slice (some ⟨g, 0, none⟩) ys.length c) ys) : S ≤ g := (World.ownsRow.lt h g rfl).1

/-- Numbers of the classes F 0, F 1, .. -/
def Ls (ys : List Nat) (i : Nat) (F : Nat → Option Nat) : Prop := ∀ j, j < i → cl (ys.getD j 0) = F j ∧ ys.getD j 0 < 18446744073709551616
theorem Ls.nil (ys : List Nat) (F : Nat → Option Nat) : Ls ys 0 F := fun j hj => absurd hj (by omega)
theorem Ls.push {ys : List Nat} {F : Nat → Option Nat} (h : Ls ys ys.length F) (x : Nat) (hx : cl x = F ys.length) (hl : x < 18446744073709551616) : Ls (ys ++ [x]) (ys.length + 1) F := by
  intro j hj
  by_cases h1 : j < ys.length
  · have := h j h1
    simpa [List.getD, List.getElem?_append_left h1] using this
  · obtain rfl : j = ys.length := by omega
    simpa [List.getD] using ⟨hx, hl⟩
theorem Ls.set {ys : List Nat} {i : Nat} {F : Nat → Option Nat} (h : Ls ys i F) (hi : i < ys.length) (x : Nat) (hx : cl x = F i) (hl : x < 18446744073709551616) : Ls (ys.set i x) (i + 1) F := by
  intro j hj
  by_cases h1 : j = i
  · subst h1
    simpa [List.getD, hi] using ⟨hx, hl⟩
  · have := h j (by omega)
    simpa [List.getD, List.getElem?_set_ne (Ne.symm h1)] using this
theorem Ls.cs {ys : List Nat} {F : Nat → Option Nat} (h : Ls ys ys.length F) : cs ys = (List.range ys.length).map F := by
  apply List.ext_getElem
  · simp [cs_len]
  · intro j h1 h2
    rw [cs_len] at h1
    have := (h j h1).1
    simpa [Ytmjenemjbpimcaa.cs, List.getD, h1] using this
theorem Ls.wd {ys : List Nat} {F : Nat → Option Nat} (h : Ls ys ys.length F) : Wd ys := fun j hj => (h j hj).2

/-- The float of a length. -/
def nW (n : Nat) : Nat := floatOfInt .f64 (n : Int)
theorem cvn (n : Nat) (w : World) : (convert 3 25 (.int .i64 (n : Int))).run Try.prog w = .ok (.float .f64 (nW n)) w := run_convert_int_float w 3 25 .i64 .f64 n (by rw [Try.underlying3]; rfl) Try.underlying25
theorem nW_num (n : Nat) : cl (nW n) = some (nW n) := cl_num (nanB_write_number _ _ _)
theorem nW_lt (n : Nat) : nW n < 18446744073709551616 := by
  have := floatOfInt_wf .f64 (n : Int)
  unfold nW
  simpa [Lit.wf] using this

/-- What a function that makes memory answers. -/
def RB (w : World) (c : Option Nat) (r : Ending) (w' : World) : Prop := ∃ z, r = .returned (.float .f64 z) ∧ Below w.heap.size w w' ∧ z < 18446744073709551616 ∧ cl z = c
/-- What a function that makes a row of floats answers. -/
def RL (w : World) (N : Nat) (F : Nat → Option Nat) (r : Ending) (w' : World) : Prop := ∃ v ys, r = .returned v ∧ Fr w' w.heap.size v ys ∧ ys.length = N ∧ Ls ys N F ∧ Below w.heap.size w w'
end Go.Proofs.Ytmjenemjbpimcaa
/- Several rows of floats that a call makes side by side. -/
namespace Go.Proofs.Ytmjenemjbpimcaa
open Go.RowKit

/-- The block of a row, if it has one, is of the colour k. -/
def Co (col : Nat → Nat) (k : Nat) (v : Value) : Prop := ∀ g, v.ownBlock = some g → col g = k
theorem Co.nil (col : Nat → Nat) (k : Nat) : Co col k (.slice none 0 0) := fun g h => by simp [Value.ownBlock] at h

theorem append_c (w : World) (S : Nat) (col : Nat → Nat) (k : Nat) (v : Value) (ys : List Nat) (x : Nat) (hS : S ≤ w.heap.size) (hn : (ys.length + 1) * 8 ≤ 140737488355328) (o : Fr w S v ys) (hc : Co col k v) :
    ∃ v' w' col', (Builtin.append_ #[32, 32] 32 #[v, .slice (some ⟨w.heap.size, 0, none⟩) 1 1]).run Try.prog (w.alloc (.cells #[.float .f64 x] 25)) = .ok v' w' ∧ Fr w' S v' (ys ++ [x]) ∧ Co col' k v' ∧ Below S w w' ∧
      ∀ u zs i, i ≠ k → Fr w S u zs → Co col i u → Fr w' S u zs ∧ Co col' i u := by
  obtain ⟨i0, hi, hz0, hz1, hz2⟩ := info_parts info23
  have o0 := World.ownsRow.alloc o (.cells #[.float .f64 x] 25)
  obtain ⟨v', w', r, o', g, _, h5⟩ := run_append_own_at (P := Try.prog) (w.alloc (.cells #[.float .f64 x] 25)) S 32 32 25 i0 (.float .f64 0) 1 8 Try.underlying32 hi hz0 hz1 hz2 rfl (by decide) _ ys.length (fc ys) o0 ⟨w.heap.size, 0, none⟩ 1 1 [.float .f64 x] (by simp)
    (fun j u hj => by
      rw [Go.WideShapes.add_plain]
      unfold World.cell?
      rw [show (w.alloc (.cells #[.float .f64 x] 25)).heap[w.heap.size]? = some (.cells #[.float .f64 x] 25) from heap_alloc_new w _]
      simpa using hj) (by intro u hu; simp at hu; subst hu; rfl) (by unfold maxLen; omega) hn (by simp; omega)
  refine ⟨v', w', fun b => if b < w.heap.size then col b else k, r, ?_, fun b hb => ?_, ?_, fun u zs i hik hu hcu => ⟨?_, fun b hb => ?_⟩⟩
  · unfold Fr
    rw [List.length_append, fc_app]; exact o'
  · rcases h5 with h5 | h5
    · rw [h5] at hb
      show (if b < w.heap.size then col b else k) = k
      split
      · exact hc b hb
      · rfl
    · rw [h5] at hb
      have hsz : (w.alloc (.cells #[.float .f64 x] 25)).heap.size = w.heap.size + 1 := by simp
      have := Option.some.inj hb
      show (if b < w.heap.size then col b else k) = k
      rw [if_neg (by omega)]
  · exact ((Below.refl S w).alloc hS _).grown g (by simp; omega) (fun k hk => (World.ownsRow.lt o k hk).1)
  · refine (World.ownsRow.alloc hu (.cells #[.float .f64 x] 25)).kept g ?_
    cases hub : u.ownBlock with
    | none => exact .inl rfl
    | some b =>
      refine .inr fun e => hik ?_
      rw [← hcu b hub, hc b e.symm]
  · show (if b < w.heap.size then col b else k) = i
    rw [if_pos (World.ownsRow.lt hu b hb).2]
    exact hcu b hb
end Go.Proofs.Ytmjenemjbpimcaa
/- The square root. -/
namespace Go.Proofs.Ytmjenemjbpimcaa
open Go.RowKit Ieee

def fsq (c : Option Nat) : Option Nat := c.bind fun x => Ieee.double.sqrt x
theorem root_num (n : Nat) (a d : Datum) (h : a.root n = some d) : d.isNaN = false := by
  unfold Datum.root at h
  split at h
  · cases h
  · split at h
    · cases h
    · cases h; rfl
  · split at h
    · cases h; rfl
    · split at h
      · cases h
      · cases h; rfl
theorem sqrt_num {x r : Nat} (h : Ieee.double.sqrt x = some r) : nanB r = false ∧ r < 18446744073709551616 := by
  change (((Ieee.double.read x).root 54).map Ieee.double.write) = some r at h
  obtain ⟨d, hd, rfl⟩ := Option.map_eq_some_iff.1 h
  refine ⟨nanB_write d (root_num _ _ _ hd), ?_⟩
  have : FloatKind.f64.encode d < 18446744073709551616 := by simpa [Lit.wf] using encode_wf .f64 d
  exact this
theorem sqrt_nan {x : Nat} (h : nanB x = true) : Ieee.double.sqrt x = none := by
  unfold nanB at h
  show ((Ieee.double.read x).root 54).map Ieee.double.write = none
  have : (Ieee.double.read x).root 54 = none := by
    generalize Ieee.double.read x = d at *
    cases d <;> simp [Datum.isNaN] at h; rfl
  rw [this]; rfl
theorem callSqrt0 (args : Array Value) (w : World) : (callFunc 88 args).run Try.prog w = ((Extern.MathSqrt.sqrt args).run Try.prog w).andThen fun v w' => .ok (.value v) w' :=
  run_callFunc_extern Try.func88 (by kernel_rfl) (by kernel_rfl) (by kernel_rfl) (by kernel_rfl) args w
theorem sqrtRow (x : Nat) : Extern.MathSqrt.sqrt #[.float .f64 x] = (match FloatKind.f64.format.sqrt x with
    | some r => pure (.float .f64 r)
    | none => do pure (.float .f64 (← choose (.nanBits .f64 x x)))) := rfl
theorem callSqrt (x : Nat) (w : World) : ∃ z k, (callFunc 88 #[.float .f64 x]).run Try.prog w = .ok (.value (.float .f64 z)) (w.drewN k) ∧ z < 18446744073709551616 ∧ cl z = fsq (cl x) := by
  rw [callSqrt0]
  cases h : Ieee.double.sqrt x with
  | some r =>
    have hx : cl x = some x := by
      apply cl_num
      cases hn : nanB x with
      | false => rfl
      | true => rw [sqrt_nan hn] at h; cases h
    have e : Extern.MathSqrt.sqrt #[.float .f64 x] = pure (.float .f64 r) := by
      have h' : FloatKind.f64.format.sqrt x = some r := h
      rw [sqrtRow, h']
    rw [e]
    exact ⟨r, 0, rfl, (sqrt_num h).2, by rw [cl_num (sqrt_num h).1, hx]; exact h.symm⟩
  | none =>
    have e : (Extern.MathSqrt.sqrt #[.float .f64 x]).run Try.prog w = .ok (.float .f64 ((Question.nanBits .f64 x x).cut (w.tape w.drawn (.nanBits .f64 x x)))) (w.drewN 1) := by
      have h' : FloatKind.f64.format.sqrt x = none := h
      rw [sqrtRow, h']
      simp [Question.forced]
      rfl
    rw [e]
    refine ⟨_, 1, rfl, cut_lt _ _ _, ?_⟩
    rw [cl_nan (cut_nan _ _ _)]
    unfold cl
    split
    · rfl
    · exact h.symm

set_option maxHeartbeats 400000 in
theorem sqrt_any (x : Nat) (w : World) : Calls Try.prog 74 #[.float .f64 x] w (RF w (fsq (cl x))) := by
  obtain ⟨z, k, h1, hz, hc⟩ := callSqrt x w
  have HC : Hid (cl z = fsq (cl x)) := hc
  clear hc
  go_enter Try.func74, Try.ntmps74
  go_wp2
  go_ret
  exact ⟨z, k, rfl, rfl, hz, HC.out⟩
end Go.Proofs.Ytmjenemjbpimcaa
