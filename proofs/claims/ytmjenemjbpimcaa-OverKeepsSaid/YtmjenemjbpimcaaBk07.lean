/- A bundle of texts. -/
import Derived.Test.YtmjenemjbpimcaaBk06
import Derived.Laws.Tables
import Derived.Laws.Rows
import Derived.Laws.CopyOwn
import Derived.Lib.MapLaws
/- Over: the table of functions. -/
namespace Go.Proofs.Ytmjenemjbpimcaa
open Go.RowKit

/-- The functions: name, numbers, points, and where each is. -/
def fns : List (ByteArray × Nat × Nat × Nat) := [
  (⟨#[99, 111, 117, 110, 116, 95, 111, 118, 101, 114, 95, 116, 105, 109, 101]⟩, 0, 1, 30),
  (⟨#[112, 114, 101, 115, 101, 110, 116, 95, 111, 118, 101, 114, 95, 116, 105, 109, 101]⟩, 0, 1, 31),
  (⟨#[102, 105, 114, 115, 116, 95, 111, 118, 101, 114, 95, 116, 105, 109, 101]⟩, 0, 1, 32),
  (⟨#[108, 97, 115, 116, 95, 111, 118, 101, 114, 95, 116, 105, 109, 101]⟩, 0, 1, 33),
  (⟨#[115, 117, 109, 95, 111, 118, 101, 114, 95, 116, 105, 109, 101]⟩, 0, 1, 34),
  (⟨#[97, 118, 103, 95, 111, 118, 101, 114, 95, 116, 105, 109, 101]⟩, 0, 1, 37),
  (⟨#[115, 116, 100, 100, 101, 118, 95, 111, 118, 101, 114, 95, 116, 105, 109, 101]⟩, 0, 1, 39),
  (⟨#[115, 116, 100, 118, 97, 114, 95, 111, 118, 101, 114, 95, 116, 105, 109, 101]⟩, 0, 1, 41),
  (⟨#[109, 97, 120, 95, 111, 118, 101, 114, 95, 116, 105, 109, 101]⟩, 0, 1, 43),
  (⟨#[109, 105, 110, 95, 111, 118, 101, 114, 95, 116, 105, 109, 101]⟩, 0, 1, 45),
  (⟨#[113, 117, 97, 110, 116, 105, 108, 101, 95, 111, 118, 101, 114, 95, 116, 105, 109, 101]⟩, 1, 1, 47),
  (⟨#[109, 97, 100, 95, 111, 118, 101, 114, 95, 116, 105, 109, 101]⟩, 0, 1, 49),
  (⟨#[99, 104, 97, 110, 103, 101, 115]⟩, 0, 1, 51),
  (⟨#[114, 101, 115, 101, 116, 115]⟩, 0, 1, 54),
  (⟨#[114, 97, 116, 101]⟩, 0, 2, 55),
  (⟨#[105, 110, 99, 114, 101, 97, 115, 101]⟩, 0, 2, 56),
  (⟨#[100, 101, 108, 116, 97]⟩, 0, 2, 57),
  (⟨#[105, 114, 97, 116, 101]⟩, 0, 2, 58),
  (⟨#[105, 100, 101, 108, 116, 97]⟩, 0, 2, 59),
  (⟨#[100, 101, 114, 105, 118]⟩, 0, 2, 60),
  (⟨#[112, 114, 101, 100, 105, 99, 116, 95, 108, 105, 110, 101, 97, 114]⟩, 1, 2, 62),
  (⟨#[100, 111, 117, 98, 108, 101, 95, 101, 120, 112, 111, 110, 101, 110, 116, 105, 97, 108, 95, 115, 109, 111, 111, 116, 104, 105, 110, 103]⟩, 2, 2, 64),
  (⟨#[98, 101, 97, 116, 95, 111, 118, 101, 114, 95, 116, 105, 109, 101]⟩, 1, 1, 66)]
def fnV (x : ByteArray × Nat × Nat × Nat) : Value := .agg #[.string x.1, .int .i64 (x.2.1 : Nat), .int .i64 (x.2.2.1 : Nat), .func (.func x.2.2.2) #[] #[]]
def fnL (x : ByteArray × Nat × Nat × Nat) : List Value := [.string x.1, .int .i64 (x.2.1 : Nat), .int .i64 (x.2.2.1 : Nat), .func (.func x.2.2.2) #[] #[]]
def tblA : Array Value := (fns.flatMap fnL).toArray
theorem fns_len : fns.length = 23 := rfl
def fnAt (i : Nat) : ByteArray × Nat × Nat × Nat := fns.getD i (⟨#[]⟩, 0, 0, 0)
theorem run_store_func {P : Program} (a : Addr) (m : Mode) (f : Fn) (x : Array Value) (y : Array Value) (w : World) : (store a (.func f x y) m).run P w = stored P w a (.func f x y) m := run_store P w a _ m rfl

theorem wpList_build_is {P : Program} {ops : Array Oper} {rest : List Oper} {o : Oper} {a : Act} {w : World} {Q : Exit → Act → World → Prop} (cells : Array Value) (hg : o.guard = none) (t : TypeId) (parts : Array (Nat × Operand)) (ho : o.op = .build t parts)
    (hf : P.built t (parts.map fun (i, x) => (i, a.eval x)).toList = some cells)
    (h : wpList P ops Q rest (a.put o.dst (.agg cells)) w) : wpList P ops Q (o :: rest) a w :=
  wpList_build hg t parts ho (by rw [hf]; rfl) (by rw [hf]; exact h)
theorem tbl_size : tblA.size = 92 := by kernel_rfl

theorem res24 (cs : Array Value) (W : World) (g : Nat) (tmps : Array Value) (e2 : (loadVar 56 ⟨g, 0, none⟩).run Try.prog W = .ok (.agg cs) W) (h0 : tmps.getD 0 undef = .pointer (some ⟨g, 0, none⟩)) : (results Try.f24 tmps).run Try.prog W = .ok (.agg cs) W := by
  have hr : Try.f24.results = #[.cell 0 56] := rfl
  unfold results
  rw [hr]
  simp only [h0, Sem.run_bind, Sem.run_pure, List.mapM_toArray, List.mapM_cons, List.mapM_nil]
  have ea : (asAddr (.pointer (some ⟨g, 0, none⟩))).run Try.prog W = .ok ⟨g, 0, none⟩ W := rfl
  simp [ea, e2]
end Go.Proofs.Ytmjenemjbpimcaa
/- Over: find, Known. -/
namespace Go.Proofs.Ytmjenemjbpimcaa
open Go.RowKit

def fnA (x : ByteArray × Nat × Nat × Nat) : Array Value := #[.string x.1, .int .i64 (x.2.1 : Nat), .int .i64 (x.2.2.1 : Nat), .func (.func x.2.2.2) #[] #[]]
theorem tbl_part (i : Nat) (hi : i < 23) : tblA.extract (i * 4) (i * 4 + 4) = fnA (fnAt i) := by
  rcases (show i = 0 ∨ i = 1 ∨ i = 2 ∨ i = 3 ∨ i = 4 ∨ i = 5 ∨ i = 6 ∨ i = 7 ∨ i = 8 ∨ i = 9 ∨ i = 10 ∨ i = 11 ∨ i = 12 ∨ i = 13 ∨ i = 14 ∨ i = 15 ∨ i = 16 ∨ i = 17 ∨ i = 18 ∨ i = 19 ∨ i = 20 ∨ i = 21 ∨ i = 22 by omega) with rfl | rfl | rfl | rfl | rfl | rfl | rfl | rfl | rfl | rfl | rfl | rfl | rfl | rfl | rfl | rfl | rfl | rfl | rfl | rfl | rfl | rfl | rfl
  all_goals kernel_rfl
theorem idx56 (i : Nat) (hi : i < 23) (w : World) : (Instr.index 56 (.agg tblA) (.int .i64 (i : Int))).run Try.prog w = .ok (.agg (fnA (fnAt i))) w := by
  have hp := tbl_part i hi
  have hz := Try.sizeOf48
  have ha := Try.isAgg48
  simp [Instr.index, run_underlying Try.underlying56, asIntOf, hz, part, ha, go_sem, hi, hp]
abbrev fnX (s : ByteArray) (a b : Int) (fv : Value) : Array Value := #[.string s, .int .i64 a, .int .i64 b, fv]
def FYes (nm s : ByteArray) (a b : Int) (fv : Value) : Prop := ∃ i, i < 23 ∧ nm = (fnAt i).1 ∧ s = (fnAt i).1 ∧ a = ((fnAt i).2.1 : Nat) ∧ b = ((fnAt i).2.2.1 : Nat) ∧ fv = .func (.func (fnAt i).2.2.2) #[] #[]
def FNo (nm : ByteArray) : Prop := ∀ i, i < 23 → nm ≠ (fnAt i).1
theorem teq (a b : ByteArray) : (a.toList == b.toList) = true ↔ a = b := by
  rw [beq_iff_eq, Lib.toList_data, Lib.toList_data]
  constructor
  · intro h
    rw [ByteArray.ext_iff]
    exact Array.toList_inj.1 h
  · rintro rfl
    rfl

theorem res19 (cs : Array Value) (W : World) (g : Nat) (tmps : Array Value) (e2 : (loadVar 48 ⟨g, 0, none⟩).run Try.prog W = .ok (.agg cs) W) (h0 : tmps.getD 2 undef = .pointer (some ⟨g, 0, none⟩)) : (results Try.f19 tmps).run Try.prog W = .ok (.tuple #[.agg cs, tmps.getD 3 undef]) W := by
  have hr : Try.f19.results = #[.cell 2 48, .tmp 3] := rfl
  unfold results
  rw [hr]
  simp only [h0, Sem.run_bind, Sem.run_pure, List.mapM_toArray, List.mapM_cons, List.mapM_nil]
  have ea : (asAddr (.pointer (some ⟨g, 0, none⟩))).run Try.prog W = .ok ⟨g, 0, none⟩ W := rfl
  simp [ea, e2]

set_option maxHeartbeats 8000000 in
set_option maxRecDepth 100000 in
theorem find_any (nm : ByteArray) (w : World) (k24 : ∀ W, Calls Try.prog 24 #[] W fun r w' => r = .returned (.agg tblA) ∧ Below W.heap.size W w') :
    Calls Try.prog 19 #[.string nm] w fun r w' => Below w.heap.size w w' ∧ ((∃ s a b fv, r = .returned (.tuple #[.agg (fnX s a b fv), .bool true]) ∧ FYes nm s a b fv) ∨ (r = .returned (.tuple #[.agg (fnX ⟨#[]⟩ 0 0 .nilFunc), .bool false]) ∧ FNo nm)) := by
  have hsf := @run_store_func Try.prog
  have hb0 : Hid (Below w.heap.size w (w.alloc (.cells (fnX ⟨#[]⟩ 0 0 .nilFunc) 48))) := (Below.refl _ w).alloc (Nat.le_refl _) _
  have e0 : (w.alloc (.cells (fnX ⟨#[]⟩ 0 0 .nilFunc) 48)).heap[w.heap.size]? = some (.cells (fnX ⟨#[]⟩ 0 0 .nilFunc) 48) := heap_alloc_new w _
  have HE : Hid ((w.alloc (.cells (fnX ⟨#[]⟩ 0 0 .nilFunc) 48)).heap[w.heap.size]? = some (.cells (fnX ⟨#[]⟩ 0 0 .nilFunc) 48) ∧ w.heap.size < (w.alloc (.cells (fnX ⟨#[]⟩ 0 0 .nilFunc) 48)).heap.size) := ⟨e0, by simp⟩
  have k24 := k24 (w.alloc (.cells (fnX ⟨#[]⟩ 0 0 .nilFunc) 48))
  have HI : Hid (∀ i : Nat, i < 23 → ∀ w, (Instr.index 56 (.agg tblA) (.int .i64 (i : Int))).run Try.prog w = .ok (.agg (fnA (fnAt i))) w) := idx56
  generalize tblA = TA at *
  clear e0
  go_enter Try.func19, Try.ntmps19
  go_wp2_with fail
  go_fit k24
  rintro e w1 ⟨rfl, b1⟩
  have B1 : Hid (Below w.heap.size w w1) := hb0.out.trans (b1.mono hb0.out.size)
  have E1 : Hid (w1.heap[w.heap.size]? = some (.cells (fnX ⟨#[]⟩ 0 0 .nilFunc) 48) ∧ w.heap.size < w1.heap.size) := ⟨(b1.block _ HE.out.2).trans HE.out.1, Nat.lt_of_lt_of_le HE.out.2 b1.size⟩
  clear b1 hb0 HE k24
  go_wp2_with fail
  go_loopw [7] (fun iv W => ∃ i : Nat, iv = .int .i64 (i : Nat) ∧ i ≤ 23 ∧ Hid (∀ j, j < i → nm ≠ (fnAt j).1) ∧ Hid (Below w1.heap.size w1 W)) (fun iv _ => 23 - (RowKit.intOf iv).toNat)
  case atStart => exact ⟨0, rfl, by omega, fun j hj => absurd hj (by omega), Below.refl _ _⟩
  case round =>
    obtain ⟨i, rfl, hi, hall, hb⟩ := hrel
    by_cases hlt : i < 23
    · have hii : (i : Int) < 23 := by omega
      have hx := HI.out i hlt
      have HY : Hid (nm = (fnAt i).1 → FYes nm (fnAt i).1 ((fnAt i).2.1 : Nat) ((fnAt i).2.2.1 : Nat) (.func (.func (fnAt i).2.2.2) #[] #[])) := fun h => ⟨i, hlt, h, rfl, rfl, rfl, rfl⟩
      have HN : Hid (¬ nm = (fnAt i).1 → ∀ j, j < i + 1 → nm ≠ (fnAt j).1) := fun h j hj => by
        by_cases hji : j < i
        · exact hall.out j hji
        · obtain rfl : j = i := by omega
          exact h
      have HI' : Hid (i + 1 ≤ 23) := hlt
      generalize fnAt i = x at *
      obtain ⟨xn, xa, xb, xf⟩ := x
      dsimp only [fnA] at hx HY HN
      generalize (xa : Int) = ya at *
      generalize (xb : Int) = yb at *
      clear hall
      have HB2 : Hid (∀ o, Below w1.heap.size w1 (wr.alloc o)) := fun o => hb.out.alloc hb.out.size o
      have E2 : Hid (∀ o, (wr.alloc o).heap[w.heap.size]? = some (.cells (fnX ⟨#[]⟩ 0 0 .nilFunc) 48)) := fun o => ((HB2.out o).block _ E1.out.2).trans E1.out.1
      clear hb
      by_cases he : nm = xn
      · have HF : Hid _ := HY.out he
        have hq : (xn.toList == nm.toList) = true := (teq _ _).2 he.symm
        have e2 : Hid _ := E2.out (.cells (fnX xn ya yb (.func (.func xf) #[] #[])) 48)
        have B2 : Hid _ := HB2.out (.cells (fnX xn ya yb (.func (.func xf) #[] #[])) 48)
        clear he HY HN E2 HB2
        dsimp only [fnX] at e2 B2
        go_wp2_with (refine wpList_store_row rfl 48 _ _ rfl w.heap.size (fnX xn ya yb (.func (.func xf) #[] #[])) rfl rfl 48 _ e2.out (by kernel_rfl) rfl (by first | kernel_rfl | rfl | simp [Value.oneCell']) ?_)
        refine bodyPost_ret (v := .tuple #[.agg (fnX xn ya yb (.func (.func xf) #[] #[])), .bool true]) (res19 _ _ w.heap.size _ (run_loadVar_row (P := Try.prog) _ w.heap.size 48 48 _ (0, 0) _ (setRow_heap _ _ _ _ _ _ e2.out) Try.underlying48 rfl (by kernel_rfl)) rfl) rfl ?_
        exact ⟨below_setRow (B1.out.trans (B2.out.mono B1.out.size)) (Nat.le_refl _) _, .inl ⟨_, _, _, _, rfl, HF.out⟩⟩
      · have HF : Hid _ := HN.out he
        have hq : (xn.toList == nm.toList) = false := by
          rw [← Bool.not_eq_true, teq]
          exact fun h => he h.symm
        have B2 : Hid _ := HB2.out (.cells (fnX xn ya yb (.func (.func xf) #[] #[])) 48)
        clear he HY HN E2 HB2
        dsimp only [fnX] at B2
        go_wp2
        exact ⟨⟨i + 1, by go_num, HI'.out, HF, B2⟩, by simp [RowKit.intOf]; omega⟩
    · have hii : ¬ (i : Int) < 23 := by omega
      obtain rfl : i = 23 := by omega
      have e2 : Hid (wr.heap[w.heap.size]? = some (.cells (fnX ⟨#[]⟩ 0 0 .nilFunc) 48)) := (hb.out.block _ E1.out.2).trans E1.out.1
      have HF : Hid (FNo nm) := hall.out
      have B2 : Hid (Below w.heap.size w wr) := B1.out.trans (hb.out.mono B1.out.size)
      clear hall hb E1
      dsimp only [fnX] at e2
      go_wp2_with (refine wpList_store_row rfl 48 _ _ rfl w.heap.size (fnX ⟨#[]⟩ 0 0 .nilFunc) rfl rfl 48 _ e2.out (by kernel_rfl) rfl (by first | kernel_rfl | rfl | simp [Value.oneCell']) ?_)
      refine bodyPost_ret (v := .tuple #[.agg (fnX ⟨#[]⟩ 0 0 .nilFunc), .bool false]) (res19 _ _ w.heap.size _ (run_loadVar_row (P := Try.prog) _ w.heap.size 48 48 _ (0, 0) _ (setRow_heap _ _ _ _ _ _ e2.out) Try.underlying48 rfl (by kernel_rfl)) rfl) rfl ?_
      exact ⟨below_setRow B2.out (Nat.le_refl _) _, .inr ⟨rfl, HF.out⟩⟩
end Go.Proofs.Ytmjenemjbpimcaa
/- Over: the table of functions, as it is answered. -/
namespace Go.Proofs.Ytmjenemjbpimcaa
open Go.RowKit

set_option maxHeartbeats 8000000 in
set_option maxRecDepth 100000 in
theorem functions_any (w : World) : Calls Try.prog 24 #[] w fun r w' => r = .returned (.agg tblA) ∧ Below w.heap.size w w' := by
  have hb0 : Hid (Below w.heap.size w w) := Below.refl _ w
  go_enter Try.func24, Try.ntmps24
  go_wp2_with (refine wpList_build_is tblA rfl 56 _ rfl (by kernel_rfl) ?_; refine wpList_store_row rfl 56 _ _ rfl w.heap.size tblA rfl rfl 56 _ (heap_alloc_new w _) (by rw [tbl_size]; kernel_rfl) (by rw [tbl_size]; rfl) (by kernel_rfl) ?_)
  refine bodyPost_ret (v := .agg tblA) ?_ rfl ⟨rfl, below_setRow (hb0.out.alloc (Nat.le_refl _) _) (Nat.le_refl _) _⟩
  exact res24 tblA _ w.heap.size _ (run_loadVar_row (P := Try.prog) _ w.heap.size 56 56 tblA (0, 0) _ (setRow_heap _ _ _ _ _ _ (heap_alloc_new w _)) Try.underlying56 rfl (by rw [tbl_size]; kernel_rfl)) rfl
end Go.Proofs.Ytmjenemjbpimcaa
/- Over: Known and Call. -/
namespace Go.Proofs.Ytmjenemjbpimcaa
open Go.RowKit

theorem run_store_nilf {P : Program} (a : Addr) (m : Mode) (w : World) : (store a .nilFunc m).run P w = stored P w a .nilFunc m := run_store P w a _ m rfl
/-- Is there a function of this name? -/
def Knw (nm : ByteArray) : Prop := ∃ i, i < 23 ∧ nm = (fnAt i).1
set_option maxHeartbeats 4000000 in
set_option maxRecDepth 100000 in
theorem known_any (nm : ByteArray) (w : World) : Calls Try.prog 12 #[.string nm] w (RP w (Knw nm)) := by
  have hsf := @run_store_func Try.prog
  have hsn := @run_store_nilf Try.prog
  have k1 := find_any nm w functions_any
  go_enter Try.func12, Try.ntmps12
  go_wp2_with fail
  go_fit k1
  rintro e w1 ⟨b1, h⟩
  have B1 : Hid (Below w.heap.size w w1) := b1
  have B2 : Hid (∀ o, Below w.heap.size w (w1.alloc o)) := fun o => b1.alloc b1.size o
  clear b1 k1
  rcases h with ⟨s, a, b, fv, rfl, i, hi, h1, h2, h3, h4, h5⟩ | ⟨rfl, hn⟩
  · have HK : Hid (Knw nm) := ⟨i, hi, h1⟩
    clear h1 h2 h3 h4
    subst h5
    go_wp2
    go_ret
    exact ⟨true, rfl, ⟨fun _ => HK.out, fun _ => rfl⟩, B2.out _⟩
  · have HK : Hid (¬ Knw nm) := fun ⟨i, hi, h⟩ => hn i hi h
    clear hn
    go_wp2
    go_ret
    exact ⟨false, rfl, ⟨fun h => (by cases h), fun h => absurd h HK.out⟩, B2.out _⟩

/-- When a function answers. -/
def Fit (nm : ByteArray) (ss : Nat → Smp) (n : Nat) (F T N : Int) (na i : Nat) : Prop := i < 23 ∧ nm = (fnAt i).1 ∧ na = (fnAt i).2.1 ∧ (fnAt i).2.2.1 ≤ n ∧ Snd ss n F T N
/-- What Call answers. -/
def CR (w : World) (nm : ByteArray) (ss : Nat → Smp) (n : Nat) (F T N : Int) (na : Nat) (vl : Nat → Option Nat) (r : Ending) (w' : World) : Prop :=
  ∃ (z : Nat) (b : Bool), r = .returned (.tuple #[.float .f64 z, .bool b]) ∧ Below w.heap.size w w' ∧ z < 18446744073709551616 ∧ ((b = false ∧ z = 0 ∧ ∀ i, ¬ Fit nm ss n F T N na i) ∨ (b = true ∧ ∃ i, Fit nm ss n F T N na i ∧ cl z = vl i))
theorem names_inj : ∀ i, i < 23 → ∀ j, j < 23 → (fnAt i).1 = (fnAt j).1 → i = j := by decide +kernel

set_option maxHeartbeats 8000000 in
set_option maxRecDepth 100000 in
theorem call_any (nm : ByteArray) (a : Option Addr) (n c : Nat) (F T N : Int) (ss : Nat → Smp) (aa : Option Addr) (na ca : Nat) (vl : Nat → Option Nat) (w : World) (hf : Sml w a ss n) (hl : n ≤ 9223372036854775807) (_hna : na ≤ 9223372036854775807)
    (hA : ∀ i, i < 23 → nm = (fnAt i).1 → ∀ args w, (callFunc (fnAt i).2.2.2 args).run Try.prog w = .ok (.enter (fnAt i).2.2.2 args) w)
    (hB : ∀ i, Fit nm ss n F T N na i → ∀ W, Below w.heap.size w W → Calls Try.prog (fnAt i).2.2.2 #[Wn a n c F T N, .slice aa na ca] W (RB W (vl i))) :
    Calls Try.prog 10 #[.string nm, Wn a n c F T N, .slice aa na ca] w (CR w nm ss n F T N na vl) := by
  have hsf := @run_store_func Try.prog
  have hsn := @run_store_nilf Try.prog
  have HW : Hid (Below w.heap.size w (w.alloc (wnX a n c F T N))) := (Below.refl _ w).alloc (Nat.le_refl _) _
  have HC : Hid (∀ W, Below (w.alloc (wnX a n c F T N)).heap.size (w.alloc (wnX a n c F T N)) W → WnC a n c F T N w.heap.size W) := wnC_new a n c F T N w
  have k1 := find_any nm (w.alloc (wnX a n c F T N)) functions_any
  have HH : Hid (∀ L W, Below w.heap.size w W → Calls Try.prog 20 #[Wn a n c F T N, .int .i64 ((L : Nat) : Int)] W (RP W (L ≤ n ∧ Snd ss n F T N))) := (show ∀ L W, _ → _ from fun L W b => has_any a n c F T N ss L W (hf.below b) hl)
  have HA : Hid (∀ i, i < 23 → nm = (fnAt i).1 → ∀ args w, (callFunc (fnAt i).2.2.2 args).run Try.prog w = .ok (.enter (fnAt i).2.2.2 args) w) := hA
  have HBB : Hid (∀ i, Fit nm ss n F T N na i → ∀ W, Below w.heap.size w W → Calls Try.prog (fnAt i).2.2.2 #[Wn a n c F T N, .slice aa na ca] W (RB W (vl i))) := hB
  clear hA hB hf
  go_enter Try.func10, Try.ntmps10
  go_wp2_with fail
  go_fit k1
  rintro e w1 ⟨b1, h⟩
  obtain ⟨x0, x1, x2, x3⟩ := HC.out w1 b1
  have B1 : Hid (Below w.heap.size w w1) := HW.out.trans (b1.mono HW.out.size)
  have B2 : Hid (∀ o, Below w.heap.size w (w1.alloc o)) := fun o => B1.out.alloc B1.out.size o
  have C2 : Hid (∀ o W, Below (w1.alloc o).heap.size (w1.alloc o) W → WnC a n c F T N w.heap.size W) := (show ∀ o W, _ → _ from fun o W b => HC.out W ((b1.alloc b1.size o).trans (b.mono (Nat.le_trans b1.size (by simp)))))
  clear b1 k1 HW HC
  rcases h with ⟨s, sc, ls, fv, rfl, i, hi, h1, h2, h3, h4, h5⟩ | ⟨rfl, hn⟩
  · have HE := HA.out i hi h1
    have HB0 : Hid (Fit nm ss n F T N na i → ∀ W, Below w.heap.size w W → Calls Try.prog (fnAt i).2.2.2 #[Wn a n c F T N, .slice aa na ca] W (RB W (vl i))) := HBB.out i
    have HF : Hid (na = (fnAt i).2.1 → (fnAt i).2.2.1 ≤ n ∧ Snd ss n F T N → Fit nm ss n F T N na i) := fun g1 g2 => ⟨hi, h1, g1, g2.1, g2.2⟩
    have HN : Hid (¬ (na = (fnAt i).2.1 ∧ (fnAt i).2.2.1 ≤ n ∧ Snd ss n F T N) → ∀ j, ¬ Fit nm ss n F T N na j) := fun g j hj => by
      obtain ⟨hj1, hj2, hj3, hj4, hj5⟩ := hj
      obtain rfl := names_inj i hi j hj1 (h1.symm.trans hj2)
      exact g ⟨hj3, hj4, hj5⟩
    generalize fnAt i = x at *
    obtain ⟨xn, xs, xl, xf⟩ := x
    dsimp only at h1 h2 h3 h4 h5 HE HB0 HF HN
    subst h2 h3 h4 h5
    clear h1 HA HBB
    by_cases hs : na = xs
    · have HF2 : Hid (xl ≤ n ∧ Snd ss n F T N → Fit nm ss n F T N na i) := HF.out hs
      have HN2 : Hid (¬ (xl ≤ n ∧ Snd ss n F T N) → ∀ j, ¬ Fit nm ss n F T N na j) := fun g => HN.out (fun h => g h.2)
      subst hs
      clear HF HN
      have k20 := HH.out xl _ (B2.out (.cells (fnX s (na : Int) (xl : Int) (.func (.func xf) #[] #[])) 48))
      obtain ⟨y0, y1, y2, y3⟩ := C2.out (.cells (fnX s (na : Int) (xl : Int) (.func (.func xf) #[] #[])) 48) _ (Below.refl _ _)
      have e5 : (w1.alloc (.cells (fnX s (na : Int) (xl : Int) (.func (.func xf) #[] #[])) 48)).heap[w1.heap.size]? = some (.cells (fnX s (na : Int) (xl : Int) (.func (.func xf) #[] #[])) 48) := heap_alloc_new w1 _
      have HE5 : Hid (∀ W, Below (w1.alloc (.cells (fnX s (na : Int) (xl : Int) (.func (.func xf) #[] #[])) 48)).heap.size (w1.alloc (.cells (fnX s (na : Int) (xl : Int) (.func (.func xf) #[] #[])) 48)) W → W.cell? ⟨w1.heap.size, 3, none⟩ = some (.func (.func xf) #[] #[])) := (show ∀ W, _ → _ from fun W b => bcell b (by unfold World.cell?; rw [e5]; rfl) (by simp))
      have B3 : Hid _ := B2.out (.cells (fnX s (na : Int) (xl : Int) (.func (.func xf) #[] #[])) 48)
      have C3 : Hid _ := C2.out (.cells (fnX s (na : Int) (xl : Int) (.func (.func xf) #[] #[])) 48)
      clear e5 B2 C2 HH
      dsimp only [fnX] at k20 y0 y1 y2 y3 HE5 B3 C3
      go_wp2_with fail
      go_fit k20
      rintro e w2 ⟨b, rfl, hb, b2⟩
      have e3 := HE5.out w2 b2
      obtain ⟨z0, z1, z2, z3⟩ := C3.out w2 b2
      have B4 : Hid (Below w.heap.size w w2) := B3.out.trans (b2.mono B3.out.size)
      have HB5 : Hid (b = true ↔ xl ≤ n ∧ Snd ss n F T N) := hb
      clear k20 y0 y1 y2 y3 HE5 C3 b2 B3 hb x0 x1 x2 x3 B1
      cases b
      · have HX : Hid (∀ j, ¬ Fit nm ss n F T N na j) := HN2.out (fun h => by have := HB5.out.2 h; cases this)
        go_wp2
        go_ret2
        exact ⟨0, false, rfl, B4.out, by omega, .inl ⟨rfl, rfl, HX.out⟩⟩
      · have HX : Hid (Fit nm ss n F T N na i) := HF2.out (HB5.out.1 rfl)
        have k9 := HB0.out HX.out w2 B4.out
        clear HB0 HF2 HN2 HB5
        go_wp2_with fail
        go_fit k9
        rintro e w3 ⟨z, rfl, b3, hzl, hz⟩
        have B5 : Hid (Below w.heap.size w w3) := B4.out.trans (b3.mono B4.out.size)
        have HZ : Hid (cl z = vl i) := hz
        clear b3 hz k9
        go_wp2
        go_ret2
        exact ⟨z, true, rfl, B5.out, hzl, .inr ⟨rfl, i, HX.out, HZ.out⟩⟩
    · have HX : Hid (∀ j, ¬ Fit nm ss n F T N na j) := HN.out (fun h => hs h.1)
      have hne : ¬ (na : Int) = (xs : Int) := by omega
      clear HF HN HB0 HH C2 hs
      go_wp2
      go_ret2
      exact ⟨0, false, rfl, B2.out _, by omega, .inl ⟨rfl, rfl, HX.out⟩⟩
  · have HN : Hid (∀ j, ¬ Fit nm ss n F T N na j) := fun j hj => hn j hj.1 hj.2.1
    clear hn HA HBB
    go_wp2
    go_ret2
    exact ⟨0, false, rfl, B2.out _, by omega, .inl ⟨rfl, rfl, HN.out⟩⟩
end Go.Proofs.Ytmjenemjbpimcaa
/- Over: the points' values as a list. -/
namespace Go.Proofs.Ytmjenemjbpimcaa
open Go.RowKit

/-- The values. -/
def vls (ss : Nat → Smp) (n : Nat) : List Nat := (List.range n).map fun j => (ss j).v
theorem vls_len (ss : Nat → Smp) (n : Nat) : (vls ss n).length = n := by simp [vls]
theorem vls_at (ss : Nat → Smp) (n j : Nat) (hj : j < n) : (vls ss n).getD j 0 = (ss j).v := by simp [vls, List.getD, hj]
theorem vls_of (ss : Nat → Smp) (n : Nat) (ys : List Nat) (hl : ys.length = n) (h : ∀ j, j < n → ys.getD j 0 = (ss j).v) : ys = vls ss n := by
  apply List.ext_getElem
  · rw [hl, vls_len]
  · intro j h1 h2
    have a := h j (by omega)
    have b := vls_at ss n j (by omega)
    rw [List.getD_eq_getElem?_getD, List.getElem?_eq_getElem h1] at a
    rw [List.getD_eq_getElem?_getD, List.getElem?_eq_getElem h2] at b
    simp at a b
    rw [a, b]
theorem vls_wd {ss : Nat → Smp} {n : Nat} (h : SW ss n) : Wd (vls ss n) := fun j hj => by
  rw [vls_len] at hj
  rw [vls_at ss n j hj]
  exact (h j hj).2.2

set_option maxHeartbeats 4000000 in
set_option maxRecDepth 100000 in
theorem values_any (a : Option Addr) (n c : Nat) (ss : Nat → Smp) (w : World) (hf : Sml w a ss n) (hl : 8 * n ≤ 140737488355328) :
    Calls Try.prog 36 #[.slice a n c] w fun r w' => ∃ v, r = .returned v ∧ Fr w' w.heap.size v (vls ss n) ∧ Below w.heap.size w w' := by
  have hsf := @run_store_float Try.prog
  obtain ⟨w1, r1, o1, b1⟩ := make_f w n (by omega)
  have HF : Hid (Sml w a ss n) := hf
  have O1 : Hid (Fr w1 w.heap.size (.slice (some ⟨w.heap.size, 0, none⟩) n n) (List.replicate n 0)) := o1
  obtain ⟨G, hG⟩ : ∃ G, G = w.heap.size := ⟨_, rfl⟩
  have HG : Hid (G = w.heap.size) := hG
  rw [← hG] at r1 O1 b1
  have hb1 : Hid (Below G w w1) := b1
  clear hG hf o1 b1
  go_enter Try.func36, Try.ntmps36
  go_wp2
  go_loopw [11] (fun iv w' => ∃ (i : Nat) (ys : List Nat), iv = .int .i64 (i : Int) ∧ i ≤ n ∧ Hid (ys.length = n) ∧ Hid (Fr w' G (.slice (some ⟨G, 0, none⟩) n n) ys) ∧ Hid (∀ j, j < i → ys.getD j 0 = (ss j).v) ∧ Hid (Below G w w')) (fun iv _ => n - (RowKit.intOf iv).toNat)
  case atStart => exact ⟨0, _, rfl, by omega, (by simp : _ = _), O1, fun j hj => absurd hj (by omega), hb1⟩
  case round =>
    obtain ⟨i, ys, rfl, hi, hyl, o, hls, hb⟩ := hrel
    by_cases hlt : i < n
    · have hii : (i : Int) < (n : Int) := by omega
      rcases HF.out with h0 | ⟨g, o', rfl, hg, hat⟩
      · omega
      obtain ⟨f1, f2, f3⟩ := hat i hlt
      have hgG : g < G := by rw [HG.out]; exact hg
      have q1 := (hb.out.cell (p := ⟨g, o' + i * 3, none⟩) hgG).trans f1
      have q2 := (hb.out.cell (p := ⟨g, o' + i * 3 + 1, none⟩) hgG).trans f2
      have q3 := (hb.out.cell (p := ⟨g, o' + i * 3 + 2, none⟩) hgG).trans f3
      have HI : Hid (i + 1 ≤ n) := hlt
      have HV : Hid (∀ v, v = (ss i).v → ∀ j, j < i + 1 → (ys.set i v).getD j 0 = (ss j).v) := (show ∀ v, _ → ∀ j, _ → _ from fun v hv j hj => by
        have hyl2 : i < ys.length := by rw [hyl.out]; exact hlt
        by_cases hji : j = i
        · subst hji
          rw [List.getD_eq_getElem?_getD, List.getElem?_set_self hyl2]
          exact hv
        · rw [List.getD_eq_getElem?_getD, List.getElem?_set_ne (by omega), ← List.getD_eq_getElem?_getD]
          exact hls.out j (by omega))
      clear f1 f2 f3 hat hls hg
      obtain ⟨u, hu⟩ : ∃ u, ss i = u := ⟨_, rfl⟩
      rw [hu] at q1 q2 q3 HV
      clear hu
      have hGs : G ≤ wr.heap.size := by rw [HG.out]; exact Nat.le_trans (Nat.le_of_eq HG.out.symm) (by rw [HG.out]; exact hb.out.size)
      have o2 := o.out.below ((Below.refl _ wr).alloc (Nat.le_refl _) (cp u))
      rw [← hyl.out] at o2
      have hc2 := o2.cell i (by rw [hyl.out]; exact hlt)
      have hf2 := o2.froz i
      have o3 := o2.set i u.v
      rw [hyl.out] at o3
      have O3 : Hid _ := o3
      have Y3 : Hid ((ys.set i u.v).length = n) := by show _ = _; rw [List.length_set, hyl.out]
      have V3 : Hid _ := HV.out u.v rfl
      have hb3 : Hid (Below G w ((wr.alloc (cp u)).setCell ⟨G, i, none⟩ (.float .f64 u.v))) := (hb.out.alloc hGs _).setCell (p := ⟨G, i, none⟩) (Nat.le_refl _) _
      have n1 := cp_cell wr u 1 (.float .f64 u.v) rfl
      generalize ys.getD i 0 = old at *
      clear o2 o3 HV hGs hgG
      go_wp2
      exact ⟨⟨i + 1, _, by go_num, HI.out, Y3, O3, V3, hb3⟩, by simp [RowKit.intOf]; omega⟩
    · have hii : ¬ (i : Int) < (n : Int) := by omega
      obtain rfl : i = n := by omega
      have e := vls_of ss i ys hyl.out hls.out
      subst e
      have O3 : Hid (Fr wr w.heap.size (.slice (some ⟨G, 0, none⟩) i i) (vls ss i)) := (show Fr _ _ _ _ by rw [← HG.out]; exact o.out)
      have B3 : Hid (Below w.heap.size w wr) := (show Below _ _ _ by rw [← HG.out]; exact hb.out)
      clear o hb
      go_wp2
      go_ret
      exact ⟨_, rfl, O3.out, B3.out⟩
end Go.Proofs.Ytmjenemjbpimcaa
