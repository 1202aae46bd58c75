/- strings.Builder's writes, and measured. -/
import Derived.Test.YtjmninjaoemhjabDoorKe
import Derived.Shelf.Strings.BuilderK
import Derived.Lib.ItoaLen
namespace Go.Proofs
open Go.Shelf
def Tryd.laysW_ren : Go.Shelf.Ren := ⟨fun | 166 => 16 | 167 => 18 | 240 => 24 | 276 => 30 | n => n, fun | 37 => 39 | 70 => 38 | 72 => 41 | 75 => 51 | 80 => 43 | 164 => 63 | n => n, fun | n => n⟩
theorem Tryd.lays166 : Go.Proofs.Lays.n166 Tryd.prog Tryd.laysW_ren := {
  mixed := by kernel_rfl
  f166 := Tryd.func16.trans (congrArg some (by kernel_rfl))
  f240 := Tryd.func24.trans (congrArg some (by kernel_rfl))
  f276 := Tryd.func30.trans (congrArg some (by kernel_rfl))
  t0 := Tryd.underlying0
  a0 := Tryd.isAgg0
  z0 := Tryd.sizeOf0
  v0 := Tryd.zeroValue0
  t3 := Tryd.underlying3
  a3 := Tryd.isAgg3
  z3 := Tryd.sizeOf3
  v3 := Tryd.zeroValue3
  t4 := Tryd.underlying4
  a4 := Tryd.isAgg4
  z4 := Tryd.sizeOf4
  v4 := Tryd.zeroValue4
  t9 := Tryd.underlying9
  a9 := Tryd.isAgg9
  z9 := Tryd.sizeOf9
  v9 := Tryd.zeroValue9
  t20 := Tryd.underlying20
  a20 := Tryd.isAgg20
  z20 := Tryd.sizeOf20
  v20 := Tryd.zeroValue20
  t37 := Tryd.underlying39
  a37 := Tryd.isAgg39
  z37 := Tryd.sizeOf39
  v37 := Tryd.zeroValue39
  t70 := Tryd.underlying38
  a70 := Tryd.isAgg38
  z70 := Tryd.sizeOf38
  v70 := Tryd.zeroValue38
  t72 := Tryd.underlying41
  a72 := Tryd.isAgg41
  z72 := Tryd.sizeOf41
  v72 := Tryd.zeroValue41
  t75 := Tryd.underlying51
  a75 := Tryd.isAgg51
  z75 := Tryd.sizeOf51
  v75 := Tryd.zeroValue51
  t164 := Tryd.underlying63
  a164 := Tryd.isAgg63
  z164 := Tryd.sizeOf63
  v164 := Tryd.zeroValue63 }
theorem Tryd.lays167 : Go.Proofs.Lays.n167 Tryd.prog Tryd.laysW_ren := {
  mixed := by kernel_rfl
  f167 := Tryd.func18.trans (congrArg some (by kernel_rfl))
  f240 := Tryd.func24.trans (congrArg some (by kernel_rfl))
  f276 := Tryd.func30.trans (congrArg some (by kernel_rfl))
  t0 := Tryd.underlying0
  a0 := Tryd.isAgg0
  z0 := Tryd.sizeOf0
  v0 := Tryd.zeroValue0
  t4 := Tryd.underlying4
  a4 := Tryd.isAgg4
  z4 := Tryd.sizeOf4
  v4 := Tryd.zeroValue4
  t5 := Tryd.underlying5
  a5 := Tryd.isAgg5
  z5 := Tryd.sizeOf5
  v5 := Tryd.zeroValue5
  t9 := Tryd.underlying9
  a9 := Tryd.isAgg9
  z9 := Tryd.sizeOf9
  v9 := Tryd.zeroValue9
  t20 := Tryd.underlying20
  a20 := Tryd.isAgg20
  z20 := Tryd.sizeOf20
  v20 := Tryd.zeroValue20
  t37 := Tryd.underlying39
  a37 := Tryd.isAgg39
  z37 := Tryd.sizeOf39
  v37 := Tryd.zeroValue39
  t70 := Tryd.underlying38
  a70 := Tryd.isAgg38
  z70 := Tryd.sizeOf38
  v70 := Tryd.zeroValue38
  t72 := Tryd.underlying41
  a72 := Tryd.isAgg41
  z72 := Tryd.sizeOf41
  v72 := Tryd.zeroValue41
  t75 := Tryd.underlying51
  a75 := Tryd.isAgg51
  z75 := Tryd.sizeOf51
  v75 := Tryd.zeroValue51
  t164 := Tryd.underlying63
  a164 := Tryd.isAgg63
  z164 := Tryd.sizeOf63
  v164 := Tryd.zeroValue63 }
theorem Tryd.Builder_Extra_W : Builder.Extra Tryd.prog Tryd.laysW_ren := {
  sizeBuilder := by kernel_rfl
  liesBuilder := by kernel_rfl
  t5 := Tryd.underlying5
  a5 := Tryd.isAgg5
  z5 := Tryd.sizeOf5
  v5 := Tryd.zeroValue5
  infoByte := by kernel_rfl
  cellsByte := by kernel_rfl
  sizeByte := by kernel_rfl
  neB5 := by decide }
end Go.Proofs
namespace Go.Proofs
open Go.RowKit Go.Lib in
theorem Tryd.WriteString_k (B b : Nat) (bs : List Value) (s : ByteArray) (w : World) (h : Lib.IsBuilderF 41 5 B b bs w) (hlen : bs.length + s.size ≤ 140737488355328) (hBw : B ≤ w.heap.size) :
    Calls Tryd.prog 16 #[.pointer (some ⟨b, 0, none⟩), .string s] w fun e w' => e = .returned (.tuple #[.int .i64 s.size, .nilIface]) ∧ (Lib.BuilderAtF 41 5 B b (.pointer (some ⟨b, 0, none⟩)) (bs ++ Lib.strCells s) w' ∧ Below B w w' ∧ Lib.OthersKept 5 (some b) w w') := Any.Builder_WriteString_k Tryd.lays166 Tryd.Builder_Extra_W B b bs s w h hlen hBw
open Go.RowKit Go.Lib in
theorem Tryd.WriteByte_k (B b : Nat) (bs : List Value) (c : Int) (w : World) (h : Lib.IsBuilderF 41 5 B b bs w) (hlen : bs.length + 1 ≤ 140737488355328) (hBw : B ≤ w.heap.size) :
    Calls Tryd.prog 18 #[.pointer (some ⟨b, 0, none⟩), .int .u8 c] w fun e w' => e = .returned .nilIface ∧ (Lib.BuilderAtF 41 5 B b (.pointer (some ⟨b, 0, none⟩)) (bs ++ [.int .u8 c]) w' ∧ Below B w w' ∧ Lib.OthersKept 5 (some b) w w') := Any.Builder_WriteByte_k Tryd.lays167 Tryd.Builder_Extra_W B b bs c w h hlen hBw
open Go.RowKit Go.Lib in
theorem Tryd.Builder_String_any_k (B b : Nat) (l : List UInt8) (w : World) (h : Lib.IsBuilderF 41 5 B b (Lib.byteCells l) w) (hBw : B ≤ w.heap.size) :
    Calls Tryd.prog 11 #[.pointer (some ⟨b, 0, none⟩)] w fun e w' => e = .returned (.string ⟨l.toArray⟩) ∧ (Lib.IsBuilderF 41 5 B b (Lib.byteCells l) w' ∧ Below B w w' ∧ Lib.OthersKept 5 (some b) w w') := Any.Builder_String_any_k Tryd.lays169 Tryd.Builder_Extra_169 B b l w h hBw
end Go.Proofs
namespace Go.Proofs.YtjmninjaoemhjabDoor
open Go.RowKit Go.Lib Go.Shelf Go.Sort

attribute [local go_sem] Oper.semAt_some

theorem gr_below {w w' : World} (h : Below w.heap.size w w') : w.grownBy w' none := ⟨h.os, h.tape, h.output, h.size, fun k hk _ => h.block k hk⟩
theorem builder_below {B b : Nat} {bs : List Value} {w w' : World} (h : Lib.IsBuilderF 41 5 B b bs w) (hb : Below w.heap.size w w') : Lib.IsBuilderF 41 5 B b bs w' := by
  have key : ∀ p, Lib.BuilderAtF 41 5 B b p bs w → Lib.BuilderAtF 41 5 B b p bs w' := by
    rintro p ⟨h1, v, h2, h3, h4⟩
    exact ⟨h1, v, (hb.block b (Array.getElem?_eq_some_iff.1 h2).1).trans h2, h3.kept (gr_below hb) (by cases v.ownBlock <;> simp), h4⟩
  rcases h with h | h
  · exact .inl (key _ h)
  · exact .inr (key _ h)
theorem bc_app (l : List UInt8) (s : ByteArray) : Lib.byteCells l ++ Lib.strCells s = Lib.byteCells (l ++ s.data.toList) := by simp [Lib.byteCells, Lib.strCells]
theorem bc_len (l : List UInt8) : (Lib.byteCells l).length = l.length := by simp [Lib.byteCells]
theorem bc_58 (l : List UInt8) : Lib.byteCells l ++ [.int .u8 58] = Lib.byteCells (l ++ [58]) := by simp [Lib.byteCells]
theorem others_below {w w' : World} {b : Option Nat} (h : Below w.heap.size w w') : Lib.OthersKept 5 b w w' := fun k _ hk _ _ => (h.block k (Array.getElem?_eq_some_iff.1 hk).1).trans hk
theorem below_grown (w : World) (k : Nat) (os : Array Obj) : Below w.heap.size w (Go.Sort.grow (w.drewN k) os) :=
  ⟨rfl, rfl, rfl, by simp [Go.Sort.grow, World.drewN], fun i hi => by simp [Go.Sort.grow, World.drewN, Array.getElem?_append, hi]⟩
/-- The table that Itoa reads. -/
abbrev TbI (w : World) : Prop := Lib.TabIs Tryd.prog w "internal/strconv.uint64pow10" .u64 Lib.pow10Tab
theorem pow_at : Tryd.prog.globalNamed "internal/strconv.uint64pow10" = some 0 := by kernel_rfl
theorem TbI.low {w w' : World} {m : Nat} (h : TbI w) (hm : 0 < m) (hb : Below m w w') : TbI w' := by
  unfold TbI Lib.TabIs World.var? at *
  rw [pow_at] at h ⊢
  simp only [Option.bind_some] at h ⊢
  rw [hb.block 0 hm]
  exact h
/-- A text with its length ahead. -/
def ms (s : ByteArray) : List UInt8 := Lib.itoa (s.size : Int) ++ 58 :: s.data.toList
theorem ms_len (s : ByteArray) (h : s.size ≤ 140737488355328) : (ms s).length ≤ s.size + 22 := by
  have := Lib.itoa_length_le (s.size : Int) (by omega) (by omega)
  unfold ms
  simp
  show _ ≤ s.data.size + 22
  have e : s.size = s.data.size := rfl
  omega
set_option maxRecDepth 100000 in
set_option maxHeartbeats 4000000 in
theorem measured_any (B b : Nat) (l : List UInt8) (s : ByteArray) (w : World) (h : Lib.IsBuilderF 41 5 B b (Lib.byteCells l) w) (hl : l.length + s.size + 22 ≤ 140737488355328) (hBw : B ≤ w.heap.size) (ht : TbI w) :
    Calls Tryd.prog 10 #[.pointer (some ⟨b, 0, none⟩), .string s] w fun e w' => e = .returned (.tuple #[]) ∧ Lib.IsBuilderF 41 5 B b (Lib.byteCells (l ++ ms s)) w' ∧ Below B w w' ∧ Lib.OthersKept 5 (some b) w w' := by
  have hil := Lib.itoa_length_le (s.size : Int) (by omega) (by omega)
  have k0 := Tryd.strconv_Itoa (s.size : Int) (by omega) (by omega) w ht
  have HMS : Hid (ms s = Lib.itoa (s.size : Int) ++ 58 :: s.data.toList) := rfl
  generalize Lib.itoa (s.size : Int) = I at k0 hil HMS
  have hsI : (s.size : Int) ≤ 140737488355328 := by omega
  clear ht
  go_enter Tryd.func10, Tryd.ntmps10
  go_wp2_with fail
  go_fit k0
  rintro e w1 ⟨rfl, k, os, rfl⟩
  have hb1 := below_grown w k os
  generalize Go.Sort.grow (w.drewN k) os = w1 at hb1 ⊢
  have k1 := Tryd.WriteString_k B b _ ⟨I.toArray⟩ w1 (builder_below h hb1) (by rw [bc_len]; show l.length + I.toArray.size ≤ _; simp; omega) (Nat.le_trans hBw hb1.size)
  go_wp2_with fail
  go_fit k1
  rintro e w2 ⟨rfl, h2, hb2, ho2⟩
  rw [bc_app] at h2
  have k2 := Tryd.WriteByte_k B b _ 58 w2 (.inr h2) (by rw [bc_len]; simp; omega) (Nat.le_trans (Nat.le_trans hBw hb1.size) hb2.size)
  go_wp2_with fail
  go_fit k2
  rintro e w3 ⟨rfl, h3, hb3, ho3⟩
  rw [bc_58] at h3
  have k3 := Tryd.WriteString_k B b _ s w3 (.inr h3) (by rw [bc_len]; simp; omega) (Nat.le_trans (Nat.le_trans (Nat.le_trans hBw hb1.size) hb2.size) hb3.size)
  go_wp2_with fail
  go_fit k3
  rintro e w4 ⟨rfl, h4, hb4, ho4⟩
  rw [bc_app] at h4
  go_wp2
  go_end0
  refine ⟨rfl, ?_, (((hb1.mono hBw).trans hb2).trans hb3).trans hb4, (((others_below hb1).trans ho2).trans ho3).trans ho4⟩
  rw [HMS.out]
  have e : l ++ I ++ [58] ++ s.data.toList = l ++ (I ++ 58 :: s.data.toList) := by simp
  rw [← e]
  exact .inr h4
end Go.Proofs.YtjmninjaoemhjabDoor
