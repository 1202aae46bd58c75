/- A bundle of texts. -/
import Derived.Test.YtbciclnffokjjaaBm20
import Derived.Lib.OthersKept
import Derived.Lib.TrimU
import Derived.Deep.LoopGhost
/- Programs run: wordByte, goes. -/
namespace Go.Proofs.Ytbciclnffokjjaa
open Go.RowKit

/-- The byte at a place, -1 where none stands. -/
def byF (s : ByteArray) (i : Int) : Int := if h : 0 ≤ i ∧ i < s.size then ((s[i.toNat]'(by omega)).toNat : Int) else -1
theorem byF_nat (s : ByteArray) (k : Nat) (h : k < s.size) : byF s (k : Int) = ((s[k]'h).toNat : Int) := by
  unfold byF
  rw [dif_pos (by omega)]
  rfl
theorem byF_out (s : ByteArray) (i : Int) (h : i < 0 ∨ (s.size : Int) ≤ i) : byF s i = -1 := by
  unfold byF
  rw [dif_neg (by omega)]
def wbB (s : ByteArray) (i : Int) : Bool := wdB (byF s i)

set_option maxHeartbeats 2000000 in
set_option maxRecDepth 100000 in
theorem wordByte_any (s : ByteArray) (i : Int) (w : World) :
    Calls Try.prog 72 #[.string s, .int .i64 i] w fun e w' => e = .returned (.bool (wbB s i)) ∧ w' = w := by
  by_cases h0 : i < 0
  · have HE : Hid (wbB s i = false) := by unfold Hid wbB; rw [byF_out s i (.inl h0)]; rfl
    go_enter Try.func72, Try.ntmps72
    go_wp2
    go_ret
    exact ⟨ret_bool HE.out.symm, rfl⟩
  by_cases h1 : (s.size : Int) ≤ i
  · have HE : Hid (wbB s i = false) := by unfold Hid wbB; rw [byF_out s i (.inr h1)]; rfl
    go_enter Try.func72, Try.ntmps72
    go_wp2
    go_ret
    exact ⟨ret_bool HE.out.symm, rfl⟩
  obtain ⟨k, rfl⟩ : ∃ k : Nat, i = (k : Int) := ⟨i.toNat, by omega⟩
  have hk : k < s.size := by omega
  have hkI : (k : Int) < s.size := by omega
  have hn0 : ¬ (k : Int) < 0 := by omega
  obtain ⟨C, hC⟩ : ∃ C : Int, ((s[k]'hk).toNat : Int) = C := ⟨_, rfl⟩
  have HE : Hid (wbB s (k : Int) = wdB C) := by unfold Hid wbB; rw [byF_nat s k hk, hC]
  have HW : Hid (wdB C = (decide (48 ≤ C) && decide (C ≤ 57) || decide (65 ≤ C) && decide (C ≤ 90) || decide (97 ≤ C) && decide (C ≤ 122) || decide (C = 95))) := by
    unfold Hid wdB dgB ltB
    rw [Bool.eq_iff_iff]
    simp
    omega
  have hidx : ∀ W : World, Sem.run Try.prog (Instr.index 9 (.string s) (.int .i64 (k : Int))) W = .ok (.int .u8 C) W := fun W => by
    rw [← hC]
    simp [go_sem, hkI]
  clear h0 h1
  by_cases c48 : 48 ≤ C
  all_goals by_cases c57 : C ≤ 57
  all_goals by_cases c65 : 65 ≤ C
  all_goals by_cases c90 : C ≤ 90
  all_goals by_cases c97 : 97 ≤ C
  all_goals by_cases c122 : C ≤ 122
  all_goals cases c95 : (C == 95)
  all_goals first
    | (exfalso; simp at c95; omega)
    | (go_enter Try.func72, Try.ntmps72
       go_wp2
       go_ret
       refine ⟨ret_bool ?_, rfl⟩
       rw [HE.out, HW.out]
       simp at c95
       simp
       omega)

/-- Does an instruction that takes nothing go on at a place? -/
def goB (op arg : Int) (s : ByteArray) (i : Int) : Bool :=
  if op = 3 ∨ op = 4 ∨ op = 10 then true
  else if op = 5 then i == 0
  else if op = 6 then i == (s.size : Int)
  else if op = 7 then i == 0 || byF s (i - 1) == 10
  else if op = 8 then i == (s.size : Int) || byF s i == 10
  else if op = 9 then ((wbB s (i - 1) != wbB s i) == (arg == 0))
  else false
end Go.Proofs.Ytbciclnffokjjaa
/- Programs run: goes. -/
namespace Go.Proofs.Ytbciclnffokjjaa
open Go.RowKit

set_option maxHeartbeats 1000000 in
set_option maxRecDepth 100000 in
theorem goes_t3 (op out alt arg : Int) (a : Option Addr) (n cc : Nat) (s : ByteArray) (i : Int) (w : World) (hi0 : 0 ≤ i) (hi1 : i ≤ s.size) (hs : (s.size : Int) ≤ 4611686018427387904) (hk : op = 3) :
    Calls Try.prog 50 #[inV op out alt arg a n cc, .string s, .int .i64 i] w fun e w' => e = .returned (.bool true) ∧ Below w.heap.size w w' := by
  have HB : Hid (∀ o, Below w.heap.size w (w.alloc o)) := fun o => (Below.refl _ w).alloc (Nat.le_refl _) o
  have k1 := fun W => wordByte_any s (i - 1) W
  have k2 := fun W => wordByte_any s i W
  have t3 : (op == 3) = true := by simp; omega
  have t4 : (op == 4) = false := by simp; omega
  have t10 : (op == 10) = false := by simp; omega
  have t5 : (op == 5) = false := by simp; omega
  have t6 : (op == 6) = false := by simp; omega
  have t7 : (op == 7) = false := by simp; omega
  have t8 : (op == 8) = false := by simp; omega
  have t9 : (op == 9) = false := by simp; omega
  clear hk
  go_enter Try.func50, Try.ntmps50
  go_wp2_with fail
  go_fit (k1 _)
  rintro e w1 ⟨rfl, rfl⟩
  go_wp2_with fail
  go_fit (k2 _)
  rintro e w1 ⟨rfl, rfl⟩
  clear k1 k2
  go_wp2
  go_ret
  exact ⟨rfl, HB.out _⟩

set_option maxHeartbeats 1000000 in
set_option maxRecDepth 100000 in
theorem goes_t4 (op out alt arg : Int) (a : Option Addr) (n cc : Nat) (s : ByteArray) (i : Int) (w : World) (hi0 : 0 ≤ i) (hi1 : i ≤ s.size) (hs : (s.size : Int) ≤ 4611686018427387904) (hk : op = 4) :
    Calls Try.prog 50 #[inV op out alt arg a n cc, .string s, .int .i64 i] w fun e w' => e = .returned (.bool true) ∧ Below w.heap.size w w' := by
  have HB : Hid (∀ o, Below w.heap.size w (w.alloc o)) := fun o => (Below.refl _ w).alloc (Nat.le_refl _) o
  have k1 := fun W => wordByte_any s (i - 1) W
  have k2 := fun W => wordByte_any s i W
  have t3 : (op == 3) = false := by simp; omega
  have t4 : (op == 4) = true := by simp; omega
  have t10 : (op == 10) = false := by simp; omega
  have t5 : (op == 5) = false := by simp; omega
  have t6 : (op == 6) = false := by simp; omega
  have t7 : (op == 7) = false := by simp; omega
  have t8 : (op == 8) = false := by simp; omega
  have t9 : (op == 9) = false := by simp; omega
  clear hk
  go_enter Try.func50, Try.ntmps50
  go_wp2_with fail
  go_fit (k1 _)
  rintro e w1 ⟨rfl, rfl⟩
  go_wp2_with fail
  go_fit (k2 _)
  rintro e w1 ⟨rfl, rfl⟩
  clear k1 k2
  go_wp2
  go_ret
  exact ⟨rfl, HB.out _⟩

set_option maxHeartbeats 1000000 in
set_option maxRecDepth 100000 in
theorem goes_t10 (op out alt arg : Int) (a : Option Addr) (n cc : Nat) (s : ByteArray) (i : Int) (w : World) (hi0 : 0 ≤ i) (hi1 : i ≤ s.size) (hs : (s.size : Int) ≤ 4611686018427387904) (hk : op = 10) :
    Calls Try.prog 50 #[inV op out alt arg a n cc, .string s, .int .i64 i] w fun e w' => e = .returned (.bool true) ∧ Below w.heap.size w w' := by
  have HB : Hid (∀ o, Below w.heap.size w (w.alloc o)) := fun o => (Below.refl _ w).alloc (Nat.le_refl _) o
  have k1 := fun W => wordByte_any s (i - 1) W
  have k2 := fun W => wordByte_any s i W
  have t3 : (op == 3) = false := by simp; omega
  have t4 : (op == 4) = false := by simp; omega
  have t10 : (op == 10) = true := by simp; omega
  have t5 : (op == 5) = false := by simp; omega
  have t6 : (op == 6) = false := by simp; omega
  have t7 : (op == 7) = false := by simp; omega
  have t8 : (op == 8) = false := by simp; omega
  have t9 : (op == 9) = false := by simp; omega
  clear hk
  go_enter Try.func50, Try.ntmps50
  go_wp2_with fail
  go_fit (k1 _)
  rintro e w1 ⟨rfl, rfl⟩
  go_wp2_with fail
  go_fit (k2 _)
  rintro e w1 ⟨rfl, rfl⟩
  clear k1 k2
  go_wp2
  go_ret
  exact ⟨rfl, HB.out _⟩

set_option maxHeartbeats 1000000 in
set_option maxRecDepth 100000 in
theorem goes_t5 (op out alt arg : Int) (a : Option Addr) (n cc : Nat) (s : ByteArray) (i : Int) (w : World) (hi0 : 0 ≤ i) (hi1 : i ≤ s.size) (hs : (s.size : Int) ≤ 4611686018427387904) (hk : op = 5) :
    Calls Try.prog 50 #[inV op out alt arg a n cc, .string s, .int .i64 i] w fun e w' => e = .returned (.bool (i == 0)) ∧ Below w.heap.size w w' := by
  have HB : Hid (∀ o, Below w.heap.size w (w.alloc o)) := fun o => (Below.refl _ w).alloc (Nat.le_refl _) o
  have k1 := fun W => wordByte_any s (i - 1) W
  have k2 := fun W => wordByte_any s i W
  have t3 : (op == 3) = false := by simp; omega
  have t4 : (op == 4) = false := by simp; omega
  have t10 : (op == 10) = false := by simp; omega
  have t5 : (op == 5) = true := by simp; omega
  have t6 : (op == 6) = false := by simp; omega
  have t7 : (op == 7) = false := by simp; omega
  have t8 : (op == 8) = false := by simp; omega
  have t9 : (op == 9) = false := by simp; omega
  clear hk
  go_enter Try.func50, Try.ntmps50
  go_wp2_with fail
  go_fit (k1 _)
  rintro e w1 ⟨rfl, rfl⟩
  go_wp2_with fail
  go_fit (k2 _)
  rintro e w1 ⟨rfl, rfl⟩
  clear k1 k2
  go_wp2
  go_ret
  exact ⟨rfl, HB.out _⟩

set_option maxHeartbeats 1000000 in
set_option maxRecDepth 100000 in
theorem goes_t6 (op out alt arg : Int) (a : Option Addr) (n cc : Nat) (s : ByteArray) (i : Int) (w : World) (hi0 : 0 ≤ i) (hi1 : i ≤ s.size) (hs : (s.size : Int) ≤ 4611686018427387904) (hk : op = 6) :
    Calls Try.prog 50 #[inV op out alt arg a n cc, .string s, .int .i64 i] w fun e w' => e = .returned (.bool (i == (s.size : Int))) ∧ Below w.heap.size w w' := by
  have HB : Hid (∀ o, Below w.heap.size w (w.alloc o)) := fun o => (Below.refl _ w).alloc (Nat.le_refl _) o
  have k1 := fun W => wordByte_any s (i - 1) W
  have k2 := fun W => wordByte_any s i W
  have t3 : (op == 3) = false := by simp; omega
  have t4 : (op == 4) = false := by simp; omega
  have t10 : (op == 10) = false := by simp; omega
  have t5 : (op == 5) = false := by simp; omega
  have t6 : (op == 6) = true := by simp; omega
  have t7 : (op == 7) = false := by simp; omega
  have t8 : (op == 8) = false := by simp; omega
  have t9 : (op == 9) = false := by simp; omega
  clear hk
  go_enter Try.func50, Try.ntmps50
  go_wp2_with fail
  go_fit (k1 _)
  rintro e w1 ⟨rfl, rfl⟩
  go_wp2_with fail
  go_fit (k2 _)
  rintro e w1 ⟨rfl, rfl⟩
  clear k1 k2
  go_wp2
  go_ret
  exact ⟨rfl, HB.out _⟩

set_option maxHeartbeats 1000000 in
set_option maxRecDepth 100000 in
theorem goes_t7a (op out alt arg : Int) (a : Option Addr) (n cc : Nat) (s : ByteArray) (i : Int) (w : World) (hi0 : 0 ≤ i) (hi1 : i ≤ s.size) (hs : (s.size : Int) ≤ 4611686018427387904) (hk : op = 7) (h0 : i = 0) :
    Calls Try.prog 50 #[inV op out alt arg a n cc, .string s, .int .i64 i] w fun e w' => e = .returned (.bool true) ∧ Below w.heap.size w w' := by
  have HB : Hid (∀ o, Below w.heap.size w (w.alloc o)) := fun o => (Below.refl _ w).alloc (Nat.le_refl _) o
  have k1 := fun W => wordByte_any s (i - 1) W
  have k2 := fun W => wordByte_any s i W
  have t3 : (op == 3) = false := by simp; omega
  have t4 : (op == 4) = false := by simp; omega
  have t10 : (op == 10) = false := by simp; omega
  have t5 : (op == 5) = false := by simp; omega
  have t6 : (op == 6) = false := by simp; omega
  have t7 : (op == 7) = true := by simp; omega
  have t8 : (op == 8) = false := by simp; omega
  have t9 : (op == 9) = false := by simp; omega
  have z0 : (i == 0) = true := by simpa using h0
  clear hk h0
  go_enter Try.func50, Try.ntmps50
  go_wp2_with fail
  go_fit (k1 _)
  rintro e w1 ⟨rfl, rfl⟩
  go_wp2_with fail
  go_fit (k2 _)
  rintro e w1 ⟨rfl, rfl⟩
  clear k1 k2
  go_wp2
  go_ret
  exact ⟨rfl, HB.out _⟩

set_option maxHeartbeats 1000000 in
set_option maxRecDepth 100000 in
theorem goes_t7b (op out alt arg : Int) (a : Option Addr) (n cc : Nat) (s : ByteArray) (i : Int) (w : World) (hi0 : 0 ≤ i) (hi1 : i ≤ s.size) (hs : (s.size : Int) ≤ 4611686018427387904) (hk : op = 7) (h0 : ¬ i = 0) :
    Calls Try.prog 50 #[inV op out alt arg a n cc, .string s, .int .i64 i] w fun e w' => e = .returned (.bool (byF s (i - 1) == 10)) ∧ Below w.heap.size w w' := by
  have HB : Hid (∀ o, Below w.heap.size w (w.alloc o)) := fun o => (Below.refl _ w).alloc (Nat.le_refl _) o
  have k1 := fun W => wordByte_any s (i - 1) W
  have k2 := fun W => wordByte_any s i W
  have t3 : (op == 3) = false := by simp; omega
  have t4 : (op == 4) = false := by simp; omega
  have t10 : (op == 10) = false := by simp; omega
  have t5 : (op == 5) = false := by simp; omega
  have t6 : (op == 6) = false := by simp; omega
  have t7 : (op == 7) = true := by simp; omega
  have t8 : (op == 8) = false := by simp; omega
  have t9 : (op == 9) = false := by simp; omega
  have z0 : (i == 0) = false := by simpa using h0
  obtain ⟨k, hk'⟩ : ∃ k : Nat, i - 1 = (k : Int) := ⟨(i - 1).toNat, by omega⟩
  have hkl : k < s.size := by omega
  have hkI : (k : Int) < s.size := by omega
  obtain ⟨C, hC⟩ : ∃ C : Int, byF s (i - 1) = C := ⟨_, rfl⟩
  have hidx : ∀ W : World, Sem.run Try.prog (Instr.index 9 (.string s) (.int .i64 (i - 1))) W = .ok (.int .u8 C) W := fun W => by
    rw [hk'] at hC ⊢
    rw [← hC, byF_nat s k hkl]
    simp [go_sem, hkI]
  have HC : Hid (byF s (i - 1) = C) := hC
  clear hk h0 hk' hkl hkI hC
  go_enter Try.func50, Try.ntmps50
  go_wp2_with fail
  go_fit (k1 _)
  rintro e w1 ⟨rfl, rfl⟩
  go_wp2_with fail
  go_fit (k2 _)
  rintro e w1 ⟨rfl, rfl⟩
  clear k1 k2
  go_wp2
  go_ret
  exact ⟨ret_bool (by rw [HC.out]), HB.out _⟩

set_option maxHeartbeats 1000000 in
set_option maxRecDepth 100000 in
theorem goes_t8a (op out alt arg : Int) (a : Option Addr) (n cc : Nat) (s : ByteArray) (i : Int) (w : World) (hi0 : 0 ≤ i) (hi1 : i ≤ s.size) (hs : (s.size : Int) ≤ 4611686018427387904) (hk : op = 8) (h0 : i = s.size) :
    Calls Try.prog 50 #[inV op out alt arg a n cc, .string s, .int .i64 i] w fun e w' => e = .returned (.bool true) ∧ Below w.heap.size w w' := by
  have HB : Hid (∀ o, Below w.heap.size w (w.alloc o)) := fun o => (Below.refl _ w).alloc (Nat.le_refl _) o
  have k1 := fun W => wordByte_any s (i - 1) W
  have k2 := fun W => wordByte_any s i W
  have t3 : (op == 3) = false := by simp; omega
  have t4 : (op == 4) = false := by simp; omega
  have t10 : (op == 10) = false := by simp; omega
  have t5 : (op == 5) = false := by simp; omega
  have t6 : (op == 6) = false := by simp; omega
  have t7 : (op == 7) = false := by simp; omega
  have t8 : (op == 8) = true := by simp; omega
  have t9 : (op == 9) = false := by simp; omega
  have z0 : (i == (s.size : Int)) = true := by simpa using h0
  clear hk h0
  go_enter Try.func50, Try.ntmps50
  go_wp2_with fail
  go_fit (k1 _)
  rintro e w1 ⟨rfl, rfl⟩
  go_wp2_with fail
  go_fit (k2 _)
  rintro e w1 ⟨rfl, rfl⟩
  clear k1 k2
  go_wp2
  go_ret
  exact ⟨rfl, HB.out _⟩

set_option maxHeartbeats 1000000 in
set_option maxRecDepth 100000 in
theorem goes_t8b (op out alt arg : Int) (a : Option Addr) (n cc : Nat) (s : ByteArray) (i : Int) (w : World) (hi0 : 0 ≤ i) (hi1 : i ≤ s.size) (hs : (s.size : Int) ≤ 4611686018427387904) (hk : op = 8) (h0 : ¬ i = s.size) :
    Calls Try.prog 50 #[inV op out alt arg a n cc, .string s, .int .i64 i] w fun e w' => e = .returned (.bool (byF s i == 10)) ∧ Below w.heap.size w w' := by
  have HB : Hid (∀ o, Below w.heap.size w (w.alloc o)) := fun o => (Below.refl _ w).alloc (Nat.le_refl _) o
  have k1 := fun W => wordByte_any s (i - 1) W
  have k2 := fun W => wordByte_any s i W
  have t3 : (op == 3) = false := by simp; omega
  have t4 : (op == 4) = false := by simp; omega
  have t10 : (op == 10) = false := by simp; omega
  have t5 : (op == 5) = false := by simp; omega
  have t6 : (op == 6) = false := by simp; omega
  have t7 : (op == 7) = false := by simp; omega
  have t8 : (op == 8) = true := by simp; omega
  have t9 : (op == 9) = false := by simp; omega
  have z0 : (i == (s.size : Int)) = false := by simpa using h0
  obtain ⟨k, hk'⟩ : ∃ k : Nat, i = (k : Int) := ⟨i.toNat, by omega⟩
  have hkl : k < s.size := by omega
  have hkI : (k : Int) < s.size := by omega
  obtain ⟨C, hC⟩ : ∃ C : Int, byF s i = C := ⟨_, rfl⟩
  have hidx : ∀ W : World, Sem.run Try.prog (Instr.index 9 (.string s) (.int .i64 i)) W = .ok (.int .u8 C) W := fun W => by
    rw [hk'] at hC ⊢
    rw [← hC, byF_nat s k hkl]
    simp [go_sem, hkI]
  have HC : Hid (byF s i = C) := hC
  clear hk h0 hk' hkl hkI hC
  go_enter Try.func50, Try.ntmps50
  go_wp2_with fail
  go_fit (k1 _)
  rintro e w1 ⟨rfl, rfl⟩
  go_wp2_with fail
  go_fit (k2 _)
  rintro e w1 ⟨rfl, rfl⟩
  clear k1 k2
  go_wp2
  go_ret
  exact ⟨ret_bool (by rw [HC.out]), HB.out _⟩

set_option maxHeartbeats 1000000 in
set_option maxRecDepth 100000 in
theorem goes_t9 (op out alt arg : Int) (a : Option Addr) (n cc : Nat) (s : ByteArray) (i : Int) (w : World) (hi0 : 0 ≤ i) (hi1 : i ≤ s.size) (hs : (s.size : Int) ≤ 4611686018427387904) (hk : op = 9) :
    Calls Try.prog 50 #[inV op out alt arg a n cc, .string s, .int .i64 i] w fun e w' => e = .returned (.bool ((wbB s (i - 1) != wbB s i) == (arg == 0))) ∧ Below w.heap.size w w' := by
  have HB : Hid (∀ o, Below w.heap.size w (w.alloc o)) := fun o => (Below.refl _ w).alloc (Nat.le_refl _) o
  have k1 := fun W => wordByte_any s (i - 1) W
  have k2 := fun W => wordByte_any s i W
  have t3 : (op == 3) = false := by simp; omega
  have t4 : (op == 4) = false := by simp; omega
  have t10 : (op == 10) = false := by simp; omega
  have t5 : (op == 5) = false := by simp; omega
  have t6 : (op == 6) = false := by simp; omega
  have t7 : (op == 7) = false := by simp; omega
  have t8 : (op == 8) = false := by simp; omega
  have t9 : (op == 9) = true := by simp; omega
  clear hk
  go_enter Try.func50, Try.ntmps50
  go_wp2_with fail
  go_fit (k1 _)
  rintro e w1 ⟨rfl, rfl⟩
  go_wp2_with fail
  go_fit (k2 _)
  rintro e w1 ⟨rfl, rfl⟩
  clear k1 k2
  go_wp2
  go_ret
  exact ⟨rfl, HB.out _⟩

set_option maxHeartbeats 1000000 in
set_option maxRecDepth 100000 in
theorem goes_else (op out alt arg : Int) (a : Option Addr) (n cc : Nat) (s : ByteArray) (i : Int) (w : World) (hi0 : 0 ≤ i) (hi1 : i ≤ s.size) (hs : (s.size : Int) ≤ 4611686018427387904) (hk : ¬ (3 ≤ op ∧ op ≤ 10)) :
    Calls Try.prog 50 #[inV op out alt arg a n cc, .string s, .int .i64 i] w fun e w' => e = .returned (.bool false) ∧ Below w.heap.size w w' := by
  have HB : Hid (∀ o, Below w.heap.size w (w.alloc o)) := fun o => (Below.refl _ w).alloc (Nat.le_refl _) o
  have k1 := fun W => wordByte_any s (i - 1) W
  have k2 := fun W => wordByte_any s i W
  have t3 : (op == 3) = false := by simp; omega
  have t4 : (op == 4) = false := by simp; omega
  have t10 : (op == 10) = false := by simp; omega
  have t5 : (op == 5) = false := by simp; omega
  have t6 : (op == 6) = false := by simp; omega
  have t7 : (op == 7) = false := by simp; omega
  have t8 : (op == 8) = false := by simp; omega
  have t9 : (op == 9) = false := by simp; omega
  clear hk
  go_enter Try.func50, Try.ntmps50
  go_wp2_with fail
  go_fit (k1 _)
  rintro e w1 ⟨rfl, rfl⟩
  go_wp2_with fail
  go_fit (k2 _)
  rintro e w1 ⟨rfl, rfl⟩
  clear k1 k2
  go_wp2
  go_ret
  exact ⟨rfl, HB.out _⟩

theorem goes_any (op out alt arg : Int) (a : Option Addr) (n cc : Nat) (s : ByteArray) (i : Int) (w : World) (hi0 : 0 ≤ i) (hi1 : i ≤ s.size) (hs : (s.size : Int) ≤ 4611686018427387904) :
    Calls Try.prog 50 #[inV op out alt arg a n cc, .string s, .int .i64 i] w fun e w' => e = .returned (.bool (goB op arg s i)) ∧ Below w.heap.size w w' := by
  unfold goB
  by_cases h3 : op = 3
  · rw [if_pos (.inl h3)]; exact goes_t3 op out alt arg a n cc s i w hi0 hi1 hs h3
  by_cases h4 : op = 4
  · rw [if_pos (.inr (.inl h4))]; exact goes_t4 op out alt arg a n cc s i w hi0 hi1 hs h4
  by_cases h10 : op = 10
  · rw [if_pos (.inr (.inr h10))]; exact goes_t10 op out alt arg a n cc s i w hi0 hi1 hs h10
  rw [if_neg (by omega)]
  by_cases h5 : op = 5
  · rw [if_pos h5]; exact goes_t5 op out alt arg a n cc s i w hi0 hi1 hs h5
  rw [if_neg h5]
  by_cases h6 : op = 6
  · rw [if_pos h6]; exact goes_t6 op out alt arg a n cc s i w hi0 hi1 hs h6
  rw [if_neg h6]
  by_cases h7 : op = 7
  · rw [if_pos h7]
    by_cases h0 : i = 0
    · rw [show (i == 0 || byF s (i - 1) == 10) = true by simp [h0]]; exact goes_t7a op out alt arg a n cc s i w hi0 hi1 hs h7 h0
    · rw [show (i == 0 || byF s (i - 1) == 10) = (byF s (i - 1) == 10) by simp [h0]]; exact goes_t7b op out alt arg a n cc s i w hi0 hi1 hs h7 h0
  rw [if_neg h7]
  by_cases h8 : op = 8
  · rw [if_pos h8]
    by_cases h0 : i = s.size
    · rw [show (i == (s.size : Int) || byF s i == 10) = true by simp [h0]]; exact goes_t8a op out alt arg a n cc s i w hi0 hi1 hs h8 h0
    · rw [show (i == (s.size : Int) || byF s i == 10) = (byF s i == 10) by simp [h0]]; exact goes_t8b op out alt arg a n cc s i w hi0 hi1 hs h8 h0
  rw [if_neg h8]
  by_cases h9 : op = 9
  · rw [if_pos h9]; exact goes_t9 op out alt arg a n cc s i w hi0 hi1 hs h9
  rw [if_neg h9]
  exact goes_else op out alt arg a n cc s i w hi0 hi1 hs (by omega)
end Go.Proofs.Ytbciclnffokjjaa
/- Programs run: runeAt. -/
namespace Go.Proofs.Ytbciclnffokjjaa
open Go.RowKit

/-- The rune that a range over the rest of a text gives first. -/
def rnR (s : ByteArray) (i : Nat) : Int := ((Utf8.decode (s.extract i s.size) 0).1 : Int)
/-- Is what stands there no form of a rune? -/
def rnBad (s : ByteArray) (i : Nat) : Bool := rnR s i == 65533 && (decide ((s.size : Int) - i < (Utf8.encode (rnR s i)).size) || !((s.extract i (i + (Utf8.encode (rnR s i)).size)).toList == (Utf8.encode (rnR s i)).toList))

/-- What runeAt answers. -/
def rnV (s : ByteArray) (i : Nat) : Value := if rnBad s i = true then .tuple #[.int .i32 (-2), .int .i64 0] else .tuple #[.int .i32 (rnR s i), .int .i64 ((Utf8.encode (rnR s i)).size : Int)]

set_option maxHeartbeats 1000000 in
set_option maxRecDepth 100000 in
theorem runeAt_end (s : ByteArray) (i : Int) (w : World) (h : (s.size : Int) ≤ i) :
    Calls Try.prog 29 #[.string s, .int .i64 i] w fun e w' => e = .returned (.tuple #[.int .i32 (-1), .int .i64 0]) ∧ Below w.heap.size w w' := by
  go_enter Try.func29, Try.ntmps29
  go_wp2
  go_ret2
  exact ⟨rfl, Below.refl _ _⟩

set_option maxHeartbeats 2000000 in
set_option maxRecDepth 100000 in
theorem runeAt_in (s : ByteArray) (i : Nat) (w : World) (h : i < s.size) (hs : (s.size : Int) ≤ 4611686018427387904) :
    Calls Try.prog 29 #[.string s, .int .i64 (i : Int)] w fun e w' => e = .returned (rnV s i) ∧ Below w.heap.size w w' := by
  have hI : (i : Int) < s.size := by omega
  have hI' : ¬ (s.size : Int) ≤ i := by omega
  have hT : 0 < (s.extract i s.size).size := by simp; omega
  obtain ⟨T, hTd⟩ : ∃ T, s.extract i s.size = T := ⟨_, rfl⟩
  rw [hTd] at hT
  have hR : rnR s i = ((Utf8.decode T 0).1 : Int) := by unfold rnR; rw [hTd]
  have HT : Hid (s.extract i s.size = T) := hTd
  clear hTd
  go_enter Try.func29, Try.ntmps29
  go_wp2_with fail
  go_loopw [] (fun w' => w'.heap[w.heap.size]? = some (.stringIter (s.extract i s.size) 0) ∧ Below w.heap.size w w') (fun _ => 0)
  case atStart => exact ⟨World.iter_heap w _ 0, (Below.refl _ _).alloc (Nat.le_refl _) _⟩
  case round =>
    obtain ⟨hit, hbw⟩ := hrel
    rw [HT.out] at hit
    have hnx : ∀ ty, (Instr.next (.pointer (some ⟨w.heap.size, 0, none⟩)) true ty).run Try.prog wr = _ := fun ty => Lib.run_next_any_at wr w.heap.size T 0 ty hit hT
    have hr1 := Lib.rune_le T 0
    obtain ⟨R, hRd⟩ : ∃ R, (Utf8.decode T 0).1 = R := ⟨_, rfl⟩
    obtain ⟨K, hK⟩ : ∃ K, (Utf8.decode T 0).2 = K := ⟨_, rfl⟩
    rw [hRd, hK] at hnx
    rw [hRd] at hr1 hR
    have hbw2 := Lib.below_iterAt hbw (k := w.heap.size) (Nat.le_refl _) T (0 + K)
    obtain ⟨W, hWd⟩ : ∃ W, wr.iterAt w.heap.size T (0 + K) = W := ⟨_, rfl⟩
    rw [hWd] at hnx hbw2
    have HBW : Hid (Below w.heap.size w W) := hbw2
    have HRR : Hid (rnR s i = (R : Int)) := hR
    clear hRd hK hWd hbw2 hbw hit hR
    obtain ⟨E, hE⟩ : ∃ E, Utf8.encode (R : Int) = E := ⟨_, rfl⟩
    have HE : Hid (Utf8.encode (R : Int) = E) := hE
    by_cases h65 : (R : Int) = 65533
    · have t65 : ((R : Int) == 65533) = true := by simpa using h65
      have t65' : (R == 65533) = true := by simp; omega
      have hE3 : E.size = 3 := by rw [← hE, h65]; decide +kernel
      have hE3I : (E.size : Int) = 3 := by omega
      have HVB : Hid (rnV s i = if (decide ((s.size : Int) - i < E.size) || !((s.extract i (i + E.size)).toList == E.toList)) = true then .tuple #[.int .i32 (-2), .int .i64 0] else .tuple #[.int .i32 (R : Int), .int .i64 (E.size : Int)]) := by
        unfold Hid rnV rnBad
        rw [HRR.out, hE, t65]
        rfl
      rw [hE3I, hE3] at HVB
      have H65 : Hid ((R : Int) = 65533) := h65
      clear hE3 h65
      by_cases hsz : (s.size : Int) - i < 3
      · have HV : Hid (rnV s i = .tuple #[.int .i32 (-2), .int .i64 0]) := HVB.out.trans (if_pos (by rw [decide_eq_true hsz]; rfl))
        clear HVB
        go_wp2_with fail
        go_ret2
        exact ⟨by rw [HV.out]; rfl, HBW.out⟩
      · have hle : (i : Int) + 3 ≤ s.size := by omega
        have hsl : ∀ W : World, Sem.run Try.prog (Instr.slice 9 (.string s) (some (.int .i64 (i : Int))) (some (.int .i64 ((i : Int) + 3))) none) W = .ok (.string (s.extract i (i + 3))) W := fun W => by
          rw [run_slice_string W 9 s .i64 .i64 (i : Int) ((i : Int) + 3) Try.underlying9 (by omega) (by omega) (by omega)]
          congr 3
        cases hq : ((s.extract i (i + 3)).toList == E.toList)
        · have HV : Hid (rnV s i = .tuple #[.int .i32 (-2), .int .i64 0]) := HVB.out.trans (if_pos (by rw [hq]; simp))
          clear HVB
          go_wp2_with fail
          go_ret2
          exact ⟨by rw [HV.out]; rfl, HBW.out⟩
        · have HV : Hid (rnV s i = .tuple #[.int .i32 (R : Int), .int .i64 3]) := HVB.out.trans (if_neg (by rw [hq, decide_eq_false hsz]; simp))
          clear HVB
          go_wp2_with fail
          go_ret2
          exact ⟨by rw [HV.out]; rfl, HBW.out⟩
    · have t65 : ((R : Int) == 65533) = false := by simpa using h65
      have HV : Hid (rnV s i = .tuple #[.int .i32 (R : Int), .int .i64 (E.size : Int)]) := by
        unfold Hid rnV rnBad
        rw [HRR.out, t65, hE]
        rfl
      have t65' : (R == 65533) = false := by simp; omega
      clear h65
      go_wp2_with fail
      go_ret2
      exact ⟨by rw [HV.out]; rfl, HBW.out⟩
end Go.Proofs.Ytbciclnffokjjaa
