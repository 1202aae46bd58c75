/- ChunkBack: same, Count. -/
import Derived.Test.YtedlmjieclaojabDoorFa
import Derived.Test.YtedlmjieclaojabDoorFc
namespace Go.Proofs.YtedlmjieclaojabDoor
open Go.RowKit

theorem str_eq (xs ys : List Int) (hx : By xs) (hy : By ys) : ((strOfNums xs).toList == (strOfNums ys).toList) = decide (xs = ys) := by
  rw [Bool.eq_iff_iff, beq_iff_eq, decide_eq_true_iff]
  refine ⟨fun h => nums_inj xs ys hx hy ?_, fun h => by rw [h]⟩
  rw [ByteArray.toList_eq, ByteArray.toList_eq] at h
  simpa [strOfNums] using h
set_option maxHeartbeats 1000000 in
theorem same_any (a1 a2 : Option Addr) (c1 c2 : Nat) (xs ys : List Int) (w : World) (h1 : Im w a1 xs) (h2 : Im w a2 ys) (hx : By xs) (hy : By ys) :
    Calls Tryd.prog 11 #[.slice a1 xs.length c1, .slice a2 ys.length c2] w fun e w' => e = .returned (.bool (decide (xs = ys))) ∧ w' = w := by
  have k1 := conv_im w a1 c1 xs h1
  have k2 := conv_im w a2 c2 ys h2
  have he := str_eq xs ys hx hy
  generalize strOfNums xs = sx at *
  generalize strOfNums ys = sy at *
  rw [← he]
  clear he
  generalize xs.length = n at *
  generalize ys.length = m at *
  go_enter Tryd.func11, Tryd.ntmps11
  go_wp2
  go_ret
  exact ⟨rfl, rfl⟩

set_option maxHeartbeats 1000000 in
theorem count_any (a : Option Addr) (c : Nat) (xs : List Int) (w : World) (hi : Im w a xs) (hx : By xs) (hs : Scl w) (ht : Tab w) (hcap : xs.length ≤ c) :
    Calls Tryd.prog 16 #[.slice a xs.length c] w fun e w' => e = .returned (.tuple #[.int .i64 ((upL xs).length : Nat), .int .i64 (upE xs)]) ∧ Below w.heap.size w w' := by
  have k := unpack_any a c xs w hi hx hs ht hcap
  unfold UpR at k
  clear hi hx hs ht
  generalize upL xs = ul at *
  generalize upE xs = ue at *
  go_enter Tryd.func16, Tryd.ntmps16
  go_wp2_with fail
  go_fit k
  rintro e w1 ⟨v, rfl, o1, b1⟩
  obtain ⟨av, cv, rfl⟩ := row_form o1
  have HB1 : Hid (Below w.heap.size w w1) := b1
  clear k o1 b1
  go_wp2
  go_ret2
  exact ⟨rfl, HB1.out⟩
end Go.Proofs.YtedlmjieclaojabDoor
