/- SpanRound: the walks of the law. -/
import Derived.Test.YtmfeckpcnofkhabDoorRoA
namespace Go.Proofs.YtmfeckpcnofkhabDoor
open Go.RowKit Go.Lib

set_option maxHeartbeats 1000000 in
theorem date_out (ms : Int) (w : World) (h : ms < -62167219200000 ∨ 253402300799999 < ms) :
    Calls Tryd.prog 12 #[.int .i64 ms] w fun e w' => e = .returned (.tuple #[.string ⟨#[]⟩, .int .i64 33]) ∧ Below w.heap.size w w' := by
  by_cases c : ms < -62167219200000
  · clear h
    go_enter Tryd.func12, Tryd.ntmps12
    go_wp2
    go_ret2
    exact ⟨rfl, Below.refl _ _⟩
  · have c2 : 253402300799999 < ms := by omega
    clear h
    go_enter Tryd.func12, Tryd.ntmps12
    go_wp2
    go_ret2
    exact ⟨rfl, Below.refl _ _⟩

set_option maxHeartbeats 4000000 in
set_option maxRecDepth 100000 in
theorem round_out (ms c0 c1 c2 c3 c4 c5 c6 c7 c8 c9 : Int) (S : ByteArray) (w : World) (hU : Units w) (hT : Tab w) (h : ms < -62167219200000 ∨ 253402300799999 < ms) (hS : ¬ S.toList = [])
    (kC : ∀ w, Units w → Calls Tryd.prog 10 #[.int .i64 ms] w fun e w' => e = .returned (ag c0 c1 c2 c3 c4 c5 c6 c7 c8 c9) ∧ Below w.heap.size w w')
    (kS : ∀ w, Tab w → Calls Tryd.prog 11 #[.int .i64 ms] w fun e w' => e = .returned (.string S) ∧ Below w.heap.size w w')
    (kR : ∀ w, Units w → Calls Tryd.prog 13 #[.string S] w fun e w' => e = .returned (.tuple #[.int .i64 0, .int .i64 33]) ∧ Below w.heap.size w w') :
    Calls Tryd.prog 4 #[.int .i64 ms] w fun e w' => e = .returned (.bool true) ∧ Below w.heap.size w w' := by
  have HU : Hid (Units w) := hU
  have HT : Hid (Tab w) := hT
  have kD := fun w => date_out ms w h
  have kC1 := kC w hU
  have hSb : (S.toList == []) = false := by simpa using hS
  clear kC hU hT hS
  by_cases c : ms < -62167219200000
  · clear h
    go_enter Tryd.func4, Tryd.ntmps4
    go_wp2_with fail
    go_fit kC1
    rintro e w1 ⟨rfl, b1⟩
    have kS1 := kS w1 (HT.out.below b1)
    clear kC1 kS
    go_wp2_with fail
    go_fit kS1
    rintro e w2 ⟨rfl, b2⟩
    have B2 := b1.trans (b2.mono b1.size)
    have B3 := B2.alloc B2.size (tenO c0 c1 c2 c3 c4 c5 c6 c7 c8 c9)
    clear kS1
    go_wp2_with fail
    go_fit (kD _)
    rintro e w4 ⟨rfl, b4⟩
    have B4 := B3.trans (b4.mono B3.size)
    have kR1 := kR w4 (HU.out.belowS B4)
    clear kD kR
    go_wp2_with fail
    go_fit kR1
    rintro e w5 ⟨rfl, b5⟩
    go_wp2
    go_ret
    exact ⟨rfl, B4.trans (b5.mono B4.size)⟩
  · have c2' : 253402300799999 < ms := by omega
    clear h
    go_enter Tryd.func4, Tryd.ntmps4
    go_wp2_with fail
    go_fit kC1
    rintro e w1 ⟨rfl, b1⟩
    have kS1 := kS w1 (HT.out.below b1)
    clear kC1 kS
    go_wp2_with fail
    go_fit kS1
    rintro e w2 ⟨rfl, b2⟩
    have B2 := b1.trans (b2.mono b1.size)
    have B3 := B2.alloc B2.size (tenO c0 c1 c2 c3 c4 c5 c6 c7 c8 c9)
    clear kS1
    go_wp2_with fail
    go_fit (kD _)
    rintro e w4 ⟨rfl, b4⟩
    have B4 := B3.trans (b4.mono B3.size)
    have kR1 := kR w4 (HU.out.belowS B4)
    clear kD kR
    go_wp2_with fail
    go_fit kR1
    rintro e w5 ⟨rfl, b5⟩
    go_wp2
    go_ret
    exact ⟨rfl, B4.trans (b5.mono B4.size)⟩

set_option maxHeartbeats 4000000 in
set_option maxRecDepth 100000 in
theorem round_in (ms c0 c1 c2 c3 c4 c5 c6 c7 c8 c9 : Int) (S d : ByteArray) (w : World) (hU : Units w) (hT : Tab w) (j0 : -62167219200000 ≤ ms) (j1 : ms ≤ 253402300799999) (hS : ¬ S.toList = [])
    (kC : ∀ w, Units w → Calls Tryd.prog 10 #[.int .i64 ms] w fun e w' => e = .returned (ag c0 c1 c2 c3 c4 c5 c6 c7 c8 c9) ∧ Below w.heap.size w w')
    (kS : ∀ w, Tab w → Calls Tryd.prog 11 #[.int .i64 ms] w fun e w' => e = .returned (.string S) ∧ Below w.heap.size w w')
    (kD : ∀ w, Units w → Tab w → Calls Tryd.prog 12 #[.int .i64 ms] w fun e w' => e = .returned (.tuple #[.string d, .int .i64 0]) ∧ Below w.heap.size w w')
    (kR : ∀ w, Units w → Calls Tryd.prog 13 #[.string S] w fun e w' => e = .returned (.tuple #[.int .i64 ms, .int .i64 0]) ∧ Below w.heap.size w w')
    (kE : ∀ w, Units w → Calls Tryd.prog 13 #[.string d] w fun e w' => e = .returned (.tuple #[.int .i64 ms, .int .i64 0]) ∧ Below w.heap.size w w')
    (kM : ∀ w, Units w → Calls Tryd.prog 14 #[ag c0 c1 c2 c3 c4 c5 c6 (-7) 1000 0] w fun e w' => e = .returned (.tuple #[.int .i64 ms, .int .i64 0]) ∧ Below w.heap.size w w') :
    Calls Tryd.prog 4 #[.int .i64 ms] w fun e w' => e = .returned (.bool true) ∧ Below w.heap.size w w' := by
  have HU : Hid (Units w) := hU
  have HT : Hid (Tab w) := hT
  have kC1 := kC w hU
  have hSb : (S.toList == []) = false := by simpa using hS
  have a0 : ¬ ms < -62167219200000 := by omega
  have a1 : ¬ 253402300799999 < ms := by omega
  clear kC hU hT hS
  go_enter Tryd.func4, Tryd.ntmps4
  go_wp2_with fail
  go_fit kC1
  rintro e w1 ⟨rfl, b1⟩
  have kS1 := kS w1 (HT.out.below b1)
  clear kC1 kS
  go_wp2_with fail
  go_fit kS1
  rintro e w2 ⟨rfl, b2⟩
  have B2 := b1.trans (b2.mono b1.size)
  have B3 := B2.alloc B2.size (tenO c0 c1 c2 c3 c4 c5 c6 c7 c8 c9)
  have hB : (w2.alloc (tenO c0 c1 c2 c3 c4 c5 c6 c7 c8 c9)).heap[w2.heap.size]? = some (tenO c0 c1 c2 c3 c4 c5 c6 c7 c8 c9) := heap_alloc_new w2 _
  have HB : Hid ((w2.alloc (tenO c0 c1 c2 c3 c4 c5 c6 c7 c8 c9)).heap[w2.heap.size]? = some (tenO c0 c1 c2 c3 c4 c5 c6 c7 c8 c9)) := hB
  have hlt : w2.heap.size < (w2.alloc (tenO c0 c1 c2 c3 c4 c5 c6 c7 c8 c9)).heap.size := by simp
  have kD1 := kD _ (HU.out.belowS B3) (HT.out.below B3)
  clear kS1 kD hB
  go_wp2_with fail
  go_fit kD1
  rintro e w4 ⟨rfl, b4⟩
  have B4 := B3.trans (b4.mono B3.size)
  have kR1 := kR w4 (HU.out.belowS B4)
  clear kD1 kR
  go_wp2_with fail
  go_fit kR1
  rintro e w5 ⟨rfl, b5⟩
  have B5 := B4.trans (b5.mono B4.size)
  have kE1 := kE w5 (HU.out.belowS B5)
  clear kR1 kE
  go_wp2_with fail
  go_fit kE1
  rintro e w6 ⟨rfl, b6⟩
  have B6 := B5.trans (b6.mono B5.size)
  have hz4 := b4.size
  have hz5 := b5.size
  have hB6 : w6.heap[w2.heap.size]? = some (tenO c0 c1 c2 c3 c4 c5 c6 c7 c8 c9) := ((b6.block _ (by omega)).trans (b5.block _ (by omega))).trans ((b4.block _ hlt).trans HB.out)
  have q0 : w6.cell? ⟨w2.heap.size, 0, none⟩ = some (.int .i64 c0) := by rw [cell_of_row w6 _ 0 _ 30 (0, 0) hB6]; rfl
  have q1 : w6.cell? ⟨w2.heap.size, 1, none⟩ = some (.int .i64 c1) := by rw [cell_of_row w6 _ 1 _ 30 (0, 0) hB6]; rfl
  have q2 : w6.cell? ⟨w2.heap.size, 2, none⟩ = some (.int .i64 c2) := by rw [cell_of_row w6 _ 2 _ 30 (0, 0) hB6]; rfl
  have q3 : w6.cell? ⟨w2.heap.size, 3, none⟩ = some (.int .i64 c3) := by rw [cell_of_row w6 _ 3 _ 30 (0, 0) hB6]; rfl
  have q4 : w6.cell? ⟨w2.heap.size, 4, none⟩ = some (.int .i64 c4) := by rw [cell_of_row w6 _ 4 _ 30 (0, 0) hB6]; rfl
  have q5 : w6.cell? ⟨w2.heap.size, 5, none⟩ = some (.int .i64 c5) := by rw [cell_of_row w6 _ 5 _ 30 (0, 0) hB6]; rfl
  have q6 : w6.cell? ⟨w2.heap.size, 6, none⟩ = some (.int .i64 c6) := by rw [cell_of_row w6 _ 6 _ 30 (0, 0) hB6]; rfl
  have q7 : w6.cell? ⟨w2.heap.size, 7, none⟩ = some (.int .i64 c7) := by rw [cell_of_row w6 _ 7 _ 30 (0, 0) hB6]; rfl
  have q8 : w6.cell? ⟨w2.heap.size, 8, none⟩ = some (.int .i64 c8) := by rw [cell_of_row w6 _ 8 _ 30 (0, 0) hB6]; rfl
  have q9 : w6.cell? ⟨w2.heap.size, 9, none⟩ = some (.int .i64 c9) := by rw [cell_of_row w6 _ 9 _ 30 (0, 0) hB6]; rfl
  have f7 : w6.frozen? ⟨w2.heap.size, 7, none⟩ = false := frozen_of_row w6 _ 7 _ 30 hB6
  have f8 : w6.frozen? ⟨w2.heap.size, 8, none⟩ = false := frozen_of_row w6 _ 8 _ 30 hB6
  have f9 : w6.frozen? ⟨w2.heap.size, 9, none⟩ = false := frozen_of_row w6 _ 9 _ 30 hB6
  have B7 : Below w.heap.size w (((w6.setCell ⟨w2.heap.size, 7, none⟩ (.int .i64 (-7))).setCell ⟨w2.heap.size, 8, none⟩ (.int .i64 1000)).setCell ⟨w2.heap.size, 9, none⟩ (.int .i64 0)) := ((B6.setCell (p := ⟨w2.heap.size, 7, none⟩) B2.size _).setCell (p := ⟨w2.heap.size, 8, none⟩) B2.size _).setCell (p := ⟨w2.heap.size, 9, none⟩) B2.size _
  have HB7 : Hid _ := B7
  have kM1 := kM _ (HU.out.belowS B7)
  clear hB6 kE1 kM b4 b5 b6 hz4 hz5 B7
  go_wp2_with fail
  go_fit kM1
  rintro e w8 ⟨rfl, b8⟩
  go_wp2
  go_ret
  exact ⟨by simp, HB7.out.trans (b8.mono HB7.out.size)⟩
end Go.Proofs.YtmfeckpcnofkhabDoor
