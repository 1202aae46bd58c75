/- SpanTells: the law's walk. -/
import Derived.Test.YtmfeckpcnofkhabDoorTeA
import Derived.Test.YtmfeckpcnofkhabDoorTxA
import Derived.Test.YtmfeckpcnofkhabDoorOfB
namespace Go.Proofs.YtmfeckpcnofkhabDoor
open Go.RowKit Go.Lib

theorem ag_field7 (c0 c1 c2 c3 c4 c5 c6 c7 c8 c9 : Int) (W : World) : (Instr.field 30 (ag c0 c1 c2 c3 c4 c5 c6 c7 c8 c9) 7).run Tryd.prog W = .ok (.int .i64 c7) W := by
  simp [Instr.field, asAgg, run_underlying Tryd.underlying30, part, go_sem]

set_option maxHeartbeats 8000000 in
set_option maxRecDepth 100000 in
theorem tells_walk (ms eT eD c0 c1 c2 c3 c4 c5 c6 c7 c8 c9 d0 d1 d2 d3 d4 d5 d6 d8 d9 : Int) (T D S : ByteArray) (w : World) (hU : Units w) (hT : Tab w)
    (k1 : ∀ w, Units w → Tab w → Calls Tryd.prog 7 #[.int .i64 31622400000] w fun e w' => e = .returned (.tuple #[.string ⟨#[49, 121, 49, 100]⟩, .int .i64 0]) ∧ Below w.heap.size w w')
    (k2 : ∀ w, Tab w → Calls Tryd.prog 11 #[.int .i64 1500] w fun e w' => e = .returned (.string ⟨#[49, 46, 53]⟩) ∧ Below w.heap.size w w')
    (k3 : ∀ w, Units w → Calls Tryd.prog 10 #[.int .i64 0] w fun e w' => e = .returned (ag d0 d1 d2 d3 d4 d5 d6 4 d8 d9) ∧ Below w.heap.size w w')
    (kT : ∀ w, Units w → Tab w → Calls Tryd.prog 7 #[.int .i64 ms] w fun e w' => e = .returned (.tuple #[.string T, .int .i64 eT]) ∧ Below w.heap.size w w')
    (kT' : ∀ w, Calls Tryd.prog 15 #[.int .i64 ms] w fun e w' => e = .returned (.tuple #[.string T, .int .i64 eT]) ∧ Below w.heap.size w w')
    (kD : ∀ w, Units w → Tab w → Calls Tryd.prog 12 #[.int .i64 ms] w fun e w' => e = .returned (.tuple #[.string D, .int .i64 eD]) ∧ Below w.heap.size w w')
    (kD' : ∀ w, Calls Tryd.prog 16 #[.int .i64 ms] w fun e w' => e = .returned (.tuple #[.string D, .int .i64 eD]) ∧ Below w.heap.size w w')
    (kS : ∀ w, Tab w → Calls Tryd.prog 11 #[.int .i64 ms] w fun e w' => e = .returned (.string S) ∧ Below w.heap.size w w')
    (kS' : ∀ w, Calls Tryd.prog 17 #[.int .i64 ms] w fun e w' => e = .returned (.string S) ∧ Below w.heap.size w w')
    (kC : ∀ w, Units w → Calls Tryd.prog 10 #[.int .i64 ms] w fun e w' => e = .returned (ag c0 c1 c2 c3 c4 c5 c6 c7 c8 c9) ∧ Below w.heap.size w w')
    (kC' : ∀ w, Calls Tryd.prog 18 #[.int .i64 ms] w fun e w' => e = .returned (ag c0 c1 c2 c3 c4 c5 c6 c7 c8 c9) ∧ Below w.heap.size w w') :
    Calls Tryd.prog 5 #[.int .i64 ms] w fun e w' => e = .returned (.bool true) ∧ Below w.heap.size w w' := by
  have q1 := k1 w hU hT
  have HU := hidden hU
  have HT := hidden hT
  have K2 := hidden k2
  have K3 := hidden k3
  have KT := hidden kT
  have KT' := hidden kT'
  have KD := hidden kD
  have KD' := hidden kD'
  have KS := hidden kS
  have KS' := hidden kS'
  have KC := hidden kC
  have KC' := hidden kC'
  clear k1 k2 k3 kT kT' kD kD' kS kS' kC kC' hU hT
  go_enter Tryd.func5, Tryd.ntmps5
  go_wp2_with fail
  go_fit q1
  clear q1
  rintro e w1 ⟨rfl, b1⟩
  have q2 := K2.out w1 (HT.out.below b1)
  go_wp2_with fail
  go_fit q2
  clear q2
  rintro e w2 ⟨rfl, b2'⟩
  have b2 := b1.trans (b2'.mono b1.size)
  have q3 := K3.out w2 (HU.out.belowS b2)
  clear b1 b2'
  have hf := ag_field7 d0 d1 d2 d3 d4 d5 d6 4 d8 d9
  go_wp2_with fail
  go_fit q3
  clear q3
  rintro e w3 ⟨rfl, b3'⟩
  have b3 := b2.trans (b3'.mono b2.size)
  have q4 := KT.out w3 (HU.out.belowS b3) (HT.out.below b3)
  clear b2 b3'
  go_wp2_with fail
  clear hf
  go_fit q4
  clear q4
  rintro e w4 ⟨rfl, b4'⟩
  have b4 := b3.trans (b4'.mono b3.size)
  have q5 := KT'.out w4
  clear b3 b4'
  go_wp2_with fail
  go_fit q5
  clear q5
  rintro e w5 ⟨rfl, b5'⟩
  have b5 := b4.trans (b5'.mono b4.size)
  have q6 := KD.out w5 (HU.out.belowS b5) (HT.out.below b5)
  clear b4 b5'
  go_wp2_with fail
  go_fit q6
  clear q6
  rintro e w6 ⟨rfl, b6'⟩
  have b6 := b5.trans (b6'.mono b5.size)
  have q7 := KD'.out w6
  clear b5 b6'
  go_wp2_with fail
  go_fit q7
  clear q7
  rintro e w7 ⟨rfl, b7'⟩
  have b7 := b6.trans (b7'.mono b6.size)
  have q8 := KS.out w7 (HT.out.below b7)
  clear b6 b7'
  go_wp2_with fail
  go_fit q8
  clear q8
  rintro e w8 ⟨rfl, b8'⟩
  have b8 := b7.trans (b8'.mono b7.size)
  have q9 := KS'.out w8
  clear b7 b8'
  go_wp2_with fail
  go_fit q9
  clear q9
  rintro e w9 ⟨rfl, b9'⟩
  have b9 := b8.trans (b9'.mono b8.size)
  have q10 := KC.out w9 (HU.out.belowS b9)
  clear b8 b9'
  go_wp2_with fail
  go_fit q10
  clear q10
  rintro e w10 ⟨rfl, b10'⟩
  have b10 := b9.trans (b10'.mono b9.size)
  have q11 := KC'.out w10
  clear b9 b10'
  go_wp2_with fail
  go_fit q11
  clear q11
  rintro e w11 ⟨rfl, b11'⟩
  have b11 := b10.trans (b11'.mono b10.size)
  clear b10 b11'
  go_wp2
  go_ret
  exact ⟨rfl, b11⟩
end Go.Proofs.YtmfeckpcnofkhabDoor
