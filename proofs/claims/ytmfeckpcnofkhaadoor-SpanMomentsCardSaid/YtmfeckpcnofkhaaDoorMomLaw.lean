/- Both sides' Moment, and the law. -/
import Derived.Test.YtmfeckpcnofkhaaDoorRefMomOk
import Derived.Test.YtmfeckpcnofkhaaDoorMomH
import Derived.Test.YtmfeckpcnofkhaaDoorMomN
import Derived.Test.YtmfeckpcnofkhaaDoorRefMomN1
import Derived.Test.YtmfeckpcnofkhaaDoorRefMomN2
import Derived.Test.YtmfeckpcnofkhaaDoorRefMomN3
import Derived.Test.YtmfeckpcnofkhaaDoorRefMomN4
import Derived.Test.YtmfeckpcnofkhaaDoorMomWalk
namespace Go.Proofs.YtmfeckpcnofkhaaDoor
open Go.RowKit

theorem mom_both (Y M D h mi s ml x1 x2 x3 : Int) : ∃ n e : Int,
    (∀ w, Units w → Calls Tryd.prog 9 #[ag Y M D h mi s ml x1 x2 x3] w fun r w' => r = .returned (.tuple #[.int .i64 n, .int .i64 e]) ∧ Below w.heap.size w w') ∧
    (∀ w, Calls Tryd.prog 10 #[ag Y M D h mi s ml x1 x2 x3] w fun r w' => r = .returned (.tuple #[.int .i64 n, .int .i64 e]) ∧ Below w.heap.size w w') := by
  by_cases g : 0 ≤ Y ∧ Y ≤ 9999
  case neg => exact ⟨0, 33, fun w _ => moment_year Y M D h mi s ml x1 x2 x3 w g, fun w => rmoment_year Y M D h mi s ml x1 x2 x3 w g⟩
  have bad : (∀ w, Calls Tryd.prog 27 #[ag Y M D h mi s ml x1 x2 x3] w fun e w' => e = .returned (.bool false) ∧ Below w.heap.size w w') →
      (∀ w, Calls Tryd.prog 10 #[ag Y M D h mi s ml x1 x2 x3] w fun r w' => r = .returned (.tuple #[.int .i64 0, .int .i64 2]) ∧ Below w.heap.size w w') → ∃ n e : Int,
    (∀ w, Units w → Calls Tryd.prog 9 #[ag Y M D h mi s ml x1 x2 x3] w fun r w' => r = .returned (.tuple #[.int .i64 n, .int .i64 e]) ∧ Below w.heap.size w w') ∧
    (∀ w, Calls Tryd.prog 10 #[ag Y M D h mi s ml x1 x2 x3] w fun r w' => r = .returned (.tuple #[.int .i64 n, .int .i64 e]) ∧ Below w.heap.size w w') :=
    fun a b => ⟨0, 2, fun w _ => moment_no Y M D h mi s ml x1 x2 x3 w g a, b⟩
  by_cases a1 : M < 1
  · exact bad (fun w => inRange_no1 Y M D h mi s ml x1 x2 x3 w (by omega)) (fun w => rmoment_no1 Y M D h mi s ml x1 x2 x3 w g.1 g.2 a1)
  by_cases a2 : 12 < M
  · exact bad (fun w => inRange_no1 Y M D h mi s ml x1 x2 x3 w (by omega)) (fun w => rmoment_no2 Y M D h mi s ml x1 x2 x3 w g.1 g.2 a1 a2)
  have b1 : 1 ≤ M ∧ M ≤ 12 := by omega
  by_cases a3 : D < 1
  · exact bad (fun w => inRange_no2 Y M D h mi s ml x1 x2 x3 w g.1 g.2 b1 (by omega)) (fun w => rmoment_no3 Y M D h mi s ml x1 x2 x3 w g.1 g.2 a1 a2 a3)
  by_cases a4 : md Y M < D
  · exact bad (fun w => inRange_no2 Y M D h mi s ml x1 x2 x3 w g.1 g.2 b1 (by omega)) (fun w => rmoment_no4 Y M D h mi s ml x1 x2 x3 w g.1 g.2 a1 a2 a3 a4)
  have b2 : 1 ≤ D ∧ D ≤ md Y M := by omega
  by_cases a5 : h < 0
  · exact bad (fun w => inRange_no3 Y M D h mi s ml x1 x2 x3 w g.1 g.2 b1 b2 (by omega)) (fun w => rmoment_no5 Y M D h mi s ml x1 x2 x3 w g.1 g.2 a1 a2 a3 a4 a5)
  by_cases a6 : 23 < h
  · exact bad (fun w => inRange_no3 Y M D h mi s ml x1 x2 x3 w g.1 g.2 b1 b2 (by omega)) (fun w => rmoment_no6 Y M D h mi s ml x1 x2 x3 w g.1 g.2 a1 a2 a3 a4 a5 a6)
  have b3 : 0 ≤ h ∧ h ≤ 23 := by omega
  by_cases a7 : mi < 0
  · exact bad (fun w => inRange_no4 Y M D h mi s ml x1 x2 x3 w g.1 g.2 b1 b2 b3 (by omega)) (fun w => rmoment_no7 Y M D h mi s ml x1 x2 x3 w g.1 g.2 a1 a2 a3 a4 a5 a6 a7)
  by_cases a8 : 59 < mi
  · exact bad (fun w => inRange_no4 Y M D h mi s ml x1 x2 x3 w g.1 g.2 b1 b2 b3 (by omega)) (fun w => rmoment_no8 Y M D h mi s ml x1 x2 x3 w g.1 g.2 a1 a2 a3 a4 a5 a6 a7 a8)
  have b4 : 0 ≤ mi ∧ mi ≤ 59 := by omega
  by_cases a9 : s < 0
  · exact bad (fun w => inRange_no5 Y M D h mi s ml x1 x2 x3 w g.1 g.2 b1 b2 b3 b4 (by omega)) (fun w => rmoment_no9 Y M D h mi s ml x1 x2 x3 w g.1 g.2 a1 a2 a3 a4 a5 a6 a7 a8 a9)
  by_cases a10 : 59 < s
  · exact bad (fun w => inRange_no5 Y M D h mi s ml x1 x2 x3 w g.1 g.2 b1 b2 b3 b4 (by omega)) (fun w => rmoment_no10 Y M D h mi s ml x1 x2 x3 w g.1 g.2 a1 a2 a3 a4 a5 a6 a7 a8 a9 a10)
  have b5 : 0 ≤ s ∧ s ≤ 59 := by omega
  by_cases a11 : ml < 0
  · exact bad (fun w => inRange_no6 Y M D h mi s ml x1 x2 x3 w g.1 g.2 b1 b2 b3 b4 b5 (by omega)) (fun w => rmoment_no11 Y M D h mi s ml x1 x2 x3 w g.1 g.2 a1 a2 a3 a4 a5 a6 a7 a8 a9 a10 a11)
  by_cases a12 : 999 < ml
  · exact bad (fun w => inRange_no6 Y M D h mi s ml x1 x2 x3 w g.1 g.2 b1 b2 b3 b4 b5 (by omega)) (fun w => rmoment_no12 Y M D h mi s ml x1 x2 x3 w g.1 g.2 a1 a2 a3 a4 a5 a6 a7 a8 a9 a10 a11 a12)
  have b6 : 0 ≤ ml ∧ ml ≤ 999 := by omega
  exact ⟨momV Y M D h mi s ml, 0, fun w hU => moment_ok Y M D h mi s ml x1 x2 x3 w hU g b1 b2 b3 b4 b5 b6 (fun w => inRange_ok Y M D h mi s ml x1 x2 x3 w g.1 g.2 b1 b2 b3 b4 b5 b6),
    fun w => rmoment_ok Y M D h mi s ml x1 x2 x3 w g.1 g.2 a1 a2 a3 a4 a5 a6 a7 a8 a9 a10 a11 a12⟩

end Go.Proofs.YtmfeckpcnofkhaaDoor
