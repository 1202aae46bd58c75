/- The walk of the law SpanMoments. -/
import Derived.Test.YtmfeckpcnofkhaaDoorMom
import Derived.Test.YtmfeckpcnofkhaaDoorMomH
namespace Go.Proofs.YtmfeckpcnofkhaaDoor
open Go.RowKit

set_option maxHeartbeats 1000000 in
set_option maxRecDepth 100000 in
theorem rmoment_year (Y M D h mi s ml x1 x2 x3 : Int) (w : World) (g : ¬ (0 ≤ Y ∧ Y ≤ 9999)) :
    Calls Tryd.prog 10 #[ag Y M D h mi s ml x1 x2 x3] w fun e w' => e = .returned (.tuple #[.int .i64 0, .int .i64 33]) ∧ Below w.heap.size w w' := by
  by_cases a : Y < 0
  · clear g
    go_enter Tryd.func10, Tryd.ntmps10
    go_wp2
    go_ret2
    exact ⟨rfl, ((Below.refl w.heap.size w).alloc (Nat.le_refl _) _)⟩
  · have b : 9999 < Y := by omega
    clear g
    go_enter Tryd.func10, Tryd.ntmps10
    go_wp2
    go_ret2
    exact ⟨rfl, ((Below.refl w.heap.size w).alloc (Nat.le_refl _) _)⟩

theorem first_any (w : World) (hU : Units w) : Calls Tryd.prog 9 #[ag 2000 2 29 0 0 0 0 0 0 0] w fun r w' => r = .returned (.tuple #[.int .i64 951782400000, .int .i64 0]) ∧ Below w.heap.size w w' := by
  have g2 : (1 : Int) ≤ 29 ∧ (29 : Int) ≤ md 2000 2 := by decide
  have k := moment_ok 2000 2 29 0 0 0 0 0 0 0 w hU (by decide) (by decide) g2 (by decide) (by decide) (by decide) (by decide) (fun w => inRange_ok 2000 2 29 0 0 0 0 0 0 0 w (by decide) (by decide) (by decide) g2 (by decide) (by decide) (by decide) (by decide))
  rwa [show momV 2000 2 29 0 0 0 0 = 951782400000 by decide] at k

set_option maxHeartbeats 1000000 in
set_option maxRecDepth 100000 in
theorem moments_walk (Y M D h mi s ml x1 x2 x3 n e : Int) (w : World) (hU : Units w)
    (k1 : ∀ w, Units w → Calls Tryd.prog 9 #[ag Y M D h mi s ml x1 x2 x3] w fun r w' => r = .returned (.tuple #[.int .i64 n, .int .i64 e]) ∧ Below w.heap.size w w')
    (k2 : ∀ w, Calls Tryd.prog 10 #[ag Y M D h mi s ml x1 x2 x3] w fun r w' => r = .returned (.tuple #[.int .i64 n, .int .i64 e]) ∧ Below w.heap.size w w') :
    Calls Tryd.prog 4 #[ag Y M D h mi s ml x1 x2 x3] w fun r w' => r = .returned (.bool true) ∧ Below w.heap.size w w' := by
  have hUW : Units (w.alloc (tenO Y M D h mi s ml x1 x2 x3)) := hU.alloc _
  have k0 := first_any _ hUW
  have HU : Hid (Units (w.alloc (tenO Y M D h mi s ml x1 x2 x3))) := hUW
  have hb : Below w.heap.size w (w.alloc (tenO Y M D h mi s ml x1 x2 x3)) := (Below.refl w.heap.size w).alloc (Nat.le_refl _) _
  have hz : w.heap.size < (w.alloc (tenO Y M D h mi s ml x1 x2 x3)).heap.size := by simp
  have HQ : Hid (∀ i v, #[Value.int .i64 Y, .int .i64 M, .int .i64 D, .int .i64 h, .int .i64 mi, .int .i64 s, .int .i64 ml, .int .i64 x1, .int .i64 x2, .int .i64 x3][i]? = some v → ∀ w', Below (w.alloc (tenO Y M D h mi s ml x1 x2 x3)).heap.size (w.alloc (tenO Y M D h mi s ml x1 x2 x3)) w' → w'.cell? ⟨w.heap.size, i, none⟩ = some v) :=
    fun i v hv w' hw => by rw [hw.cell hz]; exact tenO_cell Y M D h mi s ml x1 x2 x3 w i v hv
  clear hU hUW
  go_enter Tryd.func4, Tryd.ntmps4
  go_wp2_with fail
  generalize w.alloc (tenO Y M D h mi s ml x1 x2 x3) = W at *
  go_fit k0
  rintro r w1 ⟨rfl, h1⟩
  clear k0
  have f0 : w1.cell? ⟨w.heap.size, 0, none⟩ = some (.int .i64 Y) := HQ.out 0 _ rfl w1 h1
  have f1 : w1.cell? ⟨w.heap.size, 1, none⟩ = some (.int .i64 M) := HQ.out 1 _ rfl w1 h1
  have f2 : w1.cell? ⟨w.heap.size, 2, none⟩ = some (.int .i64 D) := HQ.out 2 _ rfl w1 h1
  have f3 : w1.cell? ⟨w.heap.size, 3, none⟩ = some (.int .i64 h) := HQ.out 3 _ rfl w1 h1
  have f4 : w1.cell? ⟨w.heap.size, 4, none⟩ = some (.int .i64 mi) := HQ.out 4 _ rfl w1 h1
  have f5 : w1.cell? ⟨w.heap.size, 5, none⟩ = some (.int .i64 s) := HQ.out 5 _ rfl w1 h1
  have f6 : w1.cell? ⟨w.heap.size, 6, none⟩ = some (.int .i64 ml) := HQ.out 6 _ rfl w1 h1
  have f7 : w1.cell? ⟨w.heap.size, 7, none⟩ = some (.int .i64 x1) := HQ.out 7 _ rfl w1 h1
  have f8 : w1.cell? ⟨w.heap.size, 8, none⟩ = some (.int .i64 x2) := HQ.out 8 _ rfl w1 h1
  have f9 : w1.cell? ⟨w.heap.size, 9, none⟩ = some (.int .i64 x3) := HQ.out 9 _ rfl w1 h1
  go_wp2_with fail
  go_fit (k1 w1 (HU.out.belowS h1))
  rintro r w2 ⟨rfl, h2'⟩
  have h2 := h1.trans (h2'.mono h1.size)
  clear k1 h1 h2' f0 f1 f2 f3 f4 f5 f6 f7 f8 f9
  have e0 : w2.cell? ⟨w.heap.size, 0, none⟩ = some (.int .i64 Y) := HQ.out 0 _ rfl w2 h2
  have e1 : w2.cell? ⟨w.heap.size, 1, none⟩ = some (.int .i64 M) := HQ.out 1 _ rfl w2 h2
  have e2 : w2.cell? ⟨w.heap.size, 2, none⟩ = some (.int .i64 D) := HQ.out 2 _ rfl w2 h2
  have e3 : w2.cell? ⟨w.heap.size, 3, none⟩ = some (.int .i64 h) := HQ.out 3 _ rfl w2 h2
  have e4 : w2.cell? ⟨w.heap.size, 4, none⟩ = some (.int .i64 mi) := HQ.out 4 _ rfl w2 h2
  have e5 : w2.cell? ⟨w.heap.size, 5, none⟩ = some (.int .i64 s) := HQ.out 5 _ rfl w2 h2
  have e6 : w2.cell? ⟨w.heap.size, 6, none⟩ = some (.int .i64 ml) := HQ.out 6 _ rfl w2 h2
  have e7 : w2.cell? ⟨w.heap.size, 7, none⟩ = some (.int .i64 x1) := HQ.out 7 _ rfl w2 h2
  have e8 : w2.cell? ⟨w.heap.size, 8, none⟩ = some (.int .i64 x2) := HQ.out 8 _ rfl w2 h2
  have e9 : w2.cell? ⟨w.heap.size, 9, none⟩ = some (.int .i64 x3) := HQ.out 9 _ rfl w2 h2
  go_wp2_with fail
  go_fit (k2 w2)
  rintro r w3 ⟨rfl, h3'⟩
  have h3 := h2.trans (h3'.mono h2.size)
  clear k2 h2 h3' e0 e1 e2 e3 e4 e5 e6 e7 e8 e9
  go_wp2
  go_ret
  exact ⟨rfl, hb.trans (h3.mono hb.size)⟩
end Go.Proofs.YtmfeckpcnofkhaaDoor
