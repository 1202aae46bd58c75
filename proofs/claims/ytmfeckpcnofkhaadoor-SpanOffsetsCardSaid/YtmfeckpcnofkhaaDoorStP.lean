/- The reference's offset at a zone of no form. -/
import Derived.Test.YtmfeckpcnofkhaaDoorStJ
namespace Go.Proofs.YtmfeckpcnofkhaaDoor
open Go.RowKit

set_option maxHeartbeats 4000000 in
set_option maxRecDepth 100000 in
theorem roffset_bad (z : ByteArray) (w : World) (hz : ¬ z.toList = [90]) (h : ¬ (z.size = 6 ∧ (bt z 0 = 43 ∨ bt z 0 = 45) ∧ bt z 3 = 58)) :
    Calls Tryd.prog 57 #[.string z] w fun e w' => e = .returned (.tuple #[.int .i64 0, .bool false]) ∧ Below w.heap.size w w' := by
  have hz2 : (z.toList == [90]) = false := by simpa using hz
  by_cases c : z.size = 6
  · have n0 : 0 < z.size := by omega
    have n3 : 3 < z.size := by omega
    have x0 := bt_at z 0 n0
    have x3 := bt_at z 3 n3
    have l6 : ((z.size : Int) != 6) = false := by simp; omega
    clear hz
    by_cases p : bt z 0 = 43
    · have q : ¬ bt z 3 = 58 := fun q => h ⟨c, .inl p, q⟩
      have qn : (bt z 3 != 58) = true := by simpa using q
      rw [p] at x0
      clear c h p q
      generalize bt z 3 = b3 at *
      go_enter Tryd.func57, Tryd.ntmps57
      go_wp2
      go_ret2
      exact ⟨rfl, by first | exact Below.refl _ _ | exact (Below.refl _ _).drew⟩
    · by_cases p2 : bt z 0 = 45
      · have q : ¬ bt z 3 = 58 := fun q => h ⟨c, .inr p2, q⟩
        have qn : (bt z 3 != 58) = true := by simpa using q
        rw [p2] at x0
        clear c h p p2 q
        generalize bt z 3 = b3 at *
        go_enter Tryd.func57, Tryd.ntmps57
        go_wp2
        go_ret2
        exact ⟨rfl, by first | exact Below.refl _ _ | exact (Below.refl _ _).drew⟩
      · have q1 : (bt z 0 != 43) = true := by simpa using p
        have q2 : (bt z 0 != 45) = true := by simpa using p2
        clear c h p p2
        generalize bt z 3 = b3 at *
        generalize bt z 0 = b0 at *
        go_enter Tryd.func57, Tryd.ntmps57
        go_wp2
        go_ret2
        exact ⟨rfl, by first | exact Below.refl _ _ | exact (Below.refl _ _).drew⟩
  · have l6 : ((z.size : Int) != 6) = true := by simp; omega
    clear h hz
    go_enter Tryd.func57, Tryd.ntmps57
    go_wp2
    go_ret2
    exact ⟨rfl, Below.refl _ _⟩
end Go.Proofs.YtmfeckpcnofkhaaDoor
