/- The walk of the reference's offset. -/
import Derived.Test.YtmfeckpcnofkhaaDoorStI
namespace Go.Proofs.YtmfeckpcnofkhaaDoor
open Go.RowKit

set_option maxHeartbeats 4000000 in
set_option maxRecDepth 100000 in
theorem roffset_minus (z : ByteArray) (h mi : Int) (w : World) (hz : ¬ z.toList = [90]) (h6 : z.size = 6) (hm : bt z 0 = 45) (hc : bt z 3 = 58)
    (h0 : -1 ≤ h) (h1 : h ≤ 99) (m0 : -1 ≤ mi) (m1 : mi ≤ 99)
    (k1 : ∀ w, Calls Tryd.prog 56 #[.string z, .int .i64 1] w fun e w' => e = .returned (.int .i64 h) ∧ Below w.heap.size w w')
    (k2 : ∀ w, Calls Tryd.prog 56 #[.string z, .int .i64 4] w fun e w' => e = .returned (.int .i64 mi) ∧ Below w.heap.size w w') :
    Calls Tryd.prog 57 #[.string z] w fun e w' => e = .returned (.tuple #[.int .i64 (hmR true h mi).1, .bool (hmR true h mi).2]) ∧ Below w.heap.size w w' := by
  have n0 : 0 < z.size := by omega
  have n3 : 3 < z.size := by omega
  have x0 := bt_at z 0 n0
  have x3 := bt_at z 3 n3
  rw [hm] at x0
  rw [hc] at x3
  have l6 : ((z.size : Int) != 6) = false := by simp; omega
  have hz2 : (z.toList == [90]) = false := by simpa using hz
  clear hm hc h6 hz
  generalize hR : hmR true h mi = R
  have HR : Hid (hmR true h mi = R) := hR
  clear hR
  by_cases a1 : h < 0
  · have HE : Hid (R = (0, false)) := by show _ = _; rw [← HR.out]; unfold hmR; rw [if_neg (by omega)]
    go_enter Tryd.func57, Tryd.ntmps57
    go_wp2_with fail
    go_fit (k1 _)
    rintro e w1 ⟨rfl, q1⟩
    go_wp2_with fail
    go_fit (k2 _)
    rintro e w2 ⟨rfl, q2⟩
    have q3 := q1.trans (q2.mono q1.size)
    clear k1 k2 q1 q2
    go_wp2
    go_ret2
    exact ⟨by rw [HE.out]; rfl, q3⟩
  · by_cases a2 : 23 < h
    · have HE : Hid (R = (0, false)) := by show _ = _; rw [← HR.out]; unfold hmR; rw [if_neg (by omega)]
      go_enter Tryd.func57, Tryd.ntmps57
      go_wp2_with fail
      go_fit (k1 _)
      rintro e w1 ⟨rfl, q1⟩
      go_wp2_with fail
      go_fit (k2 _)
      rintro e w2 ⟨rfl, q2⟩
      have q3 := q1.trans (q2.mono q1.size)
      clear k1 k2 q1 q2
      go_wp2
      go_ret2
      exact ⟨by rw [HE.out]; rfl, q3⟩
    · by_cases a3 : mi < 0
      · have HE : Hid (R = (0, false)) := by show _ = _; rw [← HR.out]; unfold hmR; rw [if_neg (by omega)]
        go_enter Tryd.func57, Tryd.ntmps57
        go_wp2_with fail
        go_fit (k1 _)
        rintro e w1 ⟨rfl, q1⟩
        go_wp2_with fail
        go_fit (k2 _)
        rintro e w2 ⟨rfl, q2⟩
        have q3 := q1.trans (q2.mono q1.size)
        clear k1 k2 q1 q2
        go_wp2
        go_ret2
        exact ⟨by rw [HE.out]; rfl, q3⟩
      · by_cases a4 : 59 < mi
        · have HE : Hid (R = (0, false)) := by show _ = _; rw [← HR.out]; unfold hmR; rw [if_neg (by omega)]
          go_enter Tryd.func57, Tryd.ntmps57
          go_wp2_with fail
          go_fit (k1 _)
          rintro e w1 ⟨rfl, q1⟩
          go_wp2_with fail
          go_fit (k2 _)
          rintro e w2 ⟨rfl, q2⟩
          have q3 := q1.trans (q2.mono q1.size)
          clear k1 k2 q1 q2
          go_wp2
          go_ret2
          exact ⟨by rw [HE.out]; rfl, q3⟩
        · have HE : Hid (R = (-(h * 3600000 + mi * 60000), true)) := by show _ = _; rw [← HR.out]; unfold hmR; rw [if_pos (by omega)]; simp
          go_enter Tryd.func57, Tryd.ntmps57
          go_wp2_with fail
          go_fit (k1 _)
          rintro e w1 ⟨rfl, q1⟩
          go_wp2_with fail
          go_fit (k2 _)
          rintro e w2 ⟨rfl, q2⟩
          have q3 := q1.trans (q2.mono q1.size)
          clear k1 k2 q1 q2
          go_wp2
          go_ret2
          exact ⟨by rw [HE.out]; rfl, q3⟩
set_option maxHeartbeats 4000000 in
set_option maxRecDepth 100000 in
theorem roffset_plus (z : ByteArray) (h mi : Int) (w : World) (hz : ¬ z.toList = [90]) (h6 : z.size = 6) (hm : bt z 0 = 43) (hc : bt z 3 = 58)
    (h0 : -1 ≤ h) (h1 : h ≤ 99) (m0 : -1 ≤ mi) (m1 : mi ≤ 99)
    (k1 : ∀ w, Calls Tryd.prog 56 #[.string z, .int .i64 1] w fun e w' => e = .returned (.int .i64 h) ∧ Below w.heap.size w w')
    (k2 : ∀ w, Calls Tryd.prog 56 #[.string z, .int .i64 4] w fun e w' => e = .returned (.int .i64 mi) ∧ Below w.heap.size w w') :
    Calls Tryd.prog 57 #[.string z] w fun e w' => e = .returned (.tuple #[.int .i64 (hmR false h mi).1, .bool (hmR false h mi).2]) ∧ Below w.heap.size w w' := by
  have n0 : 0 < z.size := by omega
  have n3 : 3 < z.size := by omega
  have x0 := bt_at z 0 n0
  have x3 := bt_at z 3 n3
  rw [hm] at x0
  rw [hc] at x3
  have l6 : ((z.size : Int) != 6) = false := by simp; omega
  have hz2 : (z.toList == [90]) = false := by simpa using hz
  clear hm hc h6 hz
  generalize hR : hmR false h mi = R
  have HR : Hid (hmR false h mi = R) := hR
  clear hR
  by_cases a1 : h < 0
  · have HE : Hid (R = (0, false)) := by show _ = _; rw [← HR.out]; unfold hmR; rw [if_neg (by omega)]
    go_enter Tryd.func57, Tryd.ntmps57
    go_wp2_with fail
    go_fit (k1 _)
    rintro e w1 ⟨rfl, q1⟩
    go_wp2_with fail
    go_fit (k2 _)
    rintro e w2 ⟨rfl, q2⟩
    have q3 := q1.trans (q2.mono q1.size)
    clear k1 k2 q1 q2
    go_wp2
    go_ret2
    exact ⟨by rw [HE.out]; rfl, q3⟩
  · by_cases a2 : 23 < h
    · have HE : Hid (R = (0, false)) := by show _ = _; rw [← HR.out]; unfold hmR; rw [if_neg (by omega)]
      go_enter Tryd.func57, Tryd.ntmps57
      go_wp2_with fail
      go_fit (k1 _)
      rintro e w1 ⟨rfl, q1⟩
      go_wp2_with fail
      go_fit (k2 _)
      rintro e w2 ⟨rfl, q2⟩
      have q3 := q1.trans (q2.mono q1.size)
      clear k1 k2 q1 q2
      go_wp2
      go_ret2
      exact ⟨by rw [HE.out]; rfl, q3⟩
    · by_cases a3 : mi < 0
      · have HE : Hid (R = (0, false)) := by show _ = _; rw [← HR.out]; unfold hmR; rw [if_neg (by omega)]
        go_enter Tryd.func57, Tryd.ntmps57
        go_wp2_with fail
        go_fit (k1 _)
        rintro e w1 ⟨rfl, q1⟩
        go_wp2_with fail
        go_fit (k2 _)
        rintro e w2 ⟨rfl, q2⟩
        have q3 := q1.trans (q2.mono q1.size)
        clear k1 k2 q1 q2
        go_wp2
        go_ret2
        exact ⟨by rw [HE.out]; rfl, q3⟩
      · by_cases a4 : 59 < mi
        · have HE : Hid (R = (0, false)) := by show _ = _; rw [← HR.out]; unfold hmR; rw [if_neg (by omega)]
          go_enter Tryd.func57, Tryd.ntmps57
          go_wp2_with fail
          go_fit (k1 _)
          rintro e w1 ⟨rfl, q1⟩
          go_wp2_with fail
          go_fit (k2 _)
          rintro e w2 ⟨rfl, q2⟩
          have q3 := q1.trans (q2.mono q1.size)
          clear k1 k2 q1 q2
          go_wp2
          go_ret2
          exact ⟨by rw [HE.out]; rfl, q3⟩
        · have HE : Hid (R = (h * 3600000 + mi * 60000, true)) := by show _ = _; rw [← HR.out]; unfold hmR; rw [if_pos (by omega)]; simp
          go_enter Tryd.func57, Tryd.ntmps57
          go_wp2_with fail
          go_fit (k1 _)
          rintro e w1 ⟨rfl, q1⟩
          go_wp2_with fail
          go_fit (k2 _)
          rintro e w2 ⟨rfl, q2⟩
          have q3 := q1.trans (q2.mono q1.size)
          clear k1 k2 q1 q2
          go_wp2
          go_ret2
          exact ⟨by rw [HE.out]; rfl, q3⟩
end Go.Proofs.YtmfeckpcnofkhaaDoor
