/- ChunkReads: the law's walk. -/
import Derived.Test.YtedlmjieclaojabDoorHj
namespace Go.Proofs.YtedlmjieclaojabDoor
open Go.RowKit

set_option maxHeartbeats 4000000 in
set_option maxRecDepth 100000 in
theorem reads_walk (a : Option Addr) (c : Nat) (xs : List Int) (after upto : Int) (w : World) (hi : Im w a xs) (hx : By xs) (hs : Scl w) (ht : Tab w) (hcap : xs.length ≤ c) (hN : xs.length ≤ 140737488355328) :
    Calls Tryd.prog 4 #[.slice a xs.length c, .int .i64 after, .int .i64 upto] w fun e w' => e = .returned (.bool true) ∧ Below w.heap.size w w' := by
  have k1 := alive_any w hs ht
  have K2 : Hid (∀ W, Below w.heap.size w W → Calls Tryd.prog 13 #[.slice a xs.length c] W (UpR xs W)) := fun W h => runpack_any a c xs W (hi.below h) hx hN
  have K3 : Hid (∀ W, Below w.heap.size w W → Calls Tryd.prog 14 #[.slice a xs.length c, .int .i64 after, .int .i64 upto] W (BwR xs after upto W)) := fun W h => rbetween_any a c xs after upto W (hi.below h) hx hN
  have K4 : Hid (∀ W, Below w.heap.size w W → Calls Tryd.prog 15 #[.slice a xs.length c] W (UpR xs W)) := fun W h => unpack_any a c xs W (hi.below h) hx (hs.below h) (ht.below h) hcap
  have K5 : Hid (∀ W, Below w.heap.size w W → Calls Tryd.prog 16 #[.slice a xs.length c] W fun e w' => e = .returned (.tuple #[.int .i64 ((upL xs).length : Nat), .int .i64 (upE xs)]) ∧ Below W.heap.size W w') := fun W h => count_any a c xs W (hi.below h) hx (hs.below h) (ht.below h) hcap
  have K6 : Hid (∀ W, Below w.heap.size w W → Calls Tryd.prog 17 #[.slice a xs.length c, .int .i64 after, .int .i64 upto] W (BwR xs after upto W)) := fun W h => between_any a c xs after upto W (hi.below h) hx (hs.below h) (ht.below h) hcap
  have hul := up_small xs
  have hbl : (btw after upto (upL xs)).length ≤ 100000 := Nat.le_trans (btw_len _ _ _) hul
  unfold UpR at K2 K4
  unfold BwR at K3 K6
  clear hi hx hs ht hcap hN
  generalize btw after upto (upL xs) = bl at *
  generalize upL xs = ul at *
  generalize upE xs = ue at *
  generalize xs.length = n at *
  have HUL : Hid (ul.length ≤ 140737488355328) := by show _ ≤ _; omega
  have HBL : Hid (bl.length ≤ 140737488355328) := by show _ ≤ _; omega
  clear hul hbl
  go_enter Tryd.func4, Tryd.ntmps4
  go_wp2_with fail
  go_fit k1
  rintro e w1 ⟨rfl, b1⟩
  have HB1 : Hid (Below w.heap.size w w1) := b1
  have k2 := K2.out w1 b1
  clear k1 b1 K2
  go_wp2_with fail
  go_fit k2
  rintro e w2 ⟨v2, rfl, o2, b2⟩
  obtain ⟨a2, c2, rfl⟩ := row_form o2
  have HB2 : Hid (Below w.heap.size w w2) := HB1.out.trans (b2.mono HB1.out.size)
  have HS2 : Hid (Sm w2 a2 ul) := Sm.of_row o2
  have k3 := K3.out w2 HB2.out
  clear k2 o2 b2 HB1 K3
  go_wp2_with fail
  go_fit k3
  rintro e w3 ⟨v3, rfl, o3, b3⟩
  obtain ⟨a3, c3', rfl⟩ := row_form o3
  have HB3 : Hid (Below w.heap.size w w3) := HB2.out.trans (b3.mono HB2.out.size)
  have HS3 : Hid (Sm w3 a3 bl) := Sm.of_row o3
  have HS23 : Hid (Sm w3 a2 ul) := HS2.out.below b3
  have k4 := K4.out w3 HB3.out
  clear k3 o3 b3 HB2 K4 HS2
  go_wp2_with fail
  go_fit k4
  rintro e w4 ⟨v4, rfl, o4, b4⟩
  obtain ⟨a4, c4, rfl⟩ := row_form o4
  have HB4 : Hid (Below w.heap.size w w4) := HB3.out.trans (b4.mono HB3.out.size)
  have HS4 : Hid (Sm w4 a4 ul) := Sm.of_row o4
  have HS24 : Hid (Sm w4 a2 ul) := HS23.out.below b4
  have HS34 : Hid (Sm w4 a3 bl) := HS3.out.below b4
  have k5 := K5.out w4 HB4.out
  clear k4 o4 b4 HB3 K5 HS23 HS3
  go_wp2_with fail
  go_fit k5
  rintro e w5 ⟨rfl, b5⟩
  have HB5 : Hid (Below w.heap.size w w5) := HB4.out.trans (b5.mono HB4.out.size)
  have HS45 : Hid (Sm w5 a4 ul) := HS4.out.below b5
  have HS25 : Hid (Sm w5 a2 ul) := HS24.out.below b5
  have HS35 : Hid (Sm w5 a3 bl) := HS34.out.below b5
  have k6 := K6.out w5 HB5.out
  clear k5 b5 HB4 K6 HS4 HS24 HS34
  go_wp2_with fail
  go_fit k6
  rintro e w6 ⟨v6, rfl, o6, b6⟩
  obtain ⟨a6, c6, rfl⟩ := row_form o6
  have HB6 : Hid (Below w.heap.size w w6) := HB5.out.trans (b6.mono HB5.out.size)
  have HS6 : Hid (Sm w6 a6 bl) := Sm.of_row o6
  have HS36 : Hid (Sm w6 a3 bl) := HS35.out.below b6
  have k7 := alike_true a4 a2 c4 c2 ul ul false w6 (HS45.out.below b6) (HS25.out.below b6) rfl (fun i x y hx hy => by rw [hx] at hy; cases hy; exact alk_refl _ _) HUL.out
  clear k6 o6 b6 HB5 HS45 HS25 HS35
  go_wp2_with fail
  go_fit k7
  rintro e w7 ⟨rfl, b7⟩
  have HB7 : Hid (Below w.heap.size w w7) := HB6.out.trans (b7.mono HB6.out.size)
  have k8 := alike_true a6 a3 c6 c3' bl bl false w7 (HS6.out.below b7) (HS36.out.below b7) rfl (fun i x y hx hy => by rw [hx] at hy; cases hy; exact alk_refl _ _) HBL.out
  clear k7 b7 HB6 HS6 HS36
  go_wp2_with fail
  go_fit k8
  rintro e w8 ⟨rfl, b8⟩
  have HB8 : Hid (Below w.heap.size w w8) := HB7.out.trans (b8.mono HB7.out.size)
  clear k8 b8 HB7
  go_wp2
  go_ret
  exact ⟨rfl, HB8.out⟩
end Go.Proofs.YtedlmjieclaojabDoor
