/- The walk of the law UtfPlaces. -/
import Derived.Test.YtdnbkgbgpfmipaaDoorRefPlace
import Derived.Test.YtdnbkgbgpfmipaaDoorAsks
namespace Go.Proofs.YtdnbkgbgpfmipaaDoor
open Go.RowKit Go.Lib

/-- A place brought into a text. -/
def clamp (s : ByteArray) (a : Int) : Nat := (min (max a 0) (s.size : Int)).toNat
theorem clamp_le (s : ByteArray) (a : Int) : clamp s a ≤ s.size := by unfold clamp; omega
theorem clamp_eq (s : ByteArray) (a : Int) : min (max a 0) (s.size : Int) = clamp s a := by unfold clamp; omega
theorem clamp_or (s : ByteArray) (a : Int) : a < 0 ∧ clamp s a = 0 ∨ (s.size : Int) < a ∧ clamp s a = s.size ∨ a = clamp s a := by unfold clamp; omega

theorem p1 : lineT ⟨#[97, 98, 10, 195, 169, 120]⟩ 5 = 1 := by decide +kernel
theorem p2 : colF ⟨#[97, 98, 10, 195, 169, 120]⟩ 5 6 (fromT ⟨#[97, 98, 10, 195, 169, 120]⟩ 5) = 1 := by decide +kernel

set_option maxHeartbeats 1000000 in
theorem places_walk (b off len cap : Nat) (S : Nat → ByteArray) (A : Nat → Int) (w : World) (hT : Lib.Utf8Tabs 0 1 w) (hlen : len ≤ maxLen) (hA : AsksB w b off len S A) (hb0 : b < w.heap.size) :
    Calls Tryd.prog 6 #[.slice (some ⟨b, off, none⟩) len cap] w fun e w' => e = .returned (.bool true) ∧ Below w.heap.size w w' := by
  have hsz := tabs_size hT
  have HT : Hid (Lib.Utf8Tabs 0 1 w) := hT
  have HA : Hid (AsksB w b off len S A) := hA
  unfold maxLen at hlen
  have k1 := place_any ⟨#[97, 98, 10, 195, 169, 120]⟩ 5 5 w (by decide) hT (by decide) (by decide)
  rw [show (ByteArray.size ⟨#[97, 98, 10, 195, 169, 120]⟩) = 6 from rfl, p1, p2] at k1
  clear hT hA
  go_enter Tryd.func6, Tryd.ntmps6
  go_wp2_with fail
  go_fit k1
  clear k1
  rintro e w3 ⟨rfl, hb3'⟩
  go_wp2
  go_loopw [21] (fun t w' => ∃ j : Nat, t = .int .i64 j ∧ j ≤ len ∧ Below w.heap.size w w') (fun t _ => len - (RowKit.intOf t).toNat)
  case atStart => exact ⟨0, rfl, by omega, hb3'⟩
  case round =>
    obtain ⟨j, rfl, hj, hbw⟩ := hrel
    by_cases hlt : j < len
    · obtain ⟨hS, hc0, hc1, _, _⟩ := HA.out j hlt
      have HS : Hid ((S j).size ≤ 140737488351232) := hS
      have d0 : wr.cell? ⟨b, off + j * 2, none⟩ = some (.string (S j)) := by rw [hbw.cell hb0]; exact hc0
      have d1 : wr.cell? ⟨b, off + j * 2 + 1, none⟩ = some (.int .i64 (A j)) := by rw [hbw.cell hb0]; exact hc1
      clear hc0 hc1 hS
      have hzr : b < wr.heap.size := Nat.lt_of_lt_of_le hb0 hbw.size
      have hb4 : Below w.heap.size w (wr.alloc (Obj.cells #[Value.string (S j), Value.int IntKind.i64 (A j)] 33)) := hbw.alloc hbw.size _
      have hT4 := tabs_below HT.out hsz hb4
      have k4 := place_any (S j) (A j) (clamp (S j) (A j)) (wr.alloc (Obj.cells #[Value.string (S j), Value.int IntKind.i64 (A j)] 33)) HS.out hT4 (clamp_le _ _) (clamp_eq _ _)
      have e0 : (wr.alloc (Obj.cells #[Value.string (S j), Value.int IntKind.i64 (A j)] 33)).cell? ⟨wr.heap.size, 0, none⟩ = some (.string (S j)) := by simp [go_sem]
      have e1 : (wr.alloc (Obj.cells #[Value.string (S j), Value.int IntKind.i64 (A j)] 33)).cell? ⟨wr.heap.size, 1, none⟩ = some (.int .i64 (A j)) := by simp [go_sem]
      have hz4 : wr.heap.size < (wr.alloc (Obj.cells #[Value.string (S j), Value.int IntKind.i64 (A j)] 33)).heap.size := by simp
      have k5 := fun w' => rplace_any (S j) (A j) (clamp (S j) (A j)) w' HS.out (clamp_le _ _) (clamp_or _ _)
      generalize (1 + (lineT (S j) (clamp (S j) (A j)) : Int)) = X at *
      generalize (1 + (colF (S j) (clamp (S j) (A j)) (S j).size (fromT (S j) (clamp (S j) (A j))) : Int)) = Y at *
      go_wp2_with fail
      go_fit k4
      clear k4
      rintro e w4 ⟨rfl, h4⟩
      generalize wr.alloc (Obj.cells #[Value.string (S j), Value.int IntKind.i64 (A j)] 33) = W0 at *
      have f0 : w4.cell? ⟨wr.heap.size, 0, none⟩ = some (.string (S j)) := by rw [h4.cell hz4]; exact e0
      have f1 : w4.cell? ⟨wr.heap.size, 1, none⟩ = some (.int .i64 (A j)) := by rw [h4.cell hz4]; exact e1
      have hb5 : Below w.heap.size w w4 := hb4.trans (h4.mono hb4.size)
      have HB5 : Hid (Below w.heap.size w w4) := hb5
      clear e0 e1 h4 hb4 hT4 d0 d1 hbw hzr hb5
      go_wp2_with fail
      go_fit (k5 w4)
      clear k5
      rintro e w5 ⟨rfl, h5⟩
      have hb6 : Below w.heap.size w w5 := HB5.out.trans (h5.mono HB5.out.size)
      have HB6 : Hid (Below w.heap.size w w5) := hb6
      clear f0 f1 h5 hb6
      go_wp2
      exact ⟨⟨j + 1, by go_num, by omega, HB6.out⟩, by simp [RowKit.intOf]; omega⟩
    · go_wp2
      go_ret
      exact ⟨rfl, hbw⟩

set_option maxHeartbeats 1000000 in
theorem places_nil (a : Option Addr) (cap : Nat) (w : World) (hT : Lib.Utf8Tabs 0 1 w) :
    Calls Tryd.prog 6 #[.slice a 0 cap] w fun e w' => e = .returned (.bool true) ∧ Below w.heap.size w w' := by
  have k1 := place_any ⟨#[97, 98, 10, 195, 169, 120]⟩ 5 5 w (by decide) hT (by decide) (by decide)
  rw [show (ByteArray.size ⟨#[97, 98, 10, 195, 169, 120]⟩) = 6 from rfl, p1, p2] at k1
  clear hT
  go_enter Tryd.func6, Tryd.ntmps6
  go_wp2_with fail
  go_fit k1
  clear k1
  rintro e w3 ⟨rfl, hb3'⟩
  go_wp2
  go_loopw [21] (fun t w' => t = .int .i64 0 ∧ Below w.heap.size w w') (fun _ _ => 0)
  case atStart => exact ⟨rfl, hb3'⟩
  case round =>
    obtain ⟨rfl, hbw⟩ := hrel
    go_wp2
    go_ret
    exact ⟨rfl, hbw⟩
end Go.Proofs.YtdnbkgbgpfmipaaDoor
