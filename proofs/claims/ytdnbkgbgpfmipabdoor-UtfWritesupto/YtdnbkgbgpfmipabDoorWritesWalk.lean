/- The walk of the law UtfWrites. -/
import Derived.Test.YtdnbkgbgpfmipabDoorRefUj
import Derived.Test.YtdnbkgbgpfmipabDoorRefQ
import Derived.Test.YtdnbkgbgpfmipabDoorLitsWalk
namespace Go.Proofs.YtdnbkgbgpfmipabDoor
open Go.RowKit Go.Lib

theorem q1 : wrR byteQ ⟨#[97, 34]⟩ = (⟨#[34, 97, 92, 34, 34]⟩, 0) := by decide +kernel

/-- What a slice of texts holds. -/
def TextsB (w : World) (b off len : Nat) (S : Nat → ByteArray) : Prop :=
  ∀ j, j < len → (S j).size ≤ 1048576 ∧ w.cell? ⟨b, off + j, none⟩ = some (.string (S j))

set_option maxHeartbeats 4000000 in
set_option maxRecDepth 100000 in
theorem writes_walk (b off len cap : Nat) (S : Nat → ByteArray) (w : World) (hT : Lib.Utf8Tabs 1 2 w) (hlen : len ≤ maxLen) (hA : TextsB w b off len S) (hb0 : b < w.heap.size) :
    Calls Tryd.prog 7 #[.slice (some ⟨b, off, none⟩) len cap] w fun e w' => e = .returned (.bool true) ∧ Below w.heap.size w w' := by
  have hsz := tabs_size hT
  have HT : Hid (Lib.Utf8Tabs 1 2 w) := hT
  have HA : Hid (TextsB w b off len S) := hA
  unfold maxLen at hlen
  have k1 := quote_any ⟨#[97, 34]⟩ w (by decide) hT
  rw [q1] at k1
  clear hT hA
  go_enter Tryd.func7, Tryd.ntmps7
  go_wp2_with fail
  go_fit k1
  clear k1
  rintro e w3 ⟨rfl, hb3⟩
  go_wp2
  go_loopw [21] (fun t w' => ∃ j : Nat, t = .int .i64 j ∧ j ≤ len ∧ Below w.heap.size w w') (fun t _ => len - (RowKit.intOf t).toNat)
  case atStart => exact ⟨0, rfl, by omega, hb3⟩
  case round =>
    obtain ⟨j, rfl, hj, hbw⟩ := hrel
    by_cases hlt : j < len
    · obtain ⟨hS, hc0⟩ := HA.out j hlt
      have d0 : wr.cell? ⟨b, off + j, none⟩ = some (.string (S j)) := by rw [hbw.cell hb0]; exact hc0
      have kq : Hid (∀ w', Below w.heap.size w w' → Calls Tryd.prog 23 #[.string (S j)] w' fun r w'' => r = .returned (.tuple #[.string (wrR byteQ (S j)).1, .int .i64 (wrR byteQ (S j)).2]) ∧ Below w'.heap.size w' w'') := fun w' hb => quote_any (S j) w' (Nat.le_trans hS (by decide)) (tabs_below HT.out hsz hb)
      have kj : Hid (∀ w', Below w.heap.size w w' → Calls Tryd.prog 9 #[.string (S j)] w' fun r w'' => r = .returned (.tuple #[.string (wrR byteJ (S j)).1, .int .i64 (wrR byteJ (S j)).2]) ∧ Below w'.heap.size w' w'') := fun w' hb => json_any (S j) w' (Nat.le_trans hS (by decide)) (tabs_below HT.out hsz hb)
      have ku : Hid (∀ w', Below w.heap.size w w' → Calls Tryd.prog 10 #[.string (S j)] w' fun r w'' => r = .returned (.tuple #[.string (ujR (S j)).1, .int .i64 (ujR (S j)).2]) ∧ Below w'.heap.size w' w'') := fun w' hb => unjson_any (S j) w' (by omega) (tabs_below HT.out hsz hb)
      have rq : Hid (∀ w', Calls Tryd.prog 24 #[.string (S j)] w' fun r w'' => r = .returned (.tuple #[.string (wrR byteQ (S j)).1, .int .i64 (wrR byteQ (S j)).2]) ∧ Below w'.heap.size w' w'') := fun w' => rquote_any (S j) w' (Nat.le_trans hS (by decide))
      have rj : Hid (∀ w', Calls Tryd.prog 25 #[.string (S j)] w' fun r w'' => r = .returned (.tuple #[.string (wrR byteJ (S j)).1, .int .i64 (wrR byteJ (S j)).2]) ∧ Below w'.heap.size w' w'') := fun w' => rjson_any (S j) w' (Nat.le_trans hS (by decide))
      have ru : Hid (∀ w', Calls Tryd.prog 26 #[.string (S j)] w' fun r w'' => r = .returned (.tuple #[.string (ujR (S j)).1, .int .i64 (ujR (S j)).2]) ∧ Below w'.heap.size w' w'') := fun w' => runj_any (S j) w' (by omega)
      generalize (wrR byteQ (S j)).1 = Q1 at *
      generalize (wrR byteQ (S j)).2 = Q2 at *
      generalize (wrR byteJ (S j)).1 = J1 at *
      generalize (wrR byteJ (S j)).2 = J2 at *
      generalize (ujR (S j)).1 = U1 at *
      generalize (ujR (S j)).2 = U2 at *
      have n1 := fun w' => numE Q2 w'
      have n2 := fun w' => numE J2 w'
      have n3 := fun w' => numE U2 w'
      clear hc0 hS
      have k := kq.out wr hbw
      go_wp2_with fail
      go_fit k
      rintro e w4 ⟨rfl, h4⟩
      have hb4 : Below w.heap.size w w4 := hbw.trans (h4.mono hbw.size)
      clear k h4 d0 hbw
      have k := rq.out w4
      go_wp2_with fail
      go_fit k
      rintro e w5 ⟨rfl, h5⟩
      have hb5 : Below w.heap.size w w5 := hb4.trans (h5.mono hb4.size)
      clear k h5 hb4
      have k := kj.out w5 hb5
      go_wp2_with (go_at_call 16; go_fit (n1 _); rintro e w6 ⟨rfl, rfl⟩)
      go_fit k
      rintro e w6 ⟨rfl, h6⟩
      have hb6 : Below w.heap.size w w6 := hb5.trans (h6.mono hb5.size)
      clear k h6 hb5
      have k := rj.out w6
      go_wp2_with fail
      go_fit k
      rintro e w7 ⟨rfl, h7⟩
      have hb7 : Below w.heap.size w w7 := hb6.trans (h7.mono hb6.size)
      clear k h7 hb6
      have k := ku.out w7 hb7
      go_wp2_with (go_at_call 16; go_fit (n2 _); rintro e w8 ⟨rfl, rfl⟩)
      go_fit k
      rintro e w8 ⟨rfl, h8⟩
      have hb8 : Below w.heap.size w w8 := hb7.trans (h8.mono hb7.size)
      clear k h8 hb7
      have k := ru.out w8
      go_wp2_with fail
      go_fit k
      rintro e w9 ⟨rfl, h9⟩
      have hb9 : Below w.heap.size w w9 := hb8.trans (h9.mono hb8.size)
      clear k h9 hb8
      go_wp2_with (go_at_call 16; go_fit (n3 _); rintro e w10 ⟨rfl, rfl⟩)
      exact ⟨⟨j + 1, by go_num, by omega, hb9⟩, by simp [RowKit.intOf]; omega⟩
    · go_wp2
      go_ret
      exact ⟨rfl, hbw⟩

set_option maxHeartbeats 1000000 in
theorem writes_nil (a : Option Addr) (cap : Nat) (w : World) (hT : Lib.Utf8Tabs 1 2 w) :
    Calls Tryd.prog 7 #[.slice a 0 cap] w fun e w' => e = .returned (.bool true) ∧ Below w.heap.size w w' := by
  have k1 := quote_any ⟨#[97, 34]⟩ w (by decide) hT
  rw [q1] at k1
  clear hT
  go_enter Tryd.func7, Tryd.ntmps7
  go_wp2_with fail
  go_fit k1
  clear k1
  rintro e w3 ⟨rfl, hb3⟩
  go_wp2
  go_loopw [21] (fun t w' => t = .int .i64 0 ∧ Below w.heap.size w w') (fun _ _ => 0)
  case atStart => exact ⟨rfl, hb3⟩
  case round =>
    obtain ⟨rfl, hbw⟩ := hrel
    go_wp2
    go_ret
    exact ⟨rfl, hbw⟩
end Go.Proofs.YtdnbkgbgpfmipabDoor
