/- The walk of the law UtfLiterals. -/
import Derived.Test.YtdnbkgbgpfmipabDoorOwnUnq
import Derived.Test.YtdnbkgbgpfmipabDoorAsks
namespace Go.Proofs.YtdnbkgbgpfmipabDoor
open Go.RowKit Go.Lib

theorem l1 : litZ ⟨#[120, 34, 97, 92, 34, 98, 34, 99]⟩ 1 = (7, 0) := by decide +kernel

theorem numE (x : Int) (w : World) : Calls Tryd.prog 16 #[.int .i64 x] w fun e w' => e = .returned (.int .i64 x) ∧ w' = w := by
  go_enter Tryd.func16, Tryd.ntmps16
  go_wp2
  go_ret
  exact ⟨rfl, rfl⟩
set_option maxHeartbeats 2000000 in
set_option maxRecDepth 100000 in
theorem lits_walk (b off len cap : Nat) (S : Nat → ByteArray) (A : Nat → Int) (w : World) (hT : Lib.Utf8Tabs 1 2 w) (hlen : len ≤ maxLen) (hA : AsksB w b off len S A) (hb0 : b < w.heap.size) :
    Calls Tryd.prog 6 #[.slice (some ⟨b, off, none⟩) len cap] w fun e w' => e = .returned (.bool true) ∧ Below w.heap.size w w' := by
  have hsz := tabs_size hT
  have HT : Hid (Lib.Utf8Tabs 1 2 w) := hT
  have HA : Hid (AsksB w b off len S A) := hA
  unfold maxLen at hlen
  have k1 := literal_any ⟨#[120, 34, 97, 92, 34, 98, 34, 99]⟩ 1 w (by decide)
  rw [l1] at k1
  clear hT hA
  go_enter Tryd.func6, Tryd.ntmps6
  go_wp2_with fail
  go_fit k1
  clear k1
  rintro e w3 ⟨rfl, rfl⟩
  go_wp2
  go_loopw [25] (fun t w' => ∃ j : Nat, t = .int .i64 j ∧ j ≤ len ∧ Below w3.heap.size w3 w') (fun t _ => len - (RowKit.intOf t).toNat)
  case atStart => exact ⟨0, rfl, by omega, Below.refl _ _⟩
  case round =>
    obtain ⟨j, rfl, hj, hbw⟩ := hrel
    by_cases hlt : j < len
    · obtain ⟨hS, hc0, hc1, _, _⟩ := HA.out j hlt
      have HS : Hid ((S j).size ≤ 140737488351232) := hS
      have d0 : wr.cell? ⟨b, off + j * 2, none⟩ = some (.string (S j)) := by rw [hbw.cell hb0]; exact hc0
      have d1 : wr.cell? ⟨b, off + j * 2 + 1, none⟩ = some (.int .i64 (A j)) := by rw [hbw.cell hb0]; exact hc1
      have ka := fun w' => literal_any (S j) (A j) w' (by omega)
      have kb := fun w' => rliteral_any (S j) (A j) w' (by omega)
      have kn1 := fun w' => numE (litZ (S j) (A j)).2 w'
      have kn2 := fun w' => numE (unqR (S j)).2 w'
      have kc : Hid (∀ w', Below w3.heap.size w3 w' → Calls Tryd.prog 12 #[.string (S j)] w' fun r w'' => r = .returned (.tuple #[.string (unqR (S j)).1, .int .i64 (unqR (S j)).2]) ∧ Below w'.heap.size w' w'') := fun w' hb => unq_any (S j) w' hS (tabs_below HT.out hsz hb)
      have kd : Hid (∀ w', Calls Tryd.prog 22 #[.string (S j)] w' fun r w'' => r = .returned (.tuple #[.string (unqR (S j)).1, .int .i64 (unqR (S j)).2]) ∧ Below w'.heap.size w' w'') := fun w' => runq_any (S j) w' hS
      clear hc0 hc1 hS
      have hzr : b < wr.heap.size := Nat.lt_of_lt_of_le hb0 hbw.size
      have hb4 : Below w3.heap.size w3 (wr.alloc (Obj.cells #[Value.string (S j), Value.int IntKind.i64 (A j)] 47)) := hbw.alloc hbw.size _
      have e0 : (wr.alloc (Obj.cells #[Value.string (S j), Value.int IntKind.i64 (A j)] 47)).cell? ⟨wr.heap.size, 0, none⟩ = some (.string (S j)) := by simp [go_sem]
      have e1 : (wr.alloc (Obj.cells #[Value.string (S j), Value.int IntKind.i64 (A j)] 47)).cell? ⟨wr.heap.size, 1, none⟩ = some (.int .i64 (A j)) := by simp [go_sem]
      have hz4 : wr.heap.size < (wr.alloc (Obj.cells #[Value.string (S j), Value.int IntKind.i64 (A j)] 47)).heap.size := by simp
      generalize (litZ (S j) (A j)).1 = X at *
      generalize (litZ (S j) (A j)).2 = Y at *
      generalize (unqR (S j)).1 = Z at *
      generalize (unqR (S j)).2 = V at *
      have kc1 := kc.out _ hb4
      go_wp2_with fail
      go_fit (ka _)
      clear ka
      rintro e w4 ⟨rfl, rfl⟩
      go_wp2_with (first | (go_at_call 21; go_fit (kb _); rintro e w5 ⟨rfl, rfl⟩) | (go_at_call 16; go_fit (kn1 _); rintro e w5 ⟨rfl, rfl⟩))
      go_fit kc1
      clear kc1
      rintro e w4 ⟨rfl, h4⟩
      generalize wr.alloc (Obj.cells #[Value.string (S j), Value.int IntKind.i64 (A j)] 47) = W0 at *
      have f0 : w4.cell? ⟨wr.heap.size, 0, none⟩ = some (.string (S j)) := by rw [h4.cell hz4]; exact e0
      have hb5 : Below w3.heap.size w3 w4 := hb4.trans (h4.mono hb4.size)
      have HB5 : Hid (Below w3.heap.size w3 w4) := hb5
      have kd1 := kd.out w4
      clear e0 e1 h4 hb4 d0 d1 hbw hzr hb5
      go_wp2_with fail
      go_fit kd1
      clear kd1
      rintro e w5 ⟨rfl, h5⟩
      have hb6 : Below w3.heap.size w3 w5 := HB5.out.trans (h5.mono HB5.out.size)
      have HB6 : Hid (Below w3.heap.size w3 w5) := hb6
      clear f0 h5 hb6
      go_wp2_with (go_at_call 16; go_fit (kn2 _); rintro e w6 ⟨rfl, rfl⟩)
      exact ⟨⟨j + 1, by go_num, by omega, HB6.out⟩, by simp [RowKit.intOf]; omega⟩
    · go_wp2
      go_ret
      exact ⟨rfl, hbw⟩

set_option maxHeartbeats 1000000 in
theorem lits_nil (a : Option Addr) (cap : Nat) (w : World) :
    Calls Tryd.prog 6 #[.slice a 0 cap] w fun e w' => e = .returned (.bool true) ∧ Below w.heap.size w w' := by
  have k1 := literal_any ⟨#[120, 34, 97, 92, 34, 98, 34, 99]⟩ 1 w (by decide)
  rw [l1] at k1
  go_enter Tryd.func6, Tryd.ntmps6
  go_wp2_with fail
  go_fit k1
  clear k1
  rintro e w3 ⟨rfl, rfl⟩
  go_wp2
  go_loopw [25] (fun t w' => t = .int .i64 0 ∧ Below w3.heap.size w3 w') (fun _ _ => 0)
  case atStart => exact ⟨rfl, Below.refl _ _⟩
  case round =>
    obtain ⟨rfl, hbw⟩ := hrel
    go_wp2
    go_ret
    exact ⟨rfl, hbw⟩
end Go.Proofs.YtdnbkgbgpfmipabDoor
