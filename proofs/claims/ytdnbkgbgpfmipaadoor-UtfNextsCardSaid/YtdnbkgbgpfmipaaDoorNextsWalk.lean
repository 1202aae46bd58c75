/- The walk of the law UtfNexts. -/
import Derived.Test.YtdnbkgbgpfmipaaDoorRefNext
import Derived.Deep.QuietTactic
import Derived.BigQuiet
import Derived.Lib.QuietBelow
namespace Go.Proofs.YtdnbkgbgpfmipaaDoor
open Go.RowKit Go.Lib

theorem c1 : nxtZ ⟨#[97, 195, 169]⟩ 1 = (233, 2) := by decide +kernel
theorem c2 : vld ⟨#[97]⟩ (ByteArray.size ⟨#[97]⟩) 0 = true := by decide +kernel
theorem c3 : vld ⟨#[193, 129]⟩ (ByteArray.size ⟨#[193, 129]⟩) 0 = false := by decide +kernel

/-- What the slice of questions holds. -/
def AsksAt (w : World) (b off len : Nat) (S : Nat → ByteArray) (A : Nat → Int) : Prop :=
  ∀ j, j < len → (S j).size ≤ maxLen ∧ w.cell? ⟨b, off + j * 2, none⟩ = some (.string (S j)) ∧ w.cell? ⟨b, off + j * 2 + 1, none⟩ = some (.int .i64 (A j))

set_option maxHeartbeats 1000000 in
theorem nexts_walk (b off len cap : Nat) (S : Nat → ByteArray) (A : Nat → Int) (w : World) (hT : Lib.Utf8Tabs 0 1 w) (hlen : len ≤ maxLen) (hA : AsksAt w b off len S A) (hb0 : b < w.heap.size) :
    Calls Tryd.prog 4 #[.slice (some ⟨b, off, none⟩) len cap] w fun e w' => e = .returned (.bool true) ∧ Below w.heap.size w w' := by
  have hsz := tabs_size hT
  have HT : Hid (Lib.Utf8Tabs 0 1 w) := hT
  have HA : Hid (AsksAt w b off len S A) := hA
  unfold maxLen at hlen
  have k1 := next_any ⟨#[97, 195, 169]⟩ 1 w (by decide) hT
  rw [c1] at k1
  clear hT hA
  go_enter Tryd.func4, Tryd.ntmps4
  go_wp2_with fail
  go_fit k1
  rintro e w1 ⟨rfl, hb1⟩
  have hT1 := tabs_below HT.out hsz hb1
  have k2 := valid_any ⟨#[97]⟩ w1 (by decide) hT1
  rw [c2] at k2
  clear hT1 k1
  go_wp2_with fail
  go_fit k2
  rintro e w2 ⟨rfl, hb2⟩
  have hb2' := hb1.trans (hb2.mono hb1.size)
  have hT2 := tabs_below HT.out hsz hb2'
  have k3 := valid_any ⟨#[193, 129]⟩ w2 (by decide) hT2
  rw [c3] at k3
  clear hT2 k2
  go_wp2_with fail
  go_fit k3
  rintro e w3 ⟨rfl, hb3⟩
  have hb3' := hb2'.trans (hb3.mono hb2'.size)
  clear k3 hb1 hb2 hb3 hb2'
  go_wp2
  go_loopw [28] (fun t w' => ∃ j : Nat, t = .int .i64 j ∧ j ≤ len ∧ Below w.heap.size w w') (fun t _ => len - (RowKit.intOf t).toNat)
  case atStart => exact ⟨0, rfl, by omega, hb3'⟩
  case round =>
    obtain ⟨j, rfl, hj, hbw⟩ := hrel
    by_cases hlt : j < len
    · obtain ⟨hS, hc0, hc1⟩ := HA.out j hlt
      have HS : Hid ((S j).size ≤ maxLen) := hS
      have d0 : wr.cell? ⟨b, off + j * 2, none⟩ = some (.string (S j)) := by rw [hbw.cell hb0]; exact hc0
      have d1 : wr.cell? ⟨b, off + j * 2 + 1, none⟩ = some (.int .i64 (A j)) := by rw [hbw.cell hb0]; exact hc1
      clear hc0 hc1 hS
      have hzr : b < wr.heap.size := Nat.lt_of_lt_of_le hb0 hbw.size
      have hb4 : Below w.heap.size w (wr.alloc (Obj.cells #[Value.string (S j), Value.int IntKind.i64 (A j)] 33)) := hbw.alloc hbw.size _
      have hT4 := tabs_below HT.out hsz hb4
      have k4 := next_any (S j) (A j) (wr.alloc (Obj.cells #[Value.string (S j), Value.int IntKind.i64 (A j)] 33)) HS.out hT4
      have e0 : (wr.alloc (Obj.cells #[Value.string (S j), Value.int IntKind.i64 (A j)] 33)).cell? ⟨wr.heap.size, 0, none⟩ = some (.string (S j)) := by simp [go_sem]
      have e1 : (wr.alloc (Obj.cells #[Value.string (S j), Value.int IntKind.i64 (A j)] 33)).cell? ⟨wr.heap.size, 1, none⟩ = some (.int .i64 (A j)) := by simp [go_sem]
      have hz4 : wr.heap.size < (wr.alloc (Obj.cells #[Value.string (S j), Value.int IntKind.i64 (A j)] 33)).heap.size := by simp
      have k5 := fun w' => rnext_any (S j) (A j) w' HS.out
      generalize (nxtZ (S j) (A j)).1 = X at *
      generalize (nxtZ (S j) (A j)).2 = Y at *
      go_wp2_with fail
      go_fit k4
      clear k4
      rintro e w4 ⟨rfl, h4⟩
      generalize wr.alloc (Obj.cells #[Value.string (S j), Value.int IntKind.i64 (A j)] 33) = W0 at *
      have f0 : w4.cell? ⟨wr.heap.size, 0, none⟩ = some (.string (S j)) := by rw [h4.cell hz4]; exact e0
      have f1 : w4.cell? ⟨wr.heap.size, 1, none⟩ = some (.int .i64 (A j)) := by rw [h4.cell hz4]; exact e1
      have hz5 : wr.heap.size < w4.heap.size := Nat.lt_of_lt_of_le hz4 h4.size
      have hb5 : Below w.heap.size w w4 := hb4.trans (h4.mono hb4.size)
      have HB5 : Hid (Below w.heap.size w w4) := hb5
      clear e0 e1 h4 hb4 hT4 d0 d1 hbw hzr hb5
      go_wp2_with fail
      go_fit (k5 w4)
      clear k5
      rintro e w5 ⟨rfl, h5⟩
      have g0 : w5.cell? ⟨wr.heap.size, 0, none⟩ = some (.string (S j)) := by rw [h5.cell hz5]; exact f0
      have hb6 : Below w.heap.size w w5 := HB5.out.trans (h5.mono HB5.out.size)
      have hT6 := tabs_below HT.out hsz hb6
      have q0 : ∀ d os, (Go.Sort.grow (redrawn w5 d) os).cell? ⟨wr.heap.size, 0, none⟩ = some (.string (S j)) := fun d os => cell_regrown g0 d os
      have cV : ∀ d os, Calls Tryd.prog 9 #[.string (S j)] (Go.Sort.grow (redrawn w5 d) os) fun e w'' => e = .returned (.bool (vld (S j) (S j).size 0)) ∧ ∃ p : Regrown, w'' = Go.Sort.grow (redrawn w5 p.d) p.os :=
        fun d os => Calls.regrown_of (valid_any (S j) _ HS.out (tabs_below hT6 (tabs_size hT6) (below_regrown w5 d os)))
      have cR : ∀ d os, Calls Tryd.prog 14 #[.string (S j)] (Go.Sort.grow (redrawn w5 d) os) fun e w'' => e = .returned (.bool (vld (S j) (S j).size 0)) ∧ ∃ p : Regrown, w'' = Go.Sort.grow (redrawn w5 p.d) p.os :=
        fun d os => Calls.regrown_of (rvalid_any (S j) _ HS.out)
      generalize vld (S j) (S j).size 0 = V at *
      clear f0 f1 h5 hT6 g0
      have HB6 : Hid (Below w.heap.size w w5) := hb6
      clear hb6
      go_wp2_with fail
      refine wp_region_quiet_below (by kernel_rfl) (by kernel_rfl) ?_
      repeat (quiet_step (first | exact cV _ _ | exact cR _ _))
      refine wpQuiet_nil ?_
      intro _ hw'
      obtain ⟨⟨dq, osq⟩, hw''⟩ := hw'
      subst hw''
      go_wp2
      exact ⟨⟨j + 1, by go_num, by omega, HB6.out.trans ((below_regrown w5 dq osq).mono HB6.out.size)⟩, by simp [RowKit.intOf]; omega⟩
    · go_wp2
      go_ret
      exact ⟨rfl, hbw⟩

set_option maxHeartbeats 1000000 in
theorem nexts_nil (a : Option Addr) (cap : Nat) (w : World) (hT : Lib.Utf8Tabs 0 1 w) :
    Calls Tryd.prog 4 #[.slice a 0 cap] w fun e w' => e = .returned (.bool true) ∧ Below w.heap.size w w' := by
  have hsz := tabs_size hT
  have HT : Hid (Lib.Utf8Tabs 0 1 w) := hT
  have k1 := next_any ⟨#[97, 195, 169]⟩ 1 w (by decide) hT
  rw [c1] at k1
  clear hT
  go_enter Tryd.func4, Tryd.ntmps4
  go_wp2_with fail
  go_fit k1
  rintro e w1 ⟨rfl, hb1⟩
  have hT1 := tabs_below HT.out hsz hb1
  have k2 := valid_any ⟨#[97]⟩ w1 (by decide) hT1
  rw [c2] at k2
  clear hT1 k1
  go_wp2_with fail
  go_fit k2
  rintro e w2 ⟨rfl, hb2⟩
  have hb2' := hb1.trans (hb2.mono hb1.size)
  have hT2 := tabs_below HT.out hsz hb2'
  have k3 := valid_any ⟨#[193, 129]⟩ w2 (by decide) hT2
  rw [c3] at k3
  clear hT2 k2
  go_wp2_with fail
  go_fit k3
  rintro e w3 ⟨rfl, hb3⟩
  have hb3' := hb2'.trans (hb3.mono hb2'.size)
  clear k3 hb1 hb2 hb3 hb2'
  go_wp2
  go_loopw [28] (fun t w' => t = .int .i64 0 ∧ Below w.heap.size w w') (fun _ _ => 0)
  case atStart => exact ⟨rfl, hb3'⟩
  case round =>
    obtain ⟨rfl, hbw⟩ := hrel
    go_wp2
    go_ret
    exact ⟨rfl, hbw⟩
end Go.Proofs.YtdnbkgbgpfmipaaDoor
