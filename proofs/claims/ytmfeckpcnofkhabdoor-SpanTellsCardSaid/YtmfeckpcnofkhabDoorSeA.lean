/- strconv.FormatUint at base 10. -/
import Derived.Test.YtmfeckpcnofkhabDoorShg
import Derived.Test.YtmfeckpcnofkhabDoorOfA
import Derived.Lib.ItoaMem
namespace Go.Proofs.YtmfeckpcnofkhabDoor
open Go.RowKit Go.Lib Go.Sort

theorem holds_zero0 (w : World) (T : TypeId) (nd : Nat) (hs : nd ≤ 24) : Holds (fun (b : UInt8) => Value.int .u8 (b.toNat : Int)) (w.alloc (.cells zeros24 T)) w.heap.size 0 (Array.replicate nd (0 : UInt8)) := fun j hj => by
  have hj' : j < nd := by simpa using hj
  refine ⟨?_, World.frozen?_alloc_new _ _ _ _⟩
  rw [World.cell?_alloc_new, zeros24_at _ (by omega), getElem!_pos _ j hj]
  simp
theorem fin_pos0 (w : World) (o : Obj) (dk : Array UInt8) (k : Nat) : ∃ os, (putRow (fun (b : UInt8) => Value.int .u8 (b.toNat : Int)) (w.alloc o) w.heap.size 0 dk).drewN k = grow (w.drewN k) os := by
  rw [alloc_eq_grow]
  obtain ⟨os', _, e⟩ := putRow_grow_new (fun (b : UInt8) => Value.int .u8 (b.toNat : Int)) w #[o] w.heap.size 0 dk (Nat.le_refl _)
  exact ⟨os', by rw [e]; rfl⟩

set_option maxHeartbeats 2000000 in
set_option maxRecDepth 100000 in
theorem ifu_any (u : Nat) (w : World) (hT : Tab w) (hu64 : u < 18446744073709551616) :
    Calls Tryd.prog 47 #[.int .u64 u, .int .i64 10] w fun e w' => e = .returned (.string (mk (decDigits u))) ∧ Below w.heap.size w w' := by
  by_cases hs : u < 100
  · have k1 := fun w => Tryd.internal_strconv_small u hs w
    have hsi : (u : Int) < 100 := by omega
    have wr : IntKind.i64.wrap (u : Int) = (u : Int) := by
      unfold IntKind.wrap IntKind.signed IntKind.bits
      simp
      omega
    generalize (u : Int) = U at *
    go_enter Tryd.func47, Tryd.ntmps47
    go_wp2_with fail
    go_fit (k1 _)
    rintro e w1 ⟨rfl, rfl⟩
    go_wp2
    go_ret
    exact ⟨rfl, Below.refl _ _⟩
  · have hsi : ¬ (u : Int) < 100 := by omega
    have hu1 : 1 ≤ u := by omega
    have hnd20 : nDigits u ≤ 20 := by have := numDigits_eq u hu1 hu64; split at this <;> omega
    have hal : Tryd.prog.arrayLen 78 = 24 := by kernel_rfl
    have hsl : ∀ W, (Instr.sliceAt 78 (.pointer (some ⟨w.heap.size, 0, none⟩)) none (some (.int .i64 (nDigits u : Int))) none).run Tryd.prog W = .ok (.slice (some ⟨w.heap.size, 0, none⟩) (nDigits u) 24) W := fun W => by
      rw [run_sliceAt_array_h W 78 ⟨w.heap.size, 0, none⟩ Tryd.underlying78 .i64 (nDigits u : Int) (by omega) (by rw [hal]; omega)]
      go_simp
      first | done | omega | rfl
    have hH0 := holds_zero0 w 78 (nDigits u) (by omega)
    have hfmt := Tryd.internal_strconv_formatBase10 w.heap.size 0 24 u (Array.replicate (nDigits u) 0) (w.alloc (.cells zeros24 78)) hH0 (by rw [Array.size_replicate]; exact lt_pow_nDigits u) hu64 (by rw [Array.size_replicate]; omega)
    rw [Array.size_replicate] at hfmt
    have knd := Tryd.internal_strconv_numDigits u hu1 hu64 (w.alloc (.cells zeros24 78)) (tabIs_alloc hT _)
    have HH0 : Hid _ := hH0
    clear hH0 hal
    go_enter Tryd.func47, Tryd.ntmps47
    go_wp2_with fail
    go_fit knd
    clear knd
    rintro e w1 ⟨rfl, rfl⟩
    go_wp2_with fail
    go_fit hfmt
    clear hfmt
    rintro e w2 ⟨rfl, k, v', dk, rfl, hF⟩
    have hcv : (convert 77 9 (.slice (some ⟨w.heap.size, 0, none⟩) (nDigits u) 24)).run Tryd.prog ((putRow (fun (b : UInt8) => Value.int .u8 (b.toNat : Int)) (w.alloc (.cells zeros24 78)) w.heap.size 0 dk).drewN k) = .ok (.string ⟨(decDigits u).toArray⟩) ((putRow (fun (b : UInt8) => Value.int .u8 (b.toNat : Int)) (w.alloc (.cells zeros24 78)) w.heap.size 0 dk).drewN k) := by
      have h := run_convert_bytes_back (P := Tryd.prog) ((putRow (fun (b : UInt8) => Value.int .u8 (b.toNat : Int)) (w.alloc (.cells zeros24 78)) w.heap.size 0 dk).drewN k) 77 9 5 ⟨w.heap.size, 0, none⟩ 24 (decDigits u) Tryd.underlying77 Tryd.underlying5 Tryd.underlying9 (fun j hj => by
        rw [row_is_numeral hF j hj, add_plain, World.cell?_drewN]
        exact cell?_putRow (fun (b : UInt8) => Value.int .u8 (b.toNat : Int)) _ w.heap.size 0 _ dk HH0.out (by rw [hF.size, Array.size_replicate]) j (by rw [hF.size]; rw [decDigits_length] at hj; exact hj))
      rw [decDigits_length] at h
      exact h
    obtain ⟨os, eo⟩ := fin_pos0 w (.cells zeros24 78) dk k
    have hbel : Below w.heap.size w ((putRow (fun (b : UInt8) => Value.int .u8 (b.toNat : Int)) (w.alloc (.cells zeros24 78)) w.heap.size 0 dk).drewN k) := eo ▸ below_grown w k os
    clear eo hF HH0
    generalize (putRow (fun (b : UInt8) => Value.int .u8 (b.toNat : Int)) (w.alloc (.cells zeros24 78)) w.heap.size 0 dk).drewN k = W2 at *
    go_wp2
    go_ret
    exact ⟨rfl, hbel⟩

theorem fu_any (u : Nat) (w : World) (hT : Tab w) (hu64 : u < 18446744073709551616) :
    Calls Tryd.prog 28 #[.int .u64 u, .int .i64 10] w fun e w' => e = .returned (.string (mk (decDigits u))) ∧ Below w.heap.size w w' := by
  have k := ifu_any u w hT hu64
  generalize mk (decDigits u) = D at *
  generalize (u : Int) = U at *
  go_enter Tryd.func28, Tryd.ntmps28
  go_wp2_with fail
  go_fit k
  rintro e w1 ⟨rfl, b1⟩
  go_wp2
  go_ret
  exact ⟨rfl, b1⟩
end Go.Proofs.YtmfeckpcnofkhabDoor
