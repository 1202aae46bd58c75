/- The reference's Pack. -/
import Derived.Test.YtljnllenpdkccaaPk
namespace Go.Proofs.Ytljnllenpdkccaa
open Go.RowKit

theorem nm_take (s : ByteArray) (k : Nat) (h : k < s.size) : (nm s).take (k + 1) = (nm s).take k ++ [((s[k].toNat : Nat) : Int)] := by
  have := nm_getD s k h
  have hl : k < (nm s).length := by rw [nm_len]; exact h
  rw [List.take_add_one, List.getElem?_eq_getElem hl]
  simp only [List.getD, List.getElem?_eq_getElem hl, Option.getD_some] at this
  rw [this]
  rfl

set_option maxHeartbeats 2000000 in
set_option maxRecDepth 100000 in
theorem rpack_any (x : Int) (p : ByteArray) (w : World) (hp : p.size ≤ 9223372036854775807) :
    Calls Try.prog 7 #[.agg #[.int .i64 x, .string p]] w fun r w' => ∃ av cv, r = .returned (.tuple #[.slice av (pkL x p).length cv, .int .i64 (pkE p)]) ∧ Im w' av (pkL x p) ∧ Below w.heap.size w w' := by
  have hpi : (p.size : Int) ≤ 9223372036854775807 := by omega
  have hW : Below w.heap.size w (w.alloc (.cells #[.int .i64 x, .string p] 23)) := (Below.refl _ _).alloc (Nat.le_refl _) _
  by_cases h0 : 1024 < p.size
  · have e1 : pkL x p = [] := if_pos h0
    have e2 : pkE p = 1 := if_pos h0
    rw [e1, e2]
    have h0' : (1024 : Int) < (p.size : Int) := by omega
    go_enter Try.func7, Try.ntmps7
    go_wp2
    go_ret2
    exact ⟨none, 0, rfl, .inl rfl, hW⟩
  · have e1 : pkL x p = eb (un x) 8 ++ nm p := if_neg h0
    have e2 : pkE p = 0 := if_neg h0
    rw [e1, e2]
    have h0' : ¬ (1024 : Int) < (p.size : Int) := by omega
    have h0b : (p.size : Int) ≤ 1024 := by omega
    have ew : IntKind.u64.wrap x = ((un x : Nat) : Int) := by rw [IntKind.wrap_u64]; unfold un; omega
    have hN : un x < 18446744073709551616 := un_lt x
    generalize un x = N at *
    obtain ⟨i0, hi, hz0, hz1, hz2⟩ := info_parts info5
    have hsz : (w.alloc (.cells #[.int .i64 x, .string p] 23)).heap.size = w.heap.size + 1 := by simp
    have r2 := run_make (P := Try.prog) (w.alloc (.cells #[.int .i64 x, .string p] 23)) 24 5 i0 _ Try.underlying24 hi hz0 .i64 .i64 8 (8 + (p.size : Int)) (by omega) (by omega) (by rw [hz2]; omega) (by omega)
    have o2 : ((w.alloc (.cells #[.int .i64 x, .string p] 23)).alloc (.cells (madeCells (Value.int IntKind.u8 0).cells ((8 + (p.size : Int)).toNat * i0.size)) 5)).ownsRow (w.heap.size + 1) 5 1 (.slice (some ⟨w.heap.size + 1, 0, none⟩) 8 (8 + p.size)) 8 (bc (eb N 0)) := by
      have e : (madeCells (Value.int IntKind.u8 0).cells ((8 + (p.size : Int)).toNat * i0.size)) = (List.replicate (8 + p.size) (Value.int .u8 0)).toArray := by
        rw [hz1, Nat.mul_one, show (8 + (p.size : Int)).toNat = 8 + p.size by omega]
        have := toList_madeCells_one (.int .u8 0) (8 + p.size)
        rw [← this]
        simp
        rfl
      rw [e]
      refine ⟨by simp [bc, eb_len], .inr ⟨w.heap.size + 1, 8 + p.size, (List.replicate (8 + p.size) (Value.int .u8 0)).toArray, rfl, Nat.le_refl _, ?_, by omega, by unfold maxLen; omega, by simp, ?_⟩⟩
      · rw [← hsz]
        exact heap_alloc_new _ _
      · rw [eb_zero, List.toList_toArray, List.take_replicate, show min (8 * 1) (8 + p.size) = 8 by omega]
        rfl
    obtain ⟨w2, hw2⟩ : ∃ w2, w2 = ((w.alloc (.cells #[.int .i64 x, .string p] 23)).alloc (.cells (madeCells (Value.int IntKind.u8 0).cells ((8 + (p.size : Int)).toNat * i0.size)) 5)) := ⟨_, rfl⟩
    rw [← hw2] at r2 o2
    have hb2 : Below (w.heap.size + 1) (w.alloc (.cells #[.int .i64 x, .string p] 23)) w2 := by
      rw [hw2]
      exact (Below.refl _ _).alloc (by simp) _
    have r2' : (Instr.makeSlice 24 (.int .i64 8) (.int .i64 (8 + (p.size : Int)))).run Try.prog (w.alloc (.cells #[.int .i64 x, .string p] 23)) = .ok (.slice (some ⟨w.heap.size + 1, 0, none⟩) 8 (8 + p.size)) w2 := by
      rw [hsz, show (8 + (p.size : Int)).toNat = 8 + p.size by omega] at r2
      exact r2
    have HK : Hid (∀ W, Below (w.heap.size + 1) (w.alloc (.cells #[.int .i64 x, .string p] 23)) W → W.cell? ⟨w.heap.size, 0, none⟩ = some (.int .i64 x) ∧ W.cell? ⟨w.heap.size, 1, none⟩ = some (.string p)) := fun W hb => by
      have hB := (hb.block w.heap.size (by omega)).trans (heap_alloc_new w _)
      exact ⟨by rw [cell_of_row W _ 0 _ 23 (0, 0) hB]; rfl, by rw [cell_of_row W _ 1 _ 23 (0, 0) hB]; rfl⟩
    have HO : Hid _ := o2
    obtain ⟨k0, k1⟩ := HK.out w2 hb2
    have HS : Hid (∀ i, i < 8 → (eb N i).set (7 - i) ((N / 256 ^ i % 256 : Nat) : Int) = eb N (i + 1)) := eb_set N
    have HL : Hid (∀ i, (eb N i).length = 8) := eb_len N
    clear r2 o2 hi hz0 hz1 hz2 hsz hw2
    generalize hC : 8 + p.size = C at *
    have HC : Hid (8 + p.size = C) := hC
    clear hC
    go_enter Try.func7, Try.ntmps7
    go_wp2
    go_loopw [5, 6] (fun nv iv w' => ∃ k M : Nat, iv = .int .i64 (7 - (k : Int)) ∧ k ≤ 8 ∧ nv = .int .u64 (M : Int) ∧ M < 18446744073709551616 ∧ Hid (M = N / 256 ^ k) ∧
      Hid (w'.ownsRow (w.heap.size + 1) 5 1 (.slice (some ⟨w.heap.size + 1, 0, none⟩) 8 C) 8 (bc (eb N k))) ∧ Below (w.heap.size + 1) (w.alloc (.cells #[.int .i64 x, .string p] 23)) w') (fun _ iv _ => (RowKit.intOf iv + 1).toNat)
    case atStart => exact ⟨0, N, rfl, by omega, rfl, hN, (by simp : _ = _), HO, hb2⟩
    case round =>
      obtain ⟨k, M, rfl, hk, rfl, hM, hMe, ho, hbw⟩ := hrel
      by_cases hlt : k < 8
      · obtain ⟨K, hK⟩ : ∃ K, 7 - k = K := ⟨_, rfl⟩
        have hKi : (7 : Int) - (k : Int) = (K : Int) := by omega
        have hK8 : K < 8 := by omega
        have hK8i : (K : Int) < 8 := by omega
        have hc : ∃ old, wr.cell? ⟨w.heap.size + 1, K, none⟩ = some (.int .u8 old) := by
          refine ⟨(eb N k).getD K 0, ?_⟩
          rw [ho.out.cellAt K (by omega)]
          simp [bc, List.getD, List.getElem?_eq_getElem (show K < (eb N k).length by rw [eb_len]; exact hK8)]
        obtain ⟨old, hc⟩ := hc
        have hf : wr.frozen? ⟨w.heap.size + 1, K, none⟩ = false := ho.out.frozenAt K
        obtain ⟨s1, s2⟩ := ho.out.stored K (.int .u8 ((M : Int) % 256))
        have HS1 : Hid ((wr.setCell ⟨w.heap.size + 1, K, none⟩ (.int .u8 ((M : Int) % 256))).ownsRow (w.heap.size + 1) 5 1 (.slice (some ⟨w.heap.size + 1, 0, none⟩) 8 C) 8 (bc (eb N (k + 1)))) := by
          have h1 : (bc (eb N k)).set K (.int .u8 ((M : Int) % 256)) = bc (eb N (k + 1)) := by
            have h2 := HS.out k hlt
            rw [← hMe.out, Int.natCast_emod, hK] at h2
            rw [← h2]
            simp [bc, List.map_set]
          rw [h1] at s1
          exact s1
        have hb6 : Below (w.heap.size + 1) (w.alloc (.cells #[.int .i64 x, .string p] 23)) (wr.setCell ⟨w.heap.size + 1, K, none⟩ (.int .u8 ((M : Int) % 256))) := hbw.setCell (p := ⟨w.heap.size + 1, K, none⟩) (Nat.le_refl _) _
        have HM1 : Hid (M / 256 = N / 256 ^ (k + 1)) := by
          show _ = _
          rw [hMe.out, Nat.pow_succ, Nat.div_div_eq_div_mul]
        have hkm : Hid (K = 7 - k) := hK.symm
        clear s1 s2 hK ho
        go_wp2
        exact ⟨⟨k + 1, M / 256, by have := hkm.out; congr 1; omega, by omega, by rw [Int.natCast_ediv]; rfl, by omega, HM1, HS1, hb6⟩, by simp [RowKit.intOf]; omega⟩
      · have hki : ¬ (0 : Int) ≤ 7 - (k : Int) := by omega
        obtain rfl : k = 8 := by omega
        have HO8 : Hid (wr.ownsRow (w.heap.size + 1) 5 1 (.slice (some ⟨w.heap.size + 1, 0, none⟩) (8 + 0) C) (8 + 0) (bc (eb N 8 ++ (nm p).take 0))) := by
          rw [List.take_zero, List.append_nil]
          exact ho
        have hb8 := hbw
        have HN : Hid (∀ k (h : k < p.size), (nm p).take (k + 1) = (nm p).take k ++ [((p[k].toNat : Nat) : Int)]) := nm_take p
        clear hM hMe ho hbw hN ew
        go_wp2
        go_loopw [4, 7] (fun gv iv w' => ∃ k : Nat, iv = .int .i64 (k : Int) ∧ k ≤ p.size ∧ gv = .slice (some ⟨w.heap.size + 1, 0, none⟩) (8 + k) C ∧
          Hid (w'.ownsRow (w.heap.size + 1) 5 1 (.slice (some ⟨w.heap.size + 1, 0, none⟩) (8 + k) C) (8 + k) (bc (eb N 8 ++ (nm p).take k))) ∧ Below (w.heap.size + 1) (w.alloc (.cells #[.int .i64 x, .string p] 23)) w') (fun _ iv _ => p.size - (RowKit.intOf iv).toNat)
        case atStart => exact ⟨0, rfl, Nat.zero_le _, rfl, HO8, hb8⟩
        case round =>
          clear HO8 hb8
          obtain ⟨k, rfl, hk, rfl, ho, hbw⟩ := hrel
          obtain ⟨k2, k3⟩ := HK.out wr hbw
          by_cases hlt : k < p.size
          · have hki : (k : Int) < p.size := by omega
            have hT := HN.out k hlt
            obtain ⟨w5, r5, o5, b5⟩ := append_room wr (w.heap.size + 1) (w.heap.size + 1) (8 + k) C (eb N 8 ++ (nm p).take k) ((p[k].toNat : Nat) : Int) (Nat.le_trans (by simp) hbw.size) (by have := HC.out; omega) ho.out
            have HO5 : Hid (w5.ownsRow (w.heap.size + 1) 5 1 (.slice (some ⟨w.heap.size + 1, 0, none⟩) (8 + (k + 1)) C) (8 + (k + 1)) (bc (eb N 8 ++ (nm p).take (k + 1)))) := by
              rw [List.append_assoc, ← hT] at o5
              exact o5
            have hb5 := hbw.trans b5
            clear o5 b5 hT ho
            go_wp2_with (at_builtin; refine wpList_append_run rfl (.tmp 39) (.tmp 44) 24 24 rfl _ _ rfl rfl r5 ?_)
            exact ⟨⟨k + 1, by go_num, by omega, rfl, HO5, hb5⟩, by simp [RowKit.intOf]; omega⟩
          · have hki : ¬ (k : Int) < p.size := by omega
            have hks : k = p.size := by omega
            have hl : (eb N 8 ++ nm p).length = 8 + k := by rw [List.length_append, eb_len, nm_len, hks]
            have hIm := im_owns ho.out
            rw [List.take_of_length_le (by rw [nm_len]; omega)] at hIm
            rw [List.length_append] at hl
            have HLl : Hid _ := hl
            clear hl hks
            go_wp2
            go_ret2
            exact ⟨some ⟨w.heap.size + 1, 0, none⟩, ⟨C, by rw [HLl.out]; rfl⟩, hIm, hW.trans (hbw.mono (Nat.le_succ _))⟩
end Go.Proofs.Ytljnllenpdkccaa
