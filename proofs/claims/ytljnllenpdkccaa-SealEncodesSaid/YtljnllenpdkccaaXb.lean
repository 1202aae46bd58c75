/- The program's expiryBytes and expiryOf. -/
import Derived.Test.YtljnllenpdkccaaXm
namespace Go.Proofs.Ytljnllenpdkccaa
open Go.RowKit

/-- An array of eight bytes in memory. -/
def Ar (w : World) (G : Nat) (xs : List Int) : Prop := w.heap[G]? = some (.cells (bc xs).toArray 43)
theorem Ar.cell {w : World} {G : Nat} {xs : List Int} (h : Ar w G xs) (j : Nat) (hj : j < xs.length) : w.cell? ⟨G, j, none⟩ = some (.int .u8 (xs.getD j 0)) := by
  rw [cell_of_row w G j _ 43 (0, 0) h]
  simp [bc, List.getD, hj]
theorem Ar.froz {w : World} {G : Nat} {xs : List Int} (h : Ar w G xs) (j : Nat) : w.frozen? ⟨G, j, none⟩ = false := frozen_of_row w G j _ 43 h
theorem Ar.set {w : World} {G : Nat} {xs : List Int} (h : Ar w G xs) (j : Nat) (x : Int) : Ar (w.setCell ⟨G, j, none⟩ (.int .u8 x)) G (xs.set j x) := by
  unfold Ar
  rw [heap_setCell_same w G j _ 43 _ h]
  congr 2
  rw [List.setIfInBounds_toArray]
  simp [bc]
theorem Ar.other {w : World} {G : Nat} {xs : List Int} (h : Ar w G xs) (K j : Nat) (hK : K ≠ G) (v : Value) : Ar (w.setCell ⟨K, j, none⟩ v) G xs := by
  unfold Ar
  rw [heap_setCell_other _ _ _ _ (by simpa using fun e => hK e.symm)]
  exact h
theorem Ar.lt {w : World} {G : Nat} {xs : List Int} (h : Ar w G xs) : G < w.heap.size := (Array.getElem?_eq_some_iff.1 h).1

set_option maxHeartbeats 2000000 in
set_option maxRecDepth 100000 in
theorem expiryBytes_any (x : Int) (w : World) :
    Calls Try.prog 15 #[.int .i64 x] w fun r w' => ∃ y0 y1 y2 y3 y4 y5 y6 y7, eb (un x) 8 = [y0, y1, y2, y3, y4, y5, y6, y7] ∧
      r = .returned (.agg #[.int .u8 y0, .int .u8 y1, .int .u8 y2, .int .u8 y3, .int .u8 y4, .int .u8 y5, .int .u8 y6, .int .u8 y7]) ∧ Below w.heap.size w w' := by
  have ew : IntKind.u64.wrap x = ((un x : Nat) : Int) := by rw [IntKind.wrap_u64]; unfold un; omega
  have hN : un x < 18446744073709551616 := un_lt x
  obtain ⟨y0, y1, y2, y3, y4, y5, y6, y7, hy⟩ := eight (eb (un x) 8) (eb_len _ _)
  have HY : Hid (eb (un x) 8 = [y0, y1, y2, y3, y4, y5, y6, y7]) := hy
  clear hy
  generalize un x = N at *
  have HL : Hid (∀ i, (eb N i).length = 8) := eb_len N
  have HS : Hid (∀ i, i < 8 → (eb N i).set (7 - i) ((N / 256 ^ i % 256 : Nat) : Int) = eb N (i + 1)) := eb_set N
  have HZ : Hid (eb N 0 = [0, 0, 0, 0, 0, 0, 0, 0]) := eb_zero N
  have hb0 : Below w.heap.size w ((w.alloc (.cells #[.int .u8 0, .int .u8 0, .int .u8 0, .int .u8 0, .int .u8 0, .int .u8 0, .int .u8 0, .int .u8 0] 43)).alloc (.cells #[.int .u8 0, .int .u8 0, .int .u8 0, .int .u8 0, .int .u8 0, .int .u8 0, .int .u8 0, .int .u8 0] 43)) :=
    ((Below.refl _ _).alloc (Nat.le_refl _) _).alloc (by simp) _
  have A0 : Hid (Ar ((w.alloc (.cells #[.int .u8 0, .int .u8 0, .int .u8 0, .int .u8 0, .int .u8 0, .int .u8 0, .int .u8 0, .int .u8 0] 43)).alloc (.cells #[.int .u8 0, .int .u8 0, .int .u8 0, .int .u8 0, .int .u8 0, .int .u8 0, .int .u8 0, .int .u8 0] 43)) w.heap.size [0, 0, 0, 0, 0, 0, 0, 0]) := by
    show _ = _
    rw [heap_alloc_old _ _ (by simp)]
    exact heap_alloc_new w _
  have A1 : Hid (Ar ((w.alloc (.cells #[.int .u8 0, .int .u8 0, .int .u8 0, .int .u8 0, .int .u8 0, .int .u8 0, .int .u8 0, .int .u8 0] 43)).alloc (.cells #[.int .u8 0, .int .u8 0, .int .u8 0, .int .u8 0, .int .u8 0, .int .u8 0, .int .u8 0, .int .u8 0] 43)) (w.heap.size + 1) (eb N 0)) := by
    rw [HZ.out]
    have := heap_alloc_new (w.alloc (.cells #[.int .u8 0, .int .u8 0, .int .u8 0, .int .u8 0, .int .u8 0, .int .u8 0, .int .u8 0, .int .u8 0] 43)) (.cells #[.int .u8 0, .int .u8 0, .int .u8 0, .int .u8 0, .int .u8 0, .int .u8 0, .int .u8 0, .int .u8 0] 43)
    rw [show (w.alloc (.cells #[.int .u8 0, .int .u8 0, .int .u8 0, .int .u8 0, .int .u8 0, .int .u8 0, .int .u8 0, .int .u8 0] 43)).heap.size = w.heap.size + 1 by simp] at this
    exact this
  go_enter Try.func15, Try.ntmps15
  go_wp2
  go_loopw [4, 8] (fun nv iv w' => ∃ i M : Nat, iv = .int .i64 (i : Int) ∧ i ≤ 8 ∧ nv = .int .u64 (M : Int) ∧ M < 18446744073709551616 ∧ Hid (M = N / 256 ^ i) ∧ Hid (Ar w' w.heap.size [0, 0, 0, 0, 0, 0, 0, 0]) ∧ Hid (Ar w' (w.heap.size + 1) (eb N i)) ∧ Below w.heap.size w w') (fun _ iv _ => 8 - (RowKit.intOf iv).toNat)
  case atStart => exact ⟨0, N, rfl, by omega, rfl, hN, (by simp : _ = _), A0, A1, hb0⟩
  case round =>
    obtain ⟨i, M, rfl, hi, rfl, hM, hMe, a0, a1, hbw⟩ := hrel
    by_cases hlt : i < 8
    · have hii : (i : Int) < 8 := by omega
      have hc := a1.out.cell (7 - i) (by rw [HL.out]; omega)
      have hf := a1.out.froz (7 - i)
      have HS1 : Hid (Ar (wr.setCell ⟨w.heap.size + 1, 7 - i, none⟩ (.int .u8 ((M : Int) % 256))) (w.heap.size + 1) (eb N (i + 1))) := by
        have h1 := a1.out.set (7 - i) ((M : Int) % 256)
        have h2 := HS.out i hlt
        rw [← hMe.out, Int.natCast_emod] at h2
        rw [show ((256 : Nat) : Int) = 256 from rfl] at h2
        rw [h2] at h1
        exact h1
      have HS0 : Hid (Ar (wr.setCell ⟨w.heap.size + 1, 7 - i, none⟩ (.int .u8 ((M : Int) % 256))) w.heap.size [0, 0, 0, 0, 0, 0, 0, 0]) := a0.out.other _ _ (by omega) _
      have hb6 : Below w.heap.size w (wr.setCell ⟨w.heap.size + 1, 7 - i, none⟩ (.int .u8 ((M : Int) % 256))) := hbw.setCell (p := ⟨w.heap.size + 1, 7 - i, none⟩) (Nat.le_succ _) _
      have HM1 : Hid (M / 256 = N / 256 ^ (i + 1)) := by
        show _ = _
        rw [hMe.out, Nat.pow_succ, Nat.div_div_eq_div_mul]
      generalize (eb N i).getD (7 - i) 0 = old at *
      obtain ⟨K, hK⟩ : ∃ K, 7 - i = K := ⟨_, rfl⟩
      rw [hK] at hc hf HS1 HS0 hb6
      have hKi : (7 : Int) - (i : Int) = (K : Int) := by omega
      have hK8 : K < 8 := by omega
      clear a0 a1 hK
      go_wp2
      exact ⟨⟨i + 1, M / 256, by go_num, by omega, by rw [Int.natCast_ediv]; rfl, by omega, HM1, HS0, HS1, hb6⟩, by simp [RowKit.intOf]; omega⟩
    · have hii : ¬ (i : Int) < 8 := by omega
      obtain rfl : i = 8 := by omega
      have h1 := a1.out
      rw [HY.out] at h1
      have c0 := h1.cell 0 (by simp)
      have c1 := h1.cell 1 (by simp)
      have c2 := h1.cell 2 (by simp)
      have c3 := h1.cell 3 (by simp)
      have c4 := h1.cell 4 (by simp)
      have c5 := h1.cell 5 (by simp)
      have c6 := h1.cell 6 (by simp)
      have c7 := h1.cell 7 (by simp)
      have d0 := a0.out.cell 0 (by simp)
      have d1 := a0.out.cell 1 (by simp)
      have d2 := a0.out.cell 2 (by simp)
      have d3 := a0.out.cell 3 (by simp)
      have d4 := a0.out.cell 4 (by simp)
      have d5 := a0.out.cell 5 (by simp)
      have d6 := a0.out.cell 6 (by simp)
      have d7 := a0.out.cell 7 (by simp)
      have f0 := a0.out.froz
      simp only [List.getD, List.getElem?_cons_zero, List.getElem?_cons_succ, Option.getD_some] at c0 c1 c2 c3 c4 c5 c6 c7 d0 d1 d2 d3 d4 d5 d6 d7
      clear h1 a0 a1
      go_wp2
      refine bodyPost_ret (v := .agg #[.int .u8 y0, .int .u8 y1, .int .u8 y2, .int .u8 y3, .int .u8 y4, .int .u8 y5, .int .u8 y6, .int .u8 y7]) (by simp [results, Try.results15, go_sem, d0, d1, d2, d3, d4, d5, d6, d7]) rfl ⟨y0, y1, y2, y3, y4, y5, y6, y7, HY.out, rfl, ?_⟩
      exact (((((((hbw.setCell (p := ⟨w.heap.size, 0, none⟩) (Nat.le_refl _) _).setCell (p := ⟨w.heap.size, 1, none⟩) (Nat.le_refl _) _).setCell (p := ⟨w.heap.size, 2, none⟩) (Nat.le_refl _) _).setCell (p := ⟨w.heap.size, 3, none⟩) (Nat.le_refl _) _).setCell (p := ⟨w.heap.size, 4, none⟩) (Nat.le_refl _) _).setCell (p := ⟨w.heap.size, 5, none⟩) (Nat.le_refl _) _).setCell (p := ⟨w.heap.size, 6, none⟩) (Nat.le_refl _) _).setCell (p := ⟨w.heap.size, 7, none⟩) (Nat.le_refl _) _

set_option maxRecDepth 100000 in
theorem idx8 (y0 y1 y2 y3 y4 y5 y6 y7 : Int) (i : Nat) (hi : i < 8) (w : World) :
    (Instr.index 43 (.agg #[.int .u8 y0, .int .u8 y1, .int .u8 y2, .int .u8 y3, .int .u8 y4, .int .u8 y5, .int .u8 y6, .int .u8 y7]) (.int .i64 (i : Int))).run Try.prog w = .ok (.int .u8 (([y0, y1, y2, y3, y4, y5, y6, y7] : List Int).getD i 0)) w := by
  have hz := Try.sizeOf5
  have ha := Try.isAgg5
  rcases (show i = 0 ∨ i = 1 ∨ i = 2 ∨ i = 3 ∨ i = 4 ∨ i = 5 ∨ i = 6 ∨ i = 7 by omega) with rfl | rfl | rfl | rfl | rfl | rfl | rfl | rfl
  all_goals simp [Instr.index, run_underlying Try.underlying43, asIntOf, hz, part, ha, go_sem]

set_option maxHeartbeats 2000000 in
set_option maxRecDepth 100000 in
theorem expiryOf_any (y0 y1 y2 y3 y4 y5 y6 y7 : Int) (xs : List Int) (w : World) (hs : Small 8 xs) (hl : 8 ≤ xs.length) (hx : xs.take 8 = [y0, y1, y2, y3, y4, y5, y6, y7]) :
    Calls Try.prog 17 #[.agg #[.int .u8 y0, .int .u8 y1, .int .u8 y2, .int .u8 y3, .int .u8 y4, .int .u8 y5, .int .u8 y6, .int .u8 y7]] w fun r w' => r = .returned (.int .i64 (sg (ev xs))) ∧ Below w.heap.size w w' := by
  have HG : Hid (∀ i, i < 8 → ([y0, y1, y2, y3, y4, y5, y6, y7] : List Int).getD i 0 = xs.getD i 0) := fun i hi => by
    rw [← hx, List.getD, List.getD, List.getElem?_take_of_lt hi]
  have HE : Hid (∀ i, i < 8 → ((bv (bt 8 xs) 0 (8 * (i + 1)) : Nat) : Int) = (bv (bt 8 xs) 0 (8 * i) : Nat) * 256 + xs.getD i 0) := fun i hi => ev_step xs hs i (by omega)
  have HB : Hid (∀ i, i ≤ 7 → bv (bt 8 xs) 0 (8 * i) < 2 ^ 56) := fun i hi => bv_below _ (bt_lt 8 xs) _ _ 56 (by omega)
  have HX : Hid (∀ i, i < 8 → 0 ≤ xs.getD i 0 ∧ xs.getD i 0 < 256) := fun i hi => by
    have := hs i (by omega)
    exact ⟨this.1, by simpa using this.2⟩
  have HV : Hid (sg (ev xs) = sg (bv (bt 8 xs) 0 (8 * 8))) := rfl
  have hl64 : bv (bt 8 xs) 0 (8 * 8) < 2 ^ 64 := bv_below _ (bt_lt 8 xs) _ _ 64 (by omega)
  generalize sg (ev xs) = R at *
  generalize bt 8 xs = b at *
  clear hs hl hx
  go_enter Try.func17, Try.ntmps17
  go_wp2
  go_loop [3, 7] (fun nv iv => ∃ i M : Nat, iv = .int .i64 (i : Int) ∧ i ≤ 8 ∧ nv = .int .u64 (M : Int) ∧ Hid (M = bv b 0 (8 * i))) (fun _ iv => 8 - (RowKit.intOf iv).toNat)
  case atStart => exact ⟨0, 0, rfl, by omega, rfl, rfl⟩
  case round =>
    obtain ⟨i, M, rfl, hi, rfl, hM⟩ := hrel
    by_cases hlt : i < 8
    · have hg := HG.out i hlt
      have he := HE.out i hlt
      have hb := HB.out i (by omega)
      have hx := HX.out i hlt
      rw [← hg, ← hM.out] at he
      rw [← hM.out] at hb
      rw [← hg] at hx
      clear hg
      have key : ∀ y : Int, 0 ≤ y → y < 256 → bits BinOp.or IntKind.u64 (IntKind.u64.wrap ((M : Int) * 256)) y = (M : Int) * 256 + y := fun y h0 h1 => by
        obtain ⟨m, rfl⟩ := Int.eq_ofNat_of_zero_le h0
        have hp : (2 : Nat) ^ 56 = 72057594037927936 := by decide
        have h2 : IntKind.u64.wrap ((M : Int) * 256) = ((2 ^ 8 * M : Nat) : Int) := by
          rw [IntKind.wrap_u64]
          omega
        have hp64 : (2 : Nat) ^ 64 = 18446744073709551616 := by decide
        rw [h2, (bits_nat .u64 64 (by decide) (fun n h₀ h₁ => by rw [IntKind.wrap_u64]; omega) (2 ^ 8 * M) m (by omega) (by omega)).2, ← Nat.two_pow_add_eq_or_of_lt (show m < 2 ^ 8 by omega)]
        omega
      have hMi : (M : Int) < 72057594037927936 := by
        have hp : (2 : Nat) ^ 56 = 72057594037927936 := by decide
        omega
      have hwr : IntKind.u64.wrap ((M : Int) * 256) = (M : Int) * 256 := by rw [IntKind.wrap_u64]; omega
      rw [hwr] at key
      clear hb hwr hM hi
      obtain ⟨x0, x1⟩ := hx
      have e1 := key _ x0 x1
      have HEe : Hid (_) := he
      clear key he
      have hix := idx8 y0 y1 y2 y3 y4 y5 y6 y7 i hlt
      have hii : (i : Int) < 8 := by omega
      generalize ([y0, y1, y2, y3, y4, y5, y6, y7] : List Int).getD i 0 = x at *
      go_wp2
      exact ⟨⟨i + 1, _, by go_num, by omega, by rw [← HEe.out], rfl⟩, by simp [RowKit.intOf]; omega⟩
    · have hii : ¬ (i : Int) < 8 := by omega
      obtain rfl : i = 8 := by omega
      have hMl : M < 2 ^ 64 := by rw [hM.out]; exact hl64
      have hMi : (M : Int) < 18446744073709551616 := by
        have hp : (2 : Nat) ^ 64 = 18446744073709551616 := by decide
        omega
      have HR : Hid (R = sg M) := by rw [hM.out]; exact HV
      clear HV hM hl64 hMl
      have HW : Hid (sg M = wrap64 (M : Int)) := by
        show _ = _
        unfold sg wrap64
        split <;> omega
      go_wp2
      go_ret
      exact ⟨ret_int (by rw [HR.out, HW.out]), (Below.refl _ _).alloc (Nat.le_refl _) _⟩
end Go.Proofs.Ytljnllenpdkccaa
