/- The walk of the law's own digits. -/
import Derived.Test.YtdnbkgbgpfmipabDoorChunkQ
import Derived.Test.YtdnbkgbgpfmipabDoorWq
import Derived.Laws.OwnMore
namespace Go.Proofs.YtdnbkgbgpfmipabDoor
open Go.RowKit Go.Lib

/-- A digit's letter, great or small by what stands ahead of it. -/
def dch (d m : Int) : Int := if 9 < d then (if m % 2 = 1 then 55 + d else 87 + d) else 48 + d
/-- A number in so many digits of a base. -/
def dgs (b : Int) : Nat → Int → List Int
  | 0, _ => []
  | k + 1, n => dgs b k (n / b) ++ [dch (n % b) (n / b)]
theorem dgs_len (b : Int) : ∀ k n, (dgs b k n).length = k
  | 0, _ => rfl
  | k + 1, n => by simp [dgs, dgs_len b k]
theorem dg_dch (d m : Int) (h0 : 0 ≤ d) (h1 : d < 16) : dg (dch d m) = d := by
  unfold dch dg
  split
  · split
    · rw [if_neg (by omega), if_neg (by omega), if_pos (by omega)]; omega
    · rw [if_neg (by omega), if_pos (by omega)]; omega
  · rw [if_pos (by omega)]; omega
theorem dch_bd (d m : Int) (h0 : 0 ≤ d) (h1 : d < 16) : 48 ≤ dch d m ∧ dch d m ≤ 57 ∨ 65 ≤ dch d m ∧ dch d m ≤ 70 ∨ 97 ≤ dch d m ∧ dch d m ≤ 102 := by
  unfold dch
  split
  · split <;> omega
  · omega
theorem dgs_all (b : Int) (hb : b = 8 ∨ b = 16) : ∀ k n, 0 ≤ n → ∀ d ∈ dgs b k n, dg d < b ∧ (48 ≤ d ∧ d ≤ 57 ∨ 65 ≤ d ∧ d ≤ 70 ∨ 97 ≤ d ∧ d ≤ 102)
  | 0, _, _, _, h => by cases h
  | k + 1, n, h0, d, h => by
    rw [dgs, List.mem_append, List.mem_singleton] at h
    have hm : 0 ≤ n % b ∧ n % b < b := by rcases hb with rfl | rfl <;> omega
    rcases h with h | rfl
    · exact dgs_all b hb k (n / b) (by rcases hb with rfl | rfl <;> omega) d h
    · exact ⟨by rw [dg_dch _ _ hm.1 (by omega)]; exact hm.2, dch_bd _ _ hm.1 (by omega)⟩
theorem dgs_fold (b : Int) (hb : b = 8 ∨ b = 16) : ∀ k n, 0 ≤ n → n < b ^ k → (dgs b k n).foldl (fun a d => a * b + dg d) 0 = n
  | 0, n, h0, h1 => by
    have e : b ^ 0 = 1 := Int.pow_zero b
    rw [e] at h1
    show (0 : Int) = n
    omega
  | k + 1, n, h0, h1 => by
    have hm : 0 ≤ n % b ∧ n % b < b := by rcases hb with rfl | rfl <;> omega
    have hd : n / b < b ^ k := Int.ediv_lt_of_lt_mul (by omega) (by rw [← Int.pow_succ]; exact h1)
    rw [dgs, List.foldl_append, dgs_fold b hb k (n / b) (by rcases hb with rfl | rfl <;> omega) hd]
    show n / b * b + dg (dch (n % b) (n / b)) = n
    rw [dg_dch _ _ hm.1 (by omega)]
    rcases hb with rfl | rfl <;> omega

abbrev hexA : ByteArray := ⟨#[48, 49, 50, 51, 52, 53, 54, 55, 56, 57, 97, 98, 99, 100, 101, 102, 65, 66, 67, 68, 69, 70]⟩
theorem hexA_fin : ∀ x : Fin 22, ((hexA[x.val]'x.isLt).toNat : Int) = if (x.val : Int) < 10 then 48 + (x.val : Int) else if (x.val : Int) < 16 then 87 + (x.val : Int) else 49 + (x.val : Int) := by decide +kernel
theorem hexA_at (n : Int) (h0 : 0 ≤ n) (h : n.toNat < 22) : ((hexA[n.toNat]'h).toNat : Int) = if n < 10 then 48 + n else if n < 16 then 87 + n else 49 + n := by
  have := hexA_fin ⟨n.toNat, h⟩
  simp only [Int.toNat_of_nonneg h0] at this
  exact this

theorem set_mid (m : Nat) (tl : List Value) (z c : Value) : (List.replicate (m + 1) z ++ tl).set m c = List.replicate m z ++ c :: tl := by
  rw [List.replicate_succ', List.append_assoc, List.set_append_right _ _ (by simp)]
  simp

theorem dig_next {w wr : World} {g k m : Nat} {b x c : Int} {tl D : List Int} (hg : w.heap.size ≤ g) (hc : c = dch (x % b) (x / b)) (hmk : m + 1 ≤ k) (hq0 : 0 ≤ x / b) (hq1 : x / b ≤ 4294967295) (hd : Hid (dgs b (m + 1) x ++ tl = D))
    (ho : Hid (wr.ownsRow w.heap.size 5 1 (.slice (some ⟨g, 0, none⟩) k k) k (bc (List.replicate (m + 1) 0 ++ tl)))) (hbw : Below w.heap.size w wr) :
    (∃ (m' : Nat) (x' i : Int) (tl' : List Int), Value.int .i64 (x / b) = .int .i64 x' ∧ Value.int .i64 ((m : Int) - 1) = .int .i64 i ∧ i = (m' : Int) - 1 ∧ 0 ≤ x' ∧ x' ≤ 4294967295 ∧ m' ≤ k ∧ Hid (dgs b m' x' ++ tl' = D) ∧ Hid ((wr.setCell ⟨g, m, none⟩ (.int .u8 c)).ownsRow w.heap.size 5 1 (.slice (some ⟨g, 0, none⟩) k k) k (bc (List.replicate m' 0 ++ tl'))) ∧ Below w.heap.size w (wr.setCell ⟨g, m, none⟩ (.int .u8 c))) ∧
      (RowKit.intOf (.int .i64 ((m : Int) - 1)) + 1).toNat < (RowKit.intOf (.int .i64 (m : Int)) + 1).toNat := by
  refine ⟨⟨m, x / b, _, c :: tl, rfl, rfl, rfl, hq0, hq1, by omega, ?_, ?_, hbw.setCell (p := ⟨g, m, none⟩) hg _⟩, by simp [RowKit.intOf]⟩
  · show _ = _
    rw [← hd.out, dgs, hc]
    simp
  · have := (ho.out.stored m (.int .u8 c)).1
    show World.ownsRow _ _ _ _ _ _ _
    have e : (bc (List.replicate (m + 1) 0 ++ tl)).set m (.int .u8 c) = bc (List.replicate m 0 ++ c :: tl) := by
      have := set_mid m (bc tl) (.int .u8 0) (.int .u8 c)
      simpa [bc] using this
    rw [e] at this
    exact this

set_option maxHeartbeats 4000000 in
set_option maxRecDepth 100000 in
theorem digits_any (n b : Int) (k : Nat) (w : World) (hb : b = 8 ∨ b = 16) (hk : k ≤ 8) (h0 : 0 ≤ n) (h1 : n ≤ 4294967295) :
    Calls Tryd.prog 35 #[.int .i64 n, .int .i64 b, .int .i64 k] w fun e w' => e = .returned (.string (strOfNums (dgs b k n))) ∧ Below w.heap.size w w' := by
  obtain ⟨i0, hi, hz0, hz1, hz2⟩ := info_parts info5
  obtain ⟨w1, hm, om, gm⟩ := run_make_full (P := Tryd.prog) w w.heap.size 29 5 i0 _ 1 Tryd.underlying29 hi hz0 hz1 .i64 .i64 k (by rw [hz2]; omega) (by unfold maxLen; omega) (Nat.le_refl _)
  have ez : (madeCells (Value.int IntKind.u8 0).cells (k * 1)).toList = bc (List.replicate k 0) := by
    rw [Nat.mul_one]
    have := toList_madeCells_one (.int .u8 0) k
    simp only [bc, List.map_replicate]
    exact this
  rw [ez] at om
  have hb1 : Below w.heap.size w w1 := (Below.refl _ w).grown gm (Nat.le_refl _) (fun k hk => by cases hk)
  generalize hD : dgs b k n = D at *
  have HD : Hid (dgs b k n = D) := hD
  have HO : Hid (w1.ownsRow w.heap.size 5 1 (.slice (some ⟨w.heap.size, 0, none⟩) k k) k (bc (List.replicate k 0))) := om
  have hkb : (k : Int) ≤ 8 := by omega
  clear hD om ez gm
  go_enter Tryd.func35, Tryd.ntmps35
  go_wp2
  go_loopw [0, 8] (fun t u w' => ∃ (m : Nat) (x i : Int) (tl : List Int), t = .int .i64 x ∧ u = .int .i64 i ∧ i = (m : Int) - 1 ∧ 0 ≤ x ∧ x ≤ 4294967295 ∧ m ≤ k ∧ Hid (dgs b m x ++ tl = D) ∧ Hid (w'.ownsRow w.heap.size 5 1 (.slice (some ⟨w.heap.size, 0, none⟩) k k) k (bc (List.replicate m 0 ++ tl))) ∧ Below w.heap.size w w') (fun _ u _ => (RowKit.intOf u + 1).toNat)
  case atStart => exact ⟨k, n, _, [], rfl, rfl, rfl, h0, h1, Nat.le_refl _, by show _ = _; rw [List.append_nil]; exact HD.out, by show World.ownsRow _ _ _ _ _ _ _; rw [List.append_nil]; exact HO.out, hb1⟩
  case round =>
    obtain ⟨m, x, i, tl, rfl, rfl, hii, hx0, hx1, hmk, hd, ho, hbw⟩ := hrel
    cases m with
    | zero =>
      have ol := ho.out
      have hl : tl.length = k := by have := ol.1; simpa [bc] using this
      have ed : tl = D := by have := hd.out; simpa [dgs] using this
      have hcv := conv_owned wr w.heap.size (.slice (some ⟨w.heap.size, 0, none⟩) k k) tl (by rw [hl]; simpa using ol)
      rw [ed] at hcv
      obtain rfl : i = -1 := by omega
      clear ol hl ed hii
      go_wp2
      go_ret
      exact ⟨rfl, hbw⟩
    | succ m =>
      obtain rfl : i = (m : Int) := by omega
      have ol := ho.out
      have hc : wr.cell? ⟨w.heap.size, m, none⟩ = some (.int .u8 0) := by
        have := ol.cells rfl m (.int .u8 0) (by simp [bc, List.getElem?_append_left])
        rw [Go.WideShapes.add_plain, Nat.zero_add] at this
        exact this
      have hf : wr.frozen? ⟨w.heap.size, m, none⟩ = false := ol.frozenAt m
      have hmk' : (m : Int) < k := by omega
      clear ol hii
      have hq : 0 ≤ x / b ∧ x / b ≤ x := by rcases hb with rfl | rfl <;> omega
      have hr : 0 ≤ x % b ∧ x % b < b := by rcases hb with rfl | rfl <;> omega
      have hq0 := hq.1
      have hr0 := hr.1
      have hr1 : x % b < 16 := by omega
      by_cases h9 : 9 < x % b
      · by_cases h2 : x / b % 2 = 1
        · have i1 := hexA_at (x % b + 6) (by omega) (by omega)
          rw [if_neg (by omega), if_neg (by omega)] at i1
          have hc0 : 49 + (x % b + 6) = dch (x % b) (x / b) := by unfold dch; rw [if_pos h9, if_pos h2]; omega
          go_wp2
          exact dig_next (Nat.le_refl _) rfl hmk hq0 (by omega) hd ho hbw
        · have i1 := hexA_at (x % b) hr0 (by omega)
          rw [if_neg (by omega), if_pos (by omega)] at i1
          have hc0 : 87 + x % b = dch (x % b) (x / b) := by unfold dch; rw [if_pos h9, if_neg h2]
          have h2' : (x / b % 2 == 1) = false := by rw [beq_eq_false_iff_ne]; exact h2
          go_wp2
          exact dig_next (Nat.le_refl _) rfl hmk hq0 (by omega) hd ho hbw
      · have i1 := hexA_at (x % b) hr0 (by omega)
        rw [if_pos (by omega)] at i1
        have hc0 : 48 + x % b = dch (x % b) (x / b) := by unfold dch; rw [if_neg h9]
        go_wp2
        exact dig_next (Nat.le_refl _) rfl hmk hq0 (by omega) hd ho hbw
end Go.Proofs.YtdnbkgbgpfmipabDoor
