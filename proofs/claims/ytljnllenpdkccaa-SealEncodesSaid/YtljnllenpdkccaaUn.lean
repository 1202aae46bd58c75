/- The program's Unpack and the reference's. -/
import Derived.Test.YtljnllenpdkccaaPt
namespace Go.Proofs.Ytljnllenpdkccaa
open Go.RowKit

/-- What Unpack answers: the expiry, the policy, the error. -/
def upE (xs : List Int) : Int := if xs.length < 8 then 53 else if 1032 < xs.length then 1 else 0
def upX (xs : List Int) : Int := if upE xs = 0 then sg (ev xs) else 0
def upS (xs : List Int) : ByteArray := if upE xs = 0 then strOfNums (xs.drop 8) else ⟨#[]⟩
theorem up_short (xs : List Int) (h : xs.length < 8) : upE xs = 53 ∧ upX xs = 0 ∧ upS xs = ⟨#[]⟩ := by
  have e : upE xs = 53 := by unfold upE; rw [if_pos h]
  unfold upX upS
  rw [e]
  exact ⟨rfl, rfl, rfl⟩
theorem up_long (xs : List Int) (h : 1032 < xs.length) : upE xs = 1 ∧ upX xs = 0 ∧ upS xs = ⟨#[]⟩ := by
  have e : upE xs = 1 := by unfold upE; rw [if_neg (by omega), if_pos h]
  unfold upX upS
  rw [e]
  exact ⟨rfl, rfl, rfl⟩
theorem up_ok (xs : List Int) (h0 : ¬ xs.length < 8) (h : ¬ 1032 < xs.length) : upE xs = 0 ∧ upX xs = sg (ev xs) ∧ upS xs = strOfNums (xs.drop 8) := by
  have e : upE xs = 0 := by unfold upE; rw [if_neg h0, if_neg h]
  unfold upX upS
  rw [e]
  exact ⟨rfl, rfl, rfl⟩

/-- The answer's own block behind a call. -/
theorem claim_kept {w w1 : World} (b : Below (w.alloc (.cells #[.int .i64 0, .string ⟨#[]⟩] 23)).heap.size (w.alloc (.cells #[.int .i64 0, .string ⟨#[]⟩] 23)) w1) :
    w1.heap[w.heap.size]? = some (.cells #[.int .i64 0, .string ⟨#[]⟩] 23) ∧ w1.cell? ⟨w.heap.size, 0, none⟩ = some (.int .i64 0) ∧ w1.cell? ⟨w.heap.size, 1, none⟩ = some (.string ⟨#[]⟩) ∧ w1.frozen? ⟨w.heap.size, 0, none⟩ = false ∧ w1.frozen? ⟨w.heap.size, 1, none⟩ = false ∧ w.heap.size < w1.heap.size := by
  have hB : w1.heap[w.heap.size]? = some (.cells #[.int .i64 0, .string ⟨#[]⟩] 23) := (b.block w.heap.size (by simp)).trans (heap_alloc_new w _)
  refine ⟨hB, ?_, ?_, frozen_of_row w1 _ 0 _ 23 hB, frozen_of_row w1 _ 1 _ 23 hB, (Array.getElem?_eq_some_iff.1 hB).1⟩
  · rw [cell_of_row w1 _ 0 _ 23 (0, 0) hB]; rfl
  · rw [cell_of_row w1 _ 1 _ 23 (0, 0) hB]; rfl

/-- What is known behind the second call. -/
theorem two_calls {w w1 w2 W2 : World} {a' : Option Addr} {n : Nat} {L : List Int} {T : ByteArray} (kc : ∀ w' a', Im w' a' L → (convert 24 9 (.slice a' n n)).run Try.prog w' = .ok (.string T) w') (hI : Im w1 a' L)
    (hbl : Below w1.heap.size w1 W2) (hW : Below w.heap.size w (w.alloc (.cells #[.int .i64 0, .string ⟨#[]⟩] 23)))
    (b1 : Below (w.alloc (.cells #[.int .i64 0, .string ⟨#[]⟩] 23)).heap.size (w.alloc (.cells #[.int .i64 0, .string ⟨#[]⟩] 23)) w1) (b2 : Below W2.heap.size W2 w2) :
    (convert 24 9 (.slice a' n n)).run Try.prog w2 = .ok (.string T) w2 ∧ w2.cell? ⟨w.heap.size, 0, none⟩ = some (.int .i64 0) ∧ w2.cell? ⟨w.heap.size, 1, none⟩ = some (.string ⟨#[]⟩) ∧ w2.frozen? ⟨w.heap.size, 0, none⟩ = false ∧ w2.frozen? ⟨w.heap.size, 1, none⟩ = false ∧ w.heap.size < w2.heap.size ∧ Below w.heap.size w w2 := by
  have h1 : Below w1.heap.size w1 w2 := hbl.trans (b2.mono hbl.size)
  have h2 := b1.trans (h1.mono b1.size)
  obtain ⟨_, q0, q1, q2, q3, q4⟩ := claim_kept h2
  exact ⟨kc _ _ (hI.below h1), q0, q1, q2, q3, q4, hW.trans (h2.mono (by simp))⟩

set_option maxHeartbeats 2000000 in
set_option maxRecDepth 100000 in
theorem unpack_any (a : Option Addr) (c : Nat) (xs : List Int) (w : World) (hI : Im w a xs) (hs : Small 8 xs) (hc : xs.length ≤ c) (hcb : c ≤ 9223372036854775807) :
    Calls Try.prog 10 #[.slice a xs.length c] w fun r w' => r = .returned (.tuple #[.agg #[.int .i64 (upX xs), .string (upS xs)], .int .i64 (upE xs)]) ∧ Below w.heap.size w w' := by
  have hni : (xs.length : Int) ≤ 9223372036854775807 := by omega
  by_cases h0 : xs.length < 8
  · obtain ⟨e1, e2, e3⟩ := up_short xs h0
    rw [e1, e2, e3]
    have h0' : (xs.length : Int) < 8 := by omega
    generalize xs.length = n at *
    go_enter Try.func10, Try.ntmps10
    go_wp2
    exact bodyPost_ret (v := .tuple #[.agg #[.int .i64 0, .string ⟨#[]⟩], .int .i64 53]) (by simp [results, Try.results10, go_sem]) rfl ⟨rfl, (Below.refl _ _).alloc (Nat.le_refl _) _⟩
  · have h0' : ¬ (xs.length : Int) < 8 := by omega
    have hW : Below w.heap.size w (w.alloc (.cells #[.int .i64 0, .string ⟨#[]⟩] 23)) := (Below.refl _ _).alloc (Nat.le_refl _) _
    have kp := parts_any a c xs (w.alloc (.cells #[.int .i64 0, .string ⟨#[]⟩] 23)) (hI.below hW) (by omega) hc hcb
    by_cases h1 : 1032 < xs.length
    · obtain ⟨e1, e2, e3⟩ := up_long xs h1
      rw [e1, e2, e3]
      have h1' : (1024 : Int) < (xs.length : Int) - 8 := by omega
      generalize xs.length = n at *
      go_enter Try.func10, Try.ntmps10
      go_wp2_with (go_at_call 16; go_fit kp; rintro x w1 ⟨y0, y1, y2, y3, y4, y5, y6, y7, a', hy, rfl, hI1, b1⟩; obtain ⟨_, q0, q1, q2, q3, q4⟩ := claim_kept b1)
      refine bodyPost_ret (v := .tuple #[.agg #[.int .i64 0, .string ⟨#[]⟩], .int .i64 1]) (by simp [results, Try.results10, go_sem, q0, q1, q4]) rfl ⟨rfl, ?_⟩
      exact (((hW.trans (b1.mono (by simp))).setCell (p := ⟨w.heap.size, 0, none⟩) (Nat.le_refl _) _).setCell (p := ⟨w.heap.size, 1, none⟩) (Nat.le_refl _) _).alloc (by simp; omega) _
    · obtain ⟨e1, e2, e3⟩ := up_ok xs h0 h1
      rw [e1, e2, e3]
      have h1' : ¬ (1024 : Int) < (xs.length : Int) - 8 := by omega
      have kx : Hid (∀ y0 y1 y2 y3 y4 y5 y6 y7 w', xs.take 8 = [y0, y1, y2, y3, y4, y5, y6, y7] → Calls Try.prog 17 #[.agg #[.int .u8 y0, .int .u8 y1, .int .u8 y2, .int .u8 y3, .int .u8 y4, .int .u8 y5, .int .u8 y6, .int .u8 y7]] w' fun r w'' => r = .returned (.int .i64 (sg (ev xs))) ∧ Below w'.heap.size w' w'') :=
        fun y0 y1 y2 y3 y4 y5 y6 y7 w' hy => expiryOf_any y0 y1 y2 y3 y4 y5 y6 y7 xs w' hs (by omega) hy
      have kc : Hid (∀ w' a', Im w' a' (xs.drop 8) → (convert 24 9 (.slice a' (xs.length - 8) (xs.length - 8))).run Try.prog w' = .ok (.string (strOfNums (xs.drop 8))) w') := fun w' a' h => by
        have := conv_im w' a' (xs.length - 8) (xs.drop 8) h
        rw [List.length_drop] at this
        exact this
      generalize sg (ev xs) = X at *
      generalize strOfNums (xs.drop 8) = T at *
      generalize hL : xs.drop 8 = L at *
      generalize xs.take 8 = M at *
      generalize xs.length = n at *
      clear hI hs e1 e2 e3 hL
      go_enter Try.func10, Try.ntmps10
      go_wp2_with (go_at_call 16; go_fit kp; rintro x w1 ⟨y0, y1, y2, y3, y4, y5, y6, y7, a', hy, rfl, hI1, b1⟩; obtain ⟨_, q0, q1, q2, q3, q4⟩ := claim_kept b1)
      have kx1 := fun w' => kx.out y0 y1 y2 y3 y4 y5 y6 y7 w' hy
      have hbl : Below w1.heap.size w1 (w1.alloc (.cells #[.int .u8 y0, .int .u8 y1, .int .u8 y2, .int .u8 y3, .int .u8 y4, .int .u8 y5, .int .u8 y6, .int .u8 y7] 43)).drew := ((Below.refl _ _).alloc (Nat.le_refl _) _).drew
      have cv1 := kc.out _ a' (hI1.below hbl)
      clear kp kx
      go_region_with (go_at_call 17; go_fit (kx1 _); rintro x w2 ⟨rfl, b2⟩; obtain ⟨cv2, p0, p1, p2, p3, p4, bb2⟩ := two_calls kc.out hI1 hbl hW b1 b2)
      all_goals
        go_wp2
        refine bodyPost_ret (v := .tuple #[.agg #[.int .i64 X, .string T], .int .i64 0]) (by simp [results, Try.results10, go_sem, p0, p1]) rfl ⟨rfl, ?_⟩
        exact (bb2.setCell (p := ⟨w.heap.size, 0, none⟩) (Nat.le_refl _) _).setCell (p := ⟨w.heap.size, 1, none⟩) (Nat.le_refl _) _

set_option maxHeartbeats 2000000 in
set_option maxRecDepth 100000 in
theorem runpack_any (a : Option Addr) (c : Nat) (xs : List Int) (w : World) (hI : Im w a xs) (hs : Small 8 xs) (hc : xs.length ≤ c) (hcb : c ≤ 9223372036854775807) :
    Calls Try.prog 9 #[.slice a xs.length c] w fun r w' => r = .returned (.tuple #[.agg #[.int .i64 (upX xs), .string (upS xs)], .int .i64 (upE xs)]) ∧ Below w.heap.size w w' := by
  have hni : (xs.length : Int) ≤ 9223372036854775807 := by omega
  have hW : Below w.heap.size w (w.alloc (.cells #[.int .i64 0, .string ⟨#[]⟩] 23)) := (Below.refl _ _).alloc (Nat.le_refl _) _
  by_cases h0 : xs.length < 8
  · obtain ⟨e1, e2, e3⟩ := up_short xs h0
    rw [e1, e2, e3]
    have h0' : (xs.length : Int) < 8 := by omega
    generalize xs.length = n at *
    go_enter Try.func9, Try.ntmps9
    go_wp2
    exact bodyPost_ret (v := .tuple #[.agg #[.int .i64 0, .string ⟨#[]⟩], .int .i64 53]) (by simp [results, Try.results9, go_sem]) rfl ⟨rfl, hW⟩
  · have h0' : ¬ (xs.length : Int) < 8 := by omega
    by_cases h1 : 1032 < xs.length
    · obtain ⟨e1, e2, e3⟩ := up_long xs h1
      rw [e1, e2, e3]
      have h1' : (1024 : Int) < (xs.length : Int) - 8 := by omega
      generalize xs.length = n at *
      go_enter Try.func9, Try.ntmps9
      go_wp2
      exact bodyPost_ret (v := .tuple #[.agg #[.int .i64 0, .string ⟨#[]⟩], .int .i64 1]) (by simp [results, Try.results9, go_sem]) rfl ⟨rfl, hW⟩
    · obtain ⟨e1, e2, e3⟩ := up_ok xs h0 h1
      rw [e1, e2, e3]
      have h1' : ¬ (1024 : Int) < (xs.length : Int) - 8 := by omega
      obtain ⟨g, o, rfl, hg, hat⟩ : ∃ g o, a = some ⟨g, o, none⟩ ∧ g < w.heap.size ∧ At w g o xs := by
        rcases hI with h1 | h1
        · rw [h1] at h0; simp at h0
        · exact h1
      have HA : Hid (∀ j, j < 8 → (w.alloc (.cells #[.int .i64 0, .string ⟨#[]⟩] 23)).cell? ⟨g, o + j, none⟩ = some (.int .u8 (xs.getD j 0))) := fun j hj => (hW.cell (p := ⟨g, o + j, none⟩) hg).trans (hat j (by omega))
      have HE : Hid (∀ i, i < 8 → ((bv (bt 8 xs) 0 (8 * (i + 1)) : Nat) : Int) = (bv (bt 8 xs) 0 (8 * i) : Nat) * 256 + xs.getD i 0) := fun i hi => ev_step xs hs i (by omega)
      have HB : Hid (∀ i, i ≤ 7 → bv (bt 8 xs) 0 (8 * i) < 2 ^ 56) := fun i hi => bv_below _ (bt_lt 8 xs) _ _ 56 (by omega)
      have HX : Hid (∀ i, i < 8 → 0 ≤ xs.getD i 0 ∧ xs.getD i 0 < 256) := fun i hi => by
        have := hs i (by omega)
        exact ⟨this.1, by simpa using this.2⟩
      have HV : Hid (sg (ev xs) = sg (bv (bt 8 xs) 0 (8 * 8))) := rfl
      have hl64 : bv (bt 8 xs) 0 (8 * 8) < 2 ^ 64 := bv_below _ (bt_lt 8 xs) _ _ 64 (by omega)
      have HC : Hid (∀ a' c', (8 < xs.length → a' = some ⟨g, o + 8, none⟩) → (convert 24 9 (.slice a' (xs.length - 8) c')).run Try.prog (w.alloc (.cells #[.int .i64 0, .string ⟨#[]⟩] 23)) = .ok (.string (strOfNums (xs.drop 8))) (w.alloc (.cells #[.int .i64 0, .string ⟨#[]⟩] 23))) := fun a' c' ha => by
        have him : Im (w.alloc (.cells #[.int .i64 0, .string ⟨#[]⟩] 23)) a' (xs.drop 8) := by
          by_cases h8 : xs.length = 8
          · exact .inl (List.drop_eq_nil_of_le (by omega))
          · right
            refine ⟨g, o + 8, ha (by omega), Nat.lt_of_lt_of_le hg hW.size, fun j hj => ?_⟩
            rw [List.length_drop] at hj
            have h1 := hat (8 + j) (by omega)
            rw [Nat.add_assoc, (hW.cell (p := ⟨g, o + (8 + j), none⟩) hg), h1]
            congr 2
            simp [List.getD]
        have := conv_im _ a' c' (xs.drop 8) him
        rw [List.length_drop] at this
        exact this
      generalize sg (ev xs) = R at *
      generalize bt 8 xs = b at *
      generalize strOfNums (xs.drop 8) = T at *
      generalize hn : xs.length = n at *
      clear hn hat hI hs e1 e2 e3
      have hc8 : (8 : Int) ≤ (c : Int) := by omega
      have hci : (n : Int) ≤ (c : Int) := by omega
      go_enter Try.func9, Try.ntmps9
      go_wp2
      go_loop [4, 5] (fun nv iv => ∃ i M : Nat, iv = .int .i64 (i : Int) ∧ i ≤ 8 ∧ nv = .int .u64 (M : Int) ∧ Hid (M = bv b 0 (8 * i))) (fun _ iv => 8 - (RowKit.intOf iv).toNat)
      case atStart => exact ⟨0, 0, rfl, by omega, rfl, rfl⟩
      case round =>
        obtain ⟨i, M, rfl, hi, rfl, hM⟩ := hrel
        by_cases hlt : i < 8
        · have hii : (i : Int) < 8 := by omega
          have hin : (i : Int) < (n : Int) := by omega
          have hca := HA.out i hlt
          have he := HE.out i hlt
          have hb := HB.out i (by omega)
          obtain ⟨x0, x1⟩ := HX.out i hlt
          rw [← hM.out] at he hb
          have hMi : (M : Int) < 72057594037927936 := by
            have hp : (2 : Nat) ^ 56 = 72057594037927936 := by decide
            omega
          have HEe : Hid (_) := he
          clear he hb
          generalize xs.getD i 0 = x at *
          go_wp2
          exact ⟨⟨i + 1, _, by go_num, by omega, by rw [← HEe.out], rfl⟩, by simp [RowKit.intOf]; omega⟩
        · have hii : ¬ (i : Int) < 8 := by omega
          obtain rfl : i = 8 := by omega
          have hMl : M < 2 ^ 64 := by rw [hM.out]; exact hl64
          have hMi : (M : Int) < 18446744073709551616 := by
            have hp : (2 : Nat) ^ 64 = 18446744073709551616 := by decide
            omega
          have HR : Hid (R = sg M) := by rw [hM.out]; exact HV
          have HW : Hid (sg M = wrap64 (M : Int)) := by
            show _ = _
            unfold sg wrap64
            split <;> omega
          clear HV hM hl64 hMl
          have h8n : (8 : Int) ≤ (n : Int) := by omega
          by_cases hc9 : c = 8
          · subst hc9
            obtain rfl : n = 8 := by omega
            have cv := HC.out (some ⟨g, o, none⟩) 0 (fun h => by omega)
            rw [Nat.sub_self] at cv
            go_wp2
            refine bodyPost_ret (v := .tuple #[.agg #[.int .i64 R, .string T], .int .i64 0]) (by simp [results, Try.results9, go_sem, HR.out, HW.out]) rfl ⟨rfl, ?_⟩
            exact (Below.refl _ _).alloc (Nat.le_refl _) _
          · have hc9' : (8 : Int) < (c : Int) := by omega
            have cv := HC.out (some ⟨g, o + 8, none⟩) (c - 8) (fun h => rfl)
            go_wp2
            refine bodyPost_ret (v := .tuple #[.agg #[.int .i64 R, .string T], .int .i64 0]) (by simp [results, Try.results9, go_sem, HR.out, HW.out]) rfl ⟨rfl, ?_⟩
            exact (Below.refl _ _).alloc (Nat.le_refl _) _
end Go.Proofs.Ytljnllenpdkccaa
