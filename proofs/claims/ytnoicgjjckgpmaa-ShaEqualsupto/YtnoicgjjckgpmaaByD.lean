/- A list lent: whole, spoil. -/
import Derived.Test.YtnoicgjjckgpmaaByC
namespace Go.Proofs.Ytnoicgjjckgpmaa
open Go.RowKit

/-- A byte spoilt. -/
def xr (x : Int) : Int := bits .xor .u8 x 238
theorem xr_by (xs : List Int) : By (xs.map xr) := fun j hj => by
  rw [List.length_map] at hj
  simp only [List.getD, List.getElem?_map, List.getElem?_eq_getElem hj, Option.map_some, Option.getD_some]
  exact ⟨bits_lo_u8 _ _ _, bits_hi_u8 _ _ _⟩
/-- A list spoilt up to a place. -/
def sp (xs : List Int) (k : Nat) : List Int := (xs.take k).map xr ++ xs.drop k
theorem sp_len (xs : List Int) (k : Nat) (h : k ≤ xs.length) : (sp xs k).length = xs.length := by simp [sp]; omega
theorem sp_at (xs R : List Int) (k : Nat) (h : k < xs.length) : (sp xs k ++ R).getD k 0 = xs.getD k 0 := by
  unfold sp
  simp only [List.getD]
  rw [List.append_assoc, List.getElem?_append_right (by simp; omega)]
  rw [List.getElem?_append_left (by simp; omega)]
  simp [List.getElem?_drop]
  congr 2
  omega
theorem sp_set (xs R : List Int) (k : Nat) (h : k < xs.length) : (sp xs k ++ R).set k (xr (xs.getD k 0)) = sp xs (k + 1) ++ R := by
  have hl : ((xs.take k).map xr).length = k := by simp; omega
  have e1 : sp xs k ++ R = (xs.take k).map xr ++ xs[k] :: (xs.drop (k + 1) ++ R) := by
    unfold sp
    rw [List.drop_eq_getElem_cons h, List.append_assoc, List.cons_append]
  have e2 : sp xs (k + 1) ++ R = (xs.take k).map xr ++ xr (xs.getD k 0) :: (xs.drop (k + 1) ++ R) := by
    unfold sp
    rw [List.take_add_one, List.getElem?_eq_getElem h, List.map_append, List.append_assoc, List.append_assoc]
    simp only [List.getD, List.getElem?_eq_getElem h, Option.getD_some, Option.toList, List.map_cons, List.map_nil, List.cons_append, List.nil_append]
  rw [e1, e2]
  have := set_mid2 ((xs.take k).map xr) (xs.drop (k + 1) ++ R) xs[k] (xr (xs.getD k 0))
  rw [hl] at this
  exact this

set_option maxHeartbeats 2000000 in
set_option maxRecDepth 100000 in
theorem spoil_any (G : Nat) (xs R : List Int) (w : World) (hn : xs.length ≤ 16777216) (hR : R.length = 200) (h : Lies w G (xs ++ R)) (S : Nat) (hS : S ≤ G) :
    Calls Try.prog 11 #[ln G xs.length] w fun r w' => r = .returned (.slice (some ⟨G, 0, none⟩) xs.length (xs.length + 200)) ∧ Lies w' G (xs.map xr ++ R) ∧ Below S w w' ∧ ∀ k, k < w.heap.size → k ≠ G → w'.heap[k]? = w.heap[k]? := by
  have HL : Hid (Lies w G (sp xs 0 ++ R)) := by show Lies _ _ _; simpa [sp] using h
  have HA : Hid (∀ k, k < xs.length → (sp xs k ++ R).getD k 0 = xs.getD k 0) := sp_at xs R
  have HS : Hid (∀ k, k < xs.length → (sp xs k ++ R).set k (xr (xs.getD k 0)) = sp xs (k + 1) ++ R) := sp_set xs R
  have HN : Hid (∀ k, k ≤ xs.length → (sp xs k ++ R).length = xs.length + 200) := fun k hk => by rw [List.length_append, sp_len xs k hk, hR]
  have HE : Hid (sp xs xs.length ++ R = xs.map xr ++ R) := by show _ = _; simp [sp]
  have hGl := h.lt
  have hSw : S ≤ w.heap.size := by omega
  clear h hR
  rw [← HE.out]
  generalize xs.length = n at *
  have hni : (n : Int) ≤ 16777216 := by omega
  have hni' : (n : Int) ≤ (n : Int) + 200 := by omega
  go_enter Try.func11, Try.ntmps11
  go_wp2_with fail
  go_loopw [6] (fun t w' => ∃ k : Nat, t = .int .i64 (k : Int) ∧ k ≤ n ∧ Hid (Lies w' G (sp xs k ++ R)) ∧ w'.heap[w.heap.size]? = some (.cells #[.slice (some ⟨G, 0, none⟩) (n + 200) (n + 200), .int .i64 n] 29) ∧ Below S w w' ∧ Hid (∀ k, k < w.heap.size → k ≠ G → w'.heap[k]? = w.heap[k]?)) (fun t _ => n - (RowKit.intOf t).toNat)
  case atStart => exact ⟨0, rfl, by omega, HL.out.below ((Below.refl _ _).alloc (Nat.le_refl _) _), heap_alloc_new w _, (Below.refl _ _).alloc hSw _, fun k hk _ => ((Below.refl w.heap.size w).alloc (Nat.le_refl _) _).block k hk⟩
  case round =>
    obtain ⟨k, rfl, hk, ho, hB, hbw, HK⟩ := hrel
    have c0 : wr.cell? ⟨w.heap.size, 0, none⟩ = some (.slice (some ⟨G, 0, none⟩) (n + 200) (n + 200)) := by rw [cell_of_row wr _ 0 _ 29 (0, 0) hB]; rfl
    have c1 : wr.cell? ⟨w.heap.size, 1, none⟩ = some (.int .i64 n) := by rw [cell_of_row wr _ 1 _ 29 (0, 0) hB]; rfl
    have HB : Hid (wr.heap[w.heap.size]? = some (.cells #[.slice (some ⟨G, 0, none⟩) (n + 200) (n + 200), .int .i64 n] 29)) := hB
    clear hB
    by_cases hlt : k < n
    · have hc := ho.out.cell k (by rw [HN.out k hk]; omega)
      rw [HA.out k hlt] at hc
      have hf := ho.out.froz k
      have HS1 := ho.out.set k (xr (xs.getD k 0))
      rw [HS.out k hlt] at HS1
      have HS2 : Hid (Lies (wr.setCell ⟨G, k, none⟩ (.int .u8 (bits .xor .u8 (xs.getD k 0) 238))) G (sp xs (k + 1) ++ R)) := HS1
      have hki : (k : Int) < n := by omega
      have hkn : (k : Int) < (n : Int) + 200 := by omega
      clear HS1
      generalize xs.getD k 0 = x at *
      go_wp2
      exact ⟨⟨k + 1, by go_num, by omega, HS2, (heap_setCell_other _ _ _ _ (by simp; omega)).trans HB.out, hbw.setCell (p := ⟨G, k, none⟩) hS _, fun k' hk' hn' => (heap_setCell_other _ _ _ _ hn').trans (HK.out k' hk' hn')⟩, by simp [RowKit.intOf]; omega⟩
    · have hki : ¬ (k : Int) < n := by omega
      obtain rfl : k = n := by omega
      go_wp2
      go_ret
      exact ⟨rfl, ho.out, hbw, HK.out⟩

set_option maxHeartbeats 2000000 in
set_option maxRecDepth 100000 in
theorem whole_any (G : Nat) (a : Option Addr) (c : Nat) (xs : List Int) (w : World) (hn : xs.length ≤ 16777216) (h : Lies w G (xs ++ List.replicate 200 90)) (ha : Im w a xs) :
    Calls Try.prog 10 #[ln G xs.length, .slice a xs.length c] w fun r w' => r = .returned (.bool true) ∧ Below w.heap.size w w' := by
  have hGl := h.lt
  have HC : Hid (∀ j, xs.length ≤ j → j < xs.length + 200 → w.cell? ⟨G, j, none⟩ = some (.int .u8 90)) := fun j h1 h2 => by
    rw [h.cell j (by rw [List.length_append, List.length_replicate]; omega)]
    simp only [List.getD]
    rw [List.getElem?_append_right h1, List.getElem?_replicate, if_pos (by omega)]
    rfl
  have hb0 : Below w.heap.size w (w.alloc (.cells #[.slice (some ⟨G, 0, none⟩) (xs.length + 200) (xs.length + 200), .int .i64 xs.length] 29)) := (Below.refl _ _).alloc (Nat.le_refl _) _
  have i1 : Im w (some ⟨G, 0, none⟩) xs := by
    have := h.im xs.length
    rwa [List.take_append_of_le_length (Nat.le_refl _), List.take_of_length_le (Nat.le_refl _)] at this
  have v1 := conv_im _ (some ⟨G, 0, none⟩) (xs.length + 200) xs (i1.below hb0)
  have v2 := conv_im _ a c xs (ha.below hb0)
  have v1' := conv_im _ (some ⟨G, 0, none⟩) (xs.length + 200) xs (i1.below hb0.drew)
  have v2' := conv_im _ a c xs (ha.below hb0.drew)
  clear i1 ha h
  generalize strOfNums xs = T at *
  generalize xs.length = n at *
  have hni : (n : Int) ≤ 16777216 := by omega
  have hni' : (n : Int) ≤ (n : Int) + 200 := by omega
  go_enter Try.func10, Try.ntmps10
  go_wp2_with fail
  go_region
  all_goals go_wp2
  clear v1 v2 v1' v2'
  have hb0' := hb0.drew
  have hB : ((w.alloc (.cells #[.slice (some ⟨G, 0, none⟩) (n + 200) (n + 200), .int .i64 n] 29)).drew).heap[w.heap.size]? = some (.cells #[.slice (some ⟨G, 0, none⟩) (n + 200) (n + 200), .int .i64 n] 29) := heap_alloc_new w _
  have c0 : ((w.alloc (.cells #[.slice (some ⟨G, 0, none⟩) (n + 200) (n + 200), .int .i64 n] 29)).drew).cell? ⟨w.heap.size, 0, none⟩ = some (.slice (some ⟨G, 0, none⟩) (n + 200) (n + 200)) := by rw [cell_of_row _ _ 0 _ 29 (0, 0) hB]; rfl
  have HCC : Hid (∀ j, n ≤ j → j < n + 200 → ((w.alloc (.cells #[.slice (some ⟨G, 0, none⟩) (n + 200) (n + 200), .int .i64 n] 29)).drew).cell? ⟨G, j, none⟩ = some (.int .u8 90)) := fun j h1 h2 => (hb0'.cell (p := ⟨G, j, none⟩) hGl).trans (HC.out j h1 h2)
  clear hB HC hb0
  generalize (w.alloc (.cells #[.slice (some ⟨G, 0, none⟩) (n + 200) (n + 200), .int .i64 n] 29)).drew = W at *
  go_loopw [5] (fun t w' => ∃ J : Nat, t = .int .i64 (J : Int) ∧ n ≤ J ∧ J ≤ n + 200 ∧ w' = W) (fun t _ => n + 200 - (RowKit.intOf t).toNat)
  case atStart => exact ⟨n, rfl, by omega, by omega, rfl⟩
  case round =>
    obtain ⟨I, rfl, hI0, hI1, rfl⟩ := hrel
    by_cases hIl : I < n + 200
    · have d0 := HCC.out I hI0 hIl
      have hIi : (I : Int) < (n : Int) + 200 := by omega
      go_wp2
      exact ⟨⟨I + 1, by go_num, by omega, by omega, trivial⟩, by simp [RowKit.intOf]; omega⟩
    · have hIi : ¬ (I : Int) < (n : Int) + 200 := by omega
      go_wp2
      go_ret
      exact ⟨rfl, hb0'⟩
end Go.Proofs.Ytnoicgjjckgpmaa
