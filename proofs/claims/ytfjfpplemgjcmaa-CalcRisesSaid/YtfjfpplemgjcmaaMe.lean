/- Mean on both sides. -/
import Derived.Test.YtfjfpplemgjcmaaOw
namespace Go.Proofs.Ytfjfpplemgjcmaa
open Go.RowKit

/-- Is one of the first i infinite? -/
def anyI (xs : List Nat) (i : Nat) : Bool := (List.range i).any fun j => infB (cl (xs.getD j 0))
theorem anyI_succ (xs : List Nat) (i : Nat) : anyI xs (i + 1) = (anyI xs i || infB (cl (xs.getD i 0))) := by
  unfold anyI
  rw [List.range_succ, List.any_append]
  simp
/-- The parts. -/
def ptF (xs : List Nat) (n : Option Nat) (j : Nat) : Option Nat := fb .quo (cl (xs.getD j 0)) n
def meanF (xs : List Nat) : Option Nat :=
  if xs.length = 0 then none
  else if infB (sumF (cs xs)) = true then
    if anyI xs xs.length = true then fb .quo (sumF (cs xs)) (some (nW xs.length)) else sumF ((List.range xs.length).map (ptF xs (some (nW xs.length))))
  else fb .quo (sumF (cs xs)) (some (nW xs.length))

set_option maxHeartbeats 400000 in
theorem isInfinite_any (x : Nat) (hx : x < 18446744073709551616) (w : World) : Calls Try.prog 33 #[.float .f64 x] w fun r w' => r = .returned (.bool (infB (cl x))) ∧ w' = w := by
  have k1 := isInf_any x hx w
  generalize infB (cl x) = B at *
  go_enter Try.func33, Try.ntmps33
  go_wp2_with fail
  go_fit k1
  rintro r w' ⟨rfl, rfl⟩
  go_wp2
  go_ret
  exact ⟨rfl, rfl⟩

theorem anyI_hit (xs : List Nat) (i n : Nat) (hi : i < n) (h : infB (cl (xs.getD i 0)) = true) : anyI xs n = true := by
  unfold anyI
  exact List.any_eq_true.2 ⟨i, List.mem_range.2 hi, h⟩

set_option maxHeartbeats 2000000 in
set_option maxRecDepth 100000 in
theorem index_any (a : Option Addr) (c : Nat) (xs : List Nat) (w : World) (hf : Fm w a xs) (hw : Wd xs) (hl : xs.length ≤ 9223372036854775807) :
    Calls Try.prog 52 #[.slice a xs.length c, .func (.func 33) #[] #[]] w fun r w' => (∃ n : Int, r = .returned (.int .i64 n) ∧ Hid (anyI xs xs.length = decide (0 ≤ n))) ∧ w' = w := by
  have HF : Hid (Fm w a xs) := hf
  have HW : Hid (Wd xs) := hw
  have HS : Hid (∀ i, anyI xs (i + 1) = (anyI xs i || infB (cl (xs.getD i 0)))) := anyI_succ xs
  have HH : Hid (∀ i n, i < n → infB (cl (xs.getD i 0)) = true → anyI xs n = true) := anyI_hit xs
  clear hf hw
  go_enter Try.func52, Try.ntmps52
  go_wp2
  go_loopw [8] (fun iv w' => ∃ (i : Nat), iv = .int .i64 (i : Int) ∧ i ≤ xs.length ∧ Hid (anyI xs i = false) ∧ w' = w) (fun iv _ => xs.length - (RowKit.intOf iv).toNat)
  case atStart => exact ⟨0, rfl, by omega, (rfl : anyI xs 0 = false), rfl⟩
  case round =>
    obtain ⟨i, rfl, hi, hst, rfl⟩ := hrel
    by_cases hlt : i < xs.length
    · have hii : (i : Int) < xs.length := by omega
      rcases HF.out with h0 | ⟨g, o, rfl, hg, hat⟩
      · rw [h0] at hlt; simp at hlt
      have hcell := hat i hlt
      have hv := HW.out i hlt
      have H1 : Hid (anyI xs (i + 1) = infB (cl (xs.getD i 0))) := by
        show _ = _
        rw [HS.out, hst.out]; rfl
      have H2 : Hid (infB (cl (xs.getD i 0)) = true → anyI xs xs.length = true) := HH.out i _ hlt
      have HI : Hid (i + 1 ≤ xs.length) := hlt
      clear hat
      generalize xs.getD i 0 = v at *
      have kI := fun w => isInfinite_any v hv w
      go_wp2_with fail
      go_fit (kI _)
      rintro r w' ⟨rfl, rfl⟩
      cases hinf : infB (cl v)
      · go_wp2
        exact ⟨⟨i + 1, by go_num, HI, (by show _ = _; rw [H1.out, hinf] : Hid _), trivial⟩, by simp [RowKit.intOf]; omega⟩
      · have H3 := H2.out hinf
        have H4 : Hid (anyI xs xs.length = decide (0 ≤ (i : Int))) := by show _ = _; rw [H3]; exact (decide_eq_true (by omega)).symm
        clear H3
        go_wp2
        go_ret
        exact ⟨⟨_, rfl, H4⟩, rfl⟩
    · have hii : ¬ (i : Int) < xs.length := by omega
      have H4 : Hid (anyI xs xs.length = decide (0 ≤ (-1 : Int))) := by
        show _ = _
        rw [show xs.length = i by omega, hst.out]; rfl
      go_wp2
      go_ret
      exact ⟨⟨_, rfl, H4⟩, rfl⟩

set_option maxHeartbeats 400000 in
theorem contains_any (a : Option Addr) (c : Nat) (xs : List Nat) (w : World) (hf : Fm w a xs) (hw : Wd xs) (hl : xs.length ≤ 9223372036854775807) :
    Calls Try.prog 32 #[.slice a xs.length c, .func (.func 33) #[] #[]] w fun r w' => r = .returned (.bool (anyI xs xs.length)) ∧ w' = w := by
  have k1 := index_any a c xs w hf hw hl
  generalize anyI xs xs.length = B at *
  go_enter Try.func32, Try.ntmps32
  go_wp2_with fail
  go_fit k1
  rintro r w' ⟨⟨n, rfl, hn⟩, rfl⟩
  go_wp2
  go_ret
  exact ⟨by rw [hn.out]; rfl, rfl⟩

set_option maxHeartbeats 2000000 in
set_option maxRecDepth 100000 in
theorem parted_any (a : Option Addr) (c : Nat) (xs : List Nat) (n : Nat) (w : World) (hf : Fm w a xs) (hl : 8 * xs.length ≤ 140737488355328) :
    Calls Try.prog 34 #[.slice a xs.length c, .float .f64 n] w (RL w xs.length (ptF xs (cl n))) := by
  have hq := @run_fquo Try.prog
  have hsf := @run_store_float Try.prog
  obtain ⟨w1, r1, o1, b1⟩ := make_f w xs.length (by omega)
  have HF : Hid (Fm w a xs) := hf
  have O1 : Hid (Fr w1 w.heap.size (.slice (some ⟨w.heap.size, 0, none⟩) xs.length xs.length) (List.replicate xs.length 0)) := o1
  have HP : Hid (∀ j, ptF xs (cl n) j = fb .quo (cl (xs.getD j 0)) (cl n)) := fun j => rfl
  clear hf o1
  generalize ptF xs (cl n) = F at *
  obtain ⟨G, hG⟩ : ∃ G, G = w.heap.size := ⟨_, rfl⟩
  have HG : Hid (G = w.heap.size) := hG
  rw [← hG] at r1 O1 b1
  clear hG
  go_enter Try.func34, Try.ntmps34
  go_wp2
  go_loopw [13] (fun iv w' => ∃ (i : Nat) (ys : List Nat), iv = .int .i64 (i : Int) ∧ i ≤ xs.length ∧ Hid (ys.length = xs.length) ∧ Hid (Fr w' G (.slice (some ⟨G, 0, none⟩) xs.length xs.length) ys) ∧ Hid (Ls ys i F) ∧ Below G w w') (fun iv _ => xs.length - (RowKit.intOf iv).toNat)
  case atStart => exact ⟨0, _, rfl, by omega, (by simp : _ = _), O1, Ls.nil _ _, b1⟩
  case round =>
    obtain ⟨i, ys, rfl, hi, hyl, o, hls, hb⟩ := hrel
    by_cases hlt : i < xs.length
    · have hii : (i : Int) < xs.length := by omega
      rcases HF.out with h0 | ⟨g, o', rfl, hg, hat⟩
      · rw [h0] at hlt; simp at hlt
      have hcell := (hb.cell (p := ⟨g, o' + i, none⟩) (by rw [HG.out]; exact hg)).trans (hat i hlt)
      have HI : Hid (i + 1 ≤ xs.length) := hlt
      have hfi := HP.out i
      clear hat
      generalize xs.getD i 0 = v at *
      have o2 := o.out
      rw [← hyl.out] at o2
      have hc2 := o2.cell i (by rw [hyl.out]; exact hlt)
      have hf2 := o2.froz i
      have o3 := (o2.drew (fk .quo v n)).set i (fz .quo v n wr)
      have hl3 := hls.out.set (by rw [hyl.out]; exact hlt) (fz .quo v n wr) (by rw [cl_fz, hfi]) (fz_lt _ _ _ _)
      rw [hyl.out] at o3
      have O3 : Hid _ := o3
      have L3 : Hid _ := hl3
      have Y3 : Hid ((ys.set i (fz .quo v n wr)).length = xs.length) := by show _ = _; rw [List.length_set, hyl.out]
      have hb3 : Below G w ((wr.drewN (fk .quo v n)).setCell ⟨G, i, none⟩ (.float .f64 (fz .quo v n wr))) := (below_drewN hb _).setCell (p := ⟨G, i, none⟩) (Nat.le_refl _) _
      generalize ys.getD i 0 = old at *
      clear o2 o3 hl3 hfi
      go_wp2
      exact ⟨⟨i + 1, _, by go_num, HI, Y3, O3, L3, hb3⟩, by simp [RowKit.intOf]; omega⟩
    · have hii : ¬ (i : Int) < xs.length := by omega
      have O3 : Hid (Fr wr G (.slice (some ⟨G, 0, none⟩) xs.length xs.length) ys) := o
      have L3 : Hid (Ls ys xs.length F) := by
        show Ls _ _ _
        rw [show xs.length = i by omega]
        exact hls
      go_wp2
      go_ret
      exact ⟨_, ys, rfl, by rw [← HG.out]; exact O3, hyl, L3, by rw [← HG.out]; exact hb⟩
end Go.Proofs.Ytfjfpplemgjcmaa
