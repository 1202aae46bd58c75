/- The walks of TrimRight, Compare, number, thousandths. -/
import Derived.Test.YtmfeckpcnofkhabDoorDurB
import Derived.Laws.Externs
namespace Go.Proofs.YtmfeckpcnofkhabDoor
open Go.RowKit

/-- How much of a text stays when the noughts at its end are cut off. -/
def trm (s : ByteArray) : Nat → Nat
  | 0 => 0
  | n + 1 => if bt s n = 48 then trm s n else n + 1
theorem trm_le (s : ByteArray) : ∀ n, trm s n ≤ n
  | 0 => Nat.le_refl _
  | n + 1 => by rw [trm]; have := trm_le s n; split <;> omega
theorem trm_last (s : ByteArray) : ∀ n, 0 < trm s n → ¬ bt s (trm s n - 1) = 48
  | 0, h => by simp [trm] at h
  | n + 1, h => by
    rw [trm] at h ⊢
    split
    · rename_i c
      rw [if_pos c] at h
      exact trm_last s n h
    · rename_i c
      simpa using c
theorem trm_zero (s : ByteArray) : ∀ n i, trm s n ≤ i → i < n → bt s i = 48
  | 0, i, _, h => by omega
  | n + 1, i, h1, h2 => by
    rw [trm] at h1
    split at h1
    · rename_i c
      by_cases e : i = n
      · subst e; exact c
      · exact trm_zero s n i h1 (by omega)
    · omega

set_option maxHeartbeats 1000000 in
theorem trimRightByte_any (s : ByteArray) (w : World) (hs : s.size ≤ 140737488355328) : Calls Tryd.prog 48 #[.string s, .int .u8 48] w fun e w' => e = .returned (.string (s.extract 0 (trm s s.size))) ∧ w' = w := by
  generalize hO : trm s s.size = O
  have HO : Hid (trm s s.size = O) := hO
  clear hO
  go_enter Tryd.func48, Tryd.ntmps48
  go_wp2
  go_loop [0] (fun t => ∃ U : ByteArray, t = .string U ∧ U.size ≤ s.size ∧ (∀ i, i < U.size → bt U i = bt s i) ∧ trm s U.size = O) (fun t => match t with | .string U => U.size | _ => 0)
  case atStart => exact ⟨s, rfl, Nat.le_refl _, fun _ _ => rfl, HO.out⟩
  case round =>
    obtain ⟨U, rfl, hU, hb, hv⟩ := hrel
    have HB : Hid (∀ i, i < U.size → bt U i = bt s i) := hb
    have HV : Hid (trm s U.size = O) := hv
    clear hb hv HO
    have fin : Hid (O = U.size → U = s.extract 0 O) := fun e => ba_ext (by simp; omega) (fun i hi => by rw [HB.out i hi, bt_ext s 0 O i (by omega) (by omega)]; simp)
    by_cases h0 : 0 < U.size
    · have h0i : (0 : Int) < U.size := by omega
      have hx := bt_at U (U.size - 1) (by omega)
      have hsub : ((U.size : Int) - 1).toNat = U.size - 1 := by omega
      have hl : (0 : Int) ≤ (U.size : Int) - 1 := by omega
      have hl2 : (U.size : Int) - 1 < U.size := by omega
      by_cases c : bt U (U.size - 1) = 48
      · rw [c] at hx
        have HE : Hid (trm s (U.size - 1) = O) := by
          show _ = _
          rw [← HV.out]
          obtain ⟨m, hm⟩ : ∃ m, U.size = m + 1 := ⟨U.size - 1, by omega⟩
          rw [hm, trm, if_pos (by rw [← HB.out m (by omega)]; rw [hm] at c; exact c)]
          rfl
        have hsz : (U.extract 0 (U.size - 1)).size = U.size - 1 := by simp
        have HN : Hid ((U.extract 0 (U.size - 1)).size = U.size - 1) := hsz
        clear hsz
        go_wp2
        refine ⟨⟨U.extract 0 (U.size - 1), by first | rfl | go_num, by rw [HN.out]; omega, fun i hi => ?_, by rw [HN.out]; exact HE.out⟩, by show (U.extract 0 (U.size - 1)).size < U.size; rw [HN.out]; omega⟩
        rw [HN.out] at hi
        rw [bt_ext U 0 (U.size - 1) i (by omega) (by omega)]
        simpa using HB.out i (by omega)
      · have HE : Hid (O = U.size) := by
          show _ = _
          rw [← HV.out]
          obtain ⟨m, hm⟩ : ∃ m, U.size = m + 1 := ⟨U.size - 1, by omega⟩
          rw [hm, trm, if_neg (by rw [← HB.out m (by omega)]; rw [hm] at c; exact c)]
        have cb : (bt U (U.size - 1) == 48) = false := by simpa using c
        go_wp2
        go_ret
        exact ⟨by rw [← fin.out HE.out]; rfl, rfl⟩
    · have h0i : ¬ (0 : Int) < U.size := by omega
      have HE : Hid (O = U.size) := by
        show _ = _
        rw [← HV.out, show U.size = 0 by omega, trm]
      go_wp2
      go_ret
      exact ⟨by rw [← fin.out HE.out]; rfl, rfl⟩

set_option maxHeartbeats 1000000 in
set_option maxRecDepth 100000 in
theorem trimRight_any (s : ByteArray) (w : World) (hs : s.size ≤ 140737488355328) : Calls Tryd.prog 29 #[.string s, .string ⟨#[48]⟩] w fun e w' => e = .returned (.string (s.extract 0 (trm s s.size))) ∧ w' = w := by
  by_cases h0 : 0 < s.size
  · have k := fun w => trimRightByte_any s w hs
    have hne : ¬ s.toList = [] := by
      intro hx
      have he : s = ⟨#[]⟩ := Go.WideShapes.bytes_inj (by rw [← ByteArray.toList_eq]; exact hx)
      rw [he] at h0
      exact absurd h0 (by decide)
    have hne2 : s.toList.isEmpty = false := by simpa using hne
    generalize s.extract 0 (trm s s.size) = X at *
    go_enter Tryd.func29, Tryd.ntmps29
    go_wp2_with fail
    go_fit (k _)
    rintro e w1 ⟨rfl, rfl⟩
    clear k
    go_wp2
    go_ret
    exact ⟨rfl, rfl⟩
  · have e : s = ⟨#[]⟩ := ba_ext (by show s.size = 0; omega) (fun i hi => by omega)
    subst e
    go_enter Tryd.func29, Tryd.ntmps29
    go_wp2
    go_ret
    exact ⟨rfl, rfl⟩

/-- How a text stands to "5". -/
def cmp5 (U : ByteArray) : Int := if U.size = 0 then -1 else if bt U 0 < 53 then -1 else if 53 < bt U 0 then 1 else if U.size = 1 then 0 else 1
theorem cmp5_eq (U : ByteArray) : Extern.BytealgCompare.cmp U ⟨#[53]⟩ = cmp5 U := by
  unfold Extern.BytealgCompare.cmp cmp5
  have e1 : (⟨#[53]⟩ : ByteArray).size = 1 := rfl
  rw [e1]
  by_cases h0 : U.size = 0
  · rw [if_pos h0, h0]; rfl
  · rw [if_neg h0, show min U.size 1 = 1 by omega]
    have e2 : U[0]! = U.get! 0 := by rw [getElem!_pos U 0 (by omega), get!_lt U 0 (by omega)]
    have e3 : (⟨#[53]⟩ : ByteArray)[0]! = 53 := rfl
    have e4 : List.range 1 = [0] := rfl
    rw [e4]
    by_cases c : U.get! 0 = 53
    · have hb : bt U 0 = 53 := by unfold bt; rw [c]; rfl
      have hR : (if bt U 0 < 53 then (-1 : Int) else if 53 < bt U 0 then 1 else if U.size = 1 then 0 else 1) = if U.size = 1 then 0 else 1 := by
        rw [hb, if_neg (by omega), if_neg (by omega)]
      rw [hR]
      have hf : (U[0]! != (⟨#[53]⟩ : ByteArray)[0]!) = false := by rw [e2, e3, c]; rfl
      simp only [List.find?, hf]
      by_cases s1 : U.size = 1
      · rw [if_pos s1, if_neg (by omega), if_neg (by omega)]
      · rw [if_neg s1, if_neg (by omega), if_pos (by omega)]
    · have hb : ¬ bt U 0 = 53 := fun h => c (by
        unfold bt at h
        exact UInt8.toNat_inj.1 (by have : (53 : UInt8).toNat = 53 := rfl; omega))
      have hf : (U[0]! != (⟨#[53]⟩ : ByteArray)[0]!) = true := by rw [e2, e3]; simpa using c
      simp only [List.find?, hf]
      rw [e2, e3]
      have hl : (U.get! 0 < 53) ↔ bt U 0 < 53 := by
        unfold bt
        rw [UInt8.lt_iff_toNat_lt]
        have : (53 : UInt8).toNat = 53 := rfl
        omega
      by_cases d : bt U 0 < 53
      · rw [if_pos (hl.2 d), if_pos d]
      · rw [if_neg (fun x => d (hl.1 x)), if_neg d, if_pos (by omega)]
theorem call85 (U : ByteArray) (w : World) : (callFunc 94 #[.string U, .string ⟨#[53]⟩]).run Tryd.prog w = .ok (.value (.int .i64 (cmp5 U))) w := by
  rw [run_callFunc_extern Tryd.func94 (e := Extern.BytealgCompare.compare) (by kernel_rfl) (by kernel_rfl) (by kernel_rfl) (by kernel_rfl), ← cmp5_eq]
  rfl
set_option maxHeartbeats 1000000 in
theorem compare_any (U : ByteArray) (w : World) : Calls Tryd.prog 64 #[.string U, .string ⟨#[53]⟩] w fun e w' => e = .returned (.int .i64 (cmp5 U)) ∧ w' = w := by
  have k : ∀ w, Calls Tryd.prog 83 #[.string U, .string ⟨#[53]⟩] w fun e w' => e = .returned (.int .i64 (cmp5 U)) ∧ w' = w := fun w => by
    have hc := call85 U w
    generalize cmp5 U = C at *
    go_enter Tryd.func83, Tryd.ntmps83
    go_wp2
    go_ret
    exact ⟨rfl, rfl⟩
  generalize cmp5 U = C at *
  go_enter Tryd.func64, Tryd.ntmps64
  go_wp2_with fail
  go_fit (k _)
  rintro e w1 ⟨rfl, rfl⟩
  clear k
  go_wp2
  go_ret
  exact ⟨rfl, rfl⟩
set_option maxHeartbeats 1000000 in
theorem number_any (s : ByteArray) (w : World) (hs : s.size ≤ 140737488355328) (hd : ∀ i, i < s.size → isD s i) : Calls Tryd.prog 55 #[.string s] w fun e w' => e = .returned (.int .i64 (min (vl s s.size) 9999)) ∧ w' = w := by
  have k := fun w => upTo_any s 9999 w hs hd (by omega) (by omega)
  generalize min (vl s s.size) 9999 = C at *
  clear hd
  go_enter Tryd.func55, Tryd.ntmps55
  go_wp2_with fail
  go_fit (k _)
  rintro e w1 ⟨rfl, rfl⟩
  clear k
  go_wp2
  go_ret
  exact ⟨rfl, rfl⟩

/-- A digit of a fraction; a nought behind its end. -/
def dg0 (s : ByteArray) (i : Nat) : Int := if i < s.size then bt s i - 48 else 0
/-- The whole ms of a fraction, and how what is left stands to half a ms. -/
def thV (s : ByteArray) : Int := dg0 s 0 * 100 + dg0 s 1 * 10 + dg0 s 2
def hfV (s : ByteArray) : Int := if dg0 s 3 < 5 then -1 else if 5 < dg0 s 3 then 1 else if trm s s.size ≤ 4 then 0 else 1
theorem trm_uniq (s : ByteArray) (n k : Nat) (h1 : k ≤ n) (h2 : ∀ i, k ≤ i → i < n → bt s i = 48) (h3 : 0 < k → ¬ bt s (k - 1) = 48) : trm s n = k := by
  have a1 := trm_le s n
  by_cases c : trm s n < k
  · exact absurd (trm_zero s n (k - 1) (by omega) (by omega)) (h3 (by omega))
  · by_cases d : k < trm s n
    · exact absurd (h2 (trm s n - 1) (by omega) (by omega)) (trm_last s n (by omega))
    · omega
theorem size_app (s t : ByteArray) : (s ++ t).size = s.size + t.size := by simp
theorem bt_app (s : ByteArray) (i : Nat) (h : i < s.size + 3) : bt (s ++ ⟨#[48, 48, 48]⟩) i = if i < s.size then bt s i else 48 := by
  have e : (⟨#[48, 48, 48]⟩ : ByteArray).size = 3 := rfl
  unfold bt
  rw [get!_lt _ i (by rw [size_app, e]; omega)]
  by_cases c : i < s.size
  · rw [if_pos c, get!_lt s i c, ByteArray.getElem_append_left c]
  · rw [if_neg c, ByteArray.getElem_append_right (by omega)]
    obtain h1 | h1 | h1 : i - s.size = 0 ∨ i - s.size = 1 ∨ i - s.size = 2 := by omega
    all_goals (simp only [h1]; rfl)
theorem th_eq (s : ByteArray) (hd : ∀ i, i < s.size → isD s i) : (∀ i, i < ((s ++ ⟨#[48, 48, 48]⟩).extract 0 3).size → isD ((s ++ ⟨#[48, 48, 48]⟩).extract 0 3) i) ∧ min (vl ((s ++ ⟨#[48, 48, 48]⟩).extract 0 3) ((s ++ ⟨#[48, 48, 48]⟩).extract 0 3).size) 9999 = thV s := by
  have e : (s ++ ⟨#[48, 48, 48]⟩).size = s.size + 3 := size_app s _
  have ez : ((s ++ ⟨#[48, 48, 48]⟩).extract 0 3).size = 3 := by rw [ByteArray.size_extract, e]; omega
  have hb : ∀ i, i < 3 → bt ((s ++ ⟨#[48, 48, 48]⟩).extract 0 3) i = 48 + dg0 s i := fun i hi => by
    rw [bt_ext _ 0 3 i (by omega) (by omega), Nat.zero_add, bt_app s i (by omega)]
    unfold dg0
    split <;> omega
  have hr : ∀ i, 0 ≤ dg0 s i ∧ dg0 s i ≤ 9 := fun i => by
    unfold dg0
    split
    · rename_i c
      have := (hd i c).2
      omega
    · omega
  refine ⟨fun i hi => ⟨hi, ?_⟩, ?_⟩
  · rw [ez] at hi
    rw [hb i hi]
    have := hr i
    omega
  · rw [ez]
    have e3 : vl ((s ++ ⟨#[48, 48, 48]⟩).extract 0 3) 3 = thV s := by
      rw [vl, vl, vl, vl, hb 0 (by omega), hb 1 (by omega), hb 2 (by omega)]
      unfold thV
      omega
    rw [e3]
    have h0 := hr 0
    have h1 := hr 1
    have h2 := hr 2
    unfold thV
    omega
theorem hf_eq (s : ByteArray) (Z : ByteArray) (hZ : Z = (s ++ ⟨#[48, 48, 48]⟩).extract 3 (s ++ ⟨#[48, 48, 48]⟩).size) : cmp5 (Z.extract 0 (trm Z Z.size)) = hfV s := by
  have e : (s ++ ⟨#[48, 48, 48]⟩).size = s.size + 3 := size_app s _
  have ez : Z.size = s.size := by rw [hZ, ByteArray.size_extract, e]; omega
  have hb : ∀ i, i < s.size → bt Z i = 48 + dg0 s (3 + i) := fun i hi => by
    rw [hZ, bt_extract, bt_app s (3 + i) (by omega)]
    unfold dg0
    split <;> omega
  have t1 := trm_le s s.size
  have tk : trm Z Z.size = trm s s.size - 3 := by
    rw [ez]
    refine trm_uniq Z s.size _ (by omega) (fun i h1 h2 => ?_) (fun h => ?_)
    · rw [hb i h2]
      unfold dg0
      split
      · rename_i c
        have := trm_zero s s.size (3 + i) (by omega) c
        omega
      · omega
    · rw [hb _ (by omega)]
      unfold dg0
      rw [if_pos (by omega), show 3 + (trm s s.size - 3 - 1) = trm s s.size - 1 by omega]
      have := trm_last s s.size (by omega)
      omega
  rw [tk]
  generalize hk : trm s s.size - 3 = k
  have ey : (Z.extract 0 k).size = k := by rw [ByteArray.size_extract]; omega
  unfold cmp5 hfV
  rw [ey]
  by_cases k0 : k = 0
  · rw [if_pos k0, if_pos]
    unfold dg0
    split
    · rename_i c
      have := trm_zero s s.size 3 (by omega) c
      omega
    · omega
  · rw [if_neg k0, bt_ext Z 0 k 0 (by omega) (by omega), Nat.zero_add, hb 0 (by omega), Nat.add_zero]
    have c1 : trm s s.size ≤ 4 ↔ k = 1 := by omega
    generalize dg0 s 3 = D
    by_cases d1 : D < 5
    · rw [if_pos d1, if_pos (by omega)]
    · rw [if_neg d1, if_neg (by omega)]
      by_cases d2 : 5 < D
      · rw [if_pos d2, if_pos (by omega)]
      · rw [if_neg d2, if_neg (by omega)]
        by_cases k1 : k = 1
        · rw [if_pos k1, if_pos (c1.2 k1)]
        · rw [if_neg k1, if_neg (fun x => k1 (c1.1 x))]
set_option maxHeartbeats 1000000 in
theorem thousandths_any (s : ByteArray) (w : World) (hs : s.size ≤ 64) (hd : ∀ i, i < s.size → isD s i) : Calls Tryd.prog 43 #[.string s] w fun e w' => e = .returned (.tuple #[.int .i64 (thV s), .int .i64 (hfV s)]) ∧ Below w.heap.size w w' := by
  obtain ⟨hd3, hv3⟩ := th_eq s hd
  have hq := hf_eq s _ rfl
  have e : (s ++ ⟨#[48, 48, 48]⟩).size = s.size + 3 := size_app s _
  generalize hX : s ++ (⟨#[48, 48, 48]⟩ : ByteArray) = X at *
  have h3 : (3 : Int) ≤ X.size := by omega
  have e3 : (X.extract 0 3).size ≤ 140737488355328 := by rw [ByteArray.size_extract]; omega
  have ez : (X.extract 3 X.size).size ≤ 140737488355328 := by rw [ByteArray.size_extract]; omega
  have kN : ∀ w, Calls Tryd.prog 55 #[.string (X.extract 0 3)] w fun e w' => e = .returned (.int .i64 (thV s)) ∧ w' = w := fun w => by
    have := number_any (X.extract 0 3) w e3 hd3
    rwa [hv3] at this
  have kT := fun w => trimRight_any (X.extract 3 X.size) w ez
  have kC := fun w => compare_any ((X.extract 3 X.size).extract 0 (trm (X.extract 3 X.size) (X.extract 3 X.size).size)) w
  rw [hq] at kC
  generalize (X.extract 3 X.size).extract 0 (trm (X.extract 3 X.size) (X.extract 3 X.size).size) = Y at *
  generalize thV s = A at *
  generalize hfV s = B at *
  clear e hd3 hv3 hq hd e3 ez
  go_enter Tryd.func43, Tryd.ntmps43
  go_wp2_with fail
  go_region_with (first | (go_at_call 55; go_fit (kN _); rintro e w3 ⟨rfl, rfl⟩) | (go_at_call 29; go_fit (kT _); rintro e w3 ⟨rfl, rfl⟩) | (go_at_call 64; go_fit (kC _); rintro e w3 ⟨rfl, rfl⟩))
  all_goals go_wp2
  all_goals go_ret2
  all_goals exact ⟨rfl, (Below.refl _ _).drew⟩
end Go.Proofs.YtmfeckpcnofkhabDoor
