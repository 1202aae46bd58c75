/- The reference's Seconds. -/
import Derived.Test.YtmfeckpcnofkhabDoorTeA
import Derived.Test.YtmfeckpcnofkhabDoorSeB
import Derived.Test.YtmfeckpcnofkhabDoorOfC
import Derived.Test.YtmfeckpcnofkhabDoorStC
namespace Go.Proofs.YtmfeckpcnofkhabDoor
open Go.RowKit Go.Lib

theorem ext0k (G : ByteArray) (k : Nat) : (G.extract 0 (k + 1)).extract 0 k = G.extract 0 k := by
  rw [ByteArray.extract_extract]
  congr 1
  omega
theorem bt_ext0 (G : ByteArray) (k i : Nat) (h : i < k) (hk : k ≤ G.size) : bt (G.extract 0 k) i = bt G i := by
  unfold bt
  rw [get!_lt _ i (by rw [ByteArray.size_extract]; omega), get!_lt _ i (by omega), ByteArray.getElem_extract]
  simp
/-- No digit but noughts: the number is 0. -/
theorem trm_p3 (r : Nat) (h : r < 1000) : trm (mk (p3 r)) 3 = 0 ↔ r = 0 := by
  have b0 : bt (mk (p3 r)) 0 = 48 + ((r / 100 : Nat) : Int) := by rw [bt_mk _ _ (by show 0 < 3; omega)]; exact u8v _ (by omega)
  have b1 : bt (mk (p3 r)) 1 = 48 + ((r / 10 % 10 : Nat) : Int) := by rw [bt_mk _ _ (by show 1 < 3; omega)]; exact u8v _ (by omega)
  have b2 : bt (mk (p3 r)) 2 = 48 + ((r % 10 : Nat) : Int) := by rw [bt_mk _ _ (by show 2 < 3; omega)]; exact u8v _ (by omega)
  rw [trm, trm, trm, trm, b0, b1, b2]
  constructor
  · intro q
    by_cases a : (48 + ((r % 10 : Nat) : Int)) = 48
    · rw [if_pos a] at q
      by_cases b : (48 + ((r / 10 % 10 : Nat) : Int)) = 48
      · rw [if_pos b] at q
        by_cases c : (48 + ((r / 100 : Nat) : Int)) = 48
        · omega
        · rw [if_neg c] at q; omega
      · rw [if_neg b] at q; omega
    · rw [if_neg a] at q; omega
  · rintro rfl
    rfl

set_option maxHeartbeats 4000000 in
set_option maxRecDepth 100000 in
theorem rsecs_pos (n : Nat) (w : World) (hn : n ≤ 9223372036854775807) :
    Calls Tryd.prog 17 #[.int .i64 n] w fun e w' => e = .returned (.string (secT false n)) ∧ Below w.heap.size w w' := by
  have k1 := rdec_any (n / 1000) 1 w (by omega) (by omega)
  rw [dcm1 _ (by omega)] at k1
  have k2 := fun w => rdec_any (n % 1000) 3 w (by omega) (by omega)
  rw [dcm3 _ (by omega)] at k2
  have hz := dd_len (n / 1000) (by omega)
  have ht := trm_p3 (n % 1000) (by omega)
  have HV0 : Hid (trm (mk (p3 (n % 1000))) 3 = 0 → secT false n = (⟨#[]⟩ : ByteArray) ++ mk (decDigits (n / 1000))) := fun e => by unfold secT; rw [if_pos (ht.1 e)]; rfl
  have HV1 : Hid (¬ trm (mk (p3 (n % 1000))) 3 = 0 → secT false n = (((⟨#[]⟩ : ByteArray) ++ mk (decDigits (n / 1000))) ++ ⟨#[46]⟩) ++ (mk (p3 (n % 1000))).extract 0 (trm (mk (p3 (n % 1000))) 3)) := fun e => by unfold secT; rw [if_neg (fun q => e (ht.2 q))]; rfl
  generalize secT false n = V at *
  have zD : (mk (decDigits (n / 1000))).size ≤ 20 := by rw [mk_size]; exact hz
  have zG : (mk (p3 (n % 1000))).size = 3 := rfl
  clear ht hz
  generalize mk (p3 (n % 1000)) = G at *
  generalize mk (decDigits (n / 1000)) = D at *
  have wu : IntKind.u64.wrap (n : Int) = (n : Int) := by rw [IntKind.wrap_u64]; omega
  have hn0 : ¬ (n : Int) < 0 := by omega
  have t1 : (n : Int).tdiv 1000 = ((n / 1000 : Nat) : Int) := by rw [Int.tdiv_eq_ediv_of_nonneg (by omega)]; omega
  have t2 : (n : Int).tmod 1000 = ((n % 1000 : Nat) : Int) := by rw [Int.tmod_eq_emod_of_nonneg (by omega)]; omega
  have v1 : (0 : Int) ≤ ((n % 1000 : Nat) : Int) := by omega
  have v2 : ((n % 1000 : Nat) : Int) < 1000 := by omega
  have v3 : (0 : Int) ≤ ((n / 1000 : Nat) : Int) := by omega
  have v4 : ((n / 1000 : Nat) : Int) < 18446744073709551616 := by omega
  clear hn 
  generalize ((n % 1000 : Nat) : Int) = R at *
  generalize ((n / 1000 : Nat) : Int) = Q at *
  generalize (n : Int) = N at *
  go_enter Tryd.func17, Tryd.ntmps17
  go_wp2_with fail
  go_fit k1
  rintro e w3 ⟨rfl, b3⟩
  go_wp2_with fail
  go_fit (k2 _)
  rintro e w4 ⟨rfl, b4⟩
  have hb := b3.trans (b4.mono b3.size)
  clear b3 b4
  go_wp2_with fail
  go_loop [5] (fun t => ∃ (k : Nat), t = .string (G.extract 0 k) ∧ k ≤ 3 ∧ trm G k = trm G 3) (fun t => match t with | .string X => X.size | _ => 0)
  case atStart => exact ⟨3, by rw [show G.extract 0 3 = G by rw [← zG]; exact ByteArray.extract_zero_size], Nat.le_refl _, rfl⟩
  case round =>
    obtain ⟨k, rfl, hk, hm⟩ := hrel
    have hxz : (G.extract 0 k).size = k := by rw [ByteArray.size_extract]; omega
    cases k with
    | zero =>
      have hV : V = (⟨#[]⟩ : ByteArray) ++ D := HV0.out (by rw [← hm]; rfl)
      have hX : G.extract 0 0 = ⟨#[]⟩ := ByteArray.size_eq_zero_iff.1 hxz
      rw [hX]
      have HVV := hidden hV
      clear HV0 HV1 hm hX hxz hV
      go_wp2
      go_ret
      exact ⟨by rw [HVV.out]; rfl, hb⟩
    | succ k =>
      have hat : ∀ h, (((G.extract 0 (k + 1))[k]'h).toNat : Int) = bt G k := fun h => by
        have := bt_at (G.extract 0 (k + 1)) k h
        rwa [bt_ext0 G (k + 1) k (by omega) (by omega)] at this
      by_cases c : bt G k = 48
      · have fin : ∃ k', Value.string ((G.extract 0 (k + 1)).extract 0 k) = .string (G.extract 0 k') ∧ k' ≤ 3 ∧ trm G k' = trm G 3 := ⟨k, by rw [ext0k], by omega, by rw [trm, if_pos c] at hm; exact hm⟩
        have fin2 : ((G.extract 0 (k + 1)).extract 0 k).size < (G.extract 0 (k + 1)).size := by rw [ext0k, hxz, ByteArray.size_extract]; omega
        have FIN := hidden fin
        have FIN2 := hidden fin2
        rw [c] at hat
        clear fin fin2 HV0 HV1 hm c
        generalize G.extract 0 (k + 1) = X at *
        have hat := hat (by omega)
        go_wp2
        exact ⟨FIN.out, FIN2.out⟩
      · rw [trm, if_neg c] at hm
        have hV : V = (((⟨#[]⟩ : ByteArray) ++ D) ++ ⟨#[46]⟩) ++ G.extract 0 (k + 1) := by rw [hm]; exact HV1.out (by omega)
        have HVV := hidden hV
        clear HV0 HV1 hm hV
        have hne : (G.extract 0 (k + 1)).toList.isEmpty = false := by
          have := nonempty_nil (G.extract 0 (k + 1)) (by omega)
          simpa using this
        generalize G.extract 0 (k + 1) = X at *
        have hat := hat (by omega)
        generalize bt G k = B at *
        go_wp2
        go_ret
        exact ⟨by rw [HVV.out]; rfl, hb⟩

set_option maxHeartbeats 4000000 in
set_option maxRecDepth 100000 in
theorem rsecs_neg (n : Nat) (S : Int) (w : World) (hn : n ≤ 9223372036854775808) (hp0 : 0 < n) (hSe : S = -(n : Int)) :
    Calls Tryd.prog 17 #[.int .i64 S] w fun e w' => e = .returned (.string (secT true n)) ∧ Below w.heap.size w w' := by
  have k1 := rdec_any (n / 1000) 1 w (by omega) (by omega)
  rw [dcm1 _ (by omega)] at k1
  have k2 := fun w => rdec_any (n % 1000) 3 w (by omega) (by omega)
  rw [dcm3 _ (by omega)] at k2
  have hz := dd_len (n / 1000) (by omega)
  have ht := trm_p3 (n % 1000) (by omega)
  have HV0 : Hid (trm (mk (p3 (n % 1000))) 3 = 0 → secT true n = (⟨#[45]⟩ : ByteArray) ++ mk (decDigits (n / 1000))) := fun e => by unfold secT; rw [if_pos (ht.1 e)]; rfl
  have HV1 : Hid (¬ trm (mk (p3 (n % 1000))) 3 = 0 → secT true n = (((⟨#[45]⟩ : ByteArray) ++ mk (decDigits (n / 1000))) ++ ⟨#[46]⟩) ++ (mk (p3 (n % 1000))).extract 0 (trm (mk (p3 (n % 1000))) 3)) := fun e => by unfold secT; rw [if_neg (fun q => e (ht.2 q))]; rfl
  generalize secT true n = V at *
  have zD : (mk (decDigits (n / 1000))).size ≤ 20 := by rw [mk_size]; exact hz
  have zG : (mk (p3 (n % 1000))).size = 3 := rfl
  clear ht hz
  generalize mk (p3 (n % 1000)) = G at *
  generalize mk (decDigits (n / 1000)) = D at *
  obtain ⟨X, hX⟩ : ∃ X : Int, X = 18446744073709551616 - (n : Int) := ⟨_, rfl⟩
  have wu : IntKind.u64.wrap S = X := by rw [IntKind.wrap_u64]; omega
  have wx : IntKind.u64.wrap (-X) = (n : Int) := by rw [IntKind.wrap_u64]; omega
  have hn0 : S < 0 := by omega
  have t1 : (n : Int).tdiv 1000 = ((n / 1000 : Nat) : Int) := by rw [Int.tdiv_eq_ediv_of_nonneg (by omega)]; omega
  have t2 : (n : Int).tmod 1000 = ((n % 1000 : Nat) : Int) := by rw [Int.tmod_eq_emod_of_nonneg (by omega)]; omega
  have v1 : (0 : Int) ≤ ((n % 1000 : Nat) : Int) := by omega
  have v2 : ((n % 1000 : Nat) : Int) < 1000 := by omega
  have v3 : (0 : Int) ≤ ((n / 1000 : Nat) : Int) := by omega
  have v4 : ((n / 1000 : Nat) : Int) < 18446744073709551616 := by omega
  clear hn hp0 hSe hX
  generalize ((n % 1000 : Nat) : Int) = R at *
  generalize ((n / 1000 : Nat) : Int) = Q at *
  generalize (n : Int) = N at *
  go_enter Tryd.func17, Tryd.ntmps17
  go_wp2_with fail
  go_fit k1
  rintro e w3 ⟨rfl, b3⟩
  go_wp2_with fail
  go_fit (k2 _)
  rintro e w4 ⟨rfl, b4⟩
  have hb := b3.trans (b4.mono b3.size)
  clear b3 b4
  go_wp2_with fail
  go_loop [5] (fun t => ∃ (k : Nat), t = .string (G.extract 0 k) ∧ k ≤ 3 ∧ trm G k = trm G 3) (fun t => match t with | .string X => X.size | _ => 0)
  case atStart => exact ⟨3, by rw [show G.extract 0 3 = G by rw [← zG]; exact ByteArray.extract_zero_size], Nat.le_refl _, rfl⟩
  case round =>
    obtain ⟨k, rfl, hk, hm⟩ := hrel
    have hxz : (G.extract 0 k).size = k := by rw [ByteArray.size_extract]; omega
    cases k with
    | zero =>
      have hV : V = (⟨#[45]⟩ : ByteArray) ++ D := HV0.out (by rw [← hm]; rfl)
      have hX : G.extract 0 0 = ⟨#[]⟩ := ByteArray.size_eq_zero_iff.1 hxz
      rw [hX]
      have HVV := hidden hV
      clear HV0 HV1 hm hX hxz hV
      go_wp2
      go_ret
      exact ⟨by rw [HVV.out]; rfl, hb⟩
    | succ k =>
      have hat : ∀ h, (((G.extract 0 (k + 1))[k]'h).toNat : Int) = bt G k := fun h => by
        have := bt_at (G.extract 0 (k + 1)) k h
        rwa [bt_ext0 G (k + 1) k (by omega) (by omega)] at this
      by_cases c : bt G k = 48
      · have fin : ∃ k', Value.string ((G.extract 0 (k + 1)).extract 0 k) = .string (G.extract 0 k') ∧ k' ≤ 3 ∧ trm G k' = trm G 3 := ⟨k, by rw [ext0k], by omega, by rw [trm, if_pos c] at hm; exact hm⟩
        have fin2 : ((G.extract 0 (k + 1)).extract 0 k).size < (G.extract 0 (k + 1)).size := by rw [ext0k, hxz, ByteArray.size_extract]; omega
        have FIN := hidden fin
        have FIN2 := hidden fin2
        rw [c] at hat
        clear fin fin2 HV0 HV1 hm c
        generalize G.extract 0 (k + 1) = X at *
        have hat := hat (by omega)
        go_wp2
        exact ⟨FIN.out, FIN2.out⟩
      · rw [trm, if_neg c] at hm
        have hV : V = (((⟨#[45]⟩ : ByteArray) ++ D) ++ ⟨#[46]⟩) ++ G.extract 0 (k + 1) := by rw [hm]; exact HV1.out (by omega)
        have HVV := hidden hV
        clear HV0 HV1 hm hV
        have hne : (G.extract 0 (k + 1)).toList.isEmpty = false := by
          have := nonempty_nil (G.extract 0 (k + 1)) (by omega)
          simpa using this
        generalize G.extract 0 (k + 1) = X at *
        have hat := hat (by omega)
        generalize bt G k = B at *
        go_wp2
        go_ret
        exact ⟨by rw [HVV.out]; rfl, hb⟩
end Go.Proofs.YtmfeckpcnofkhabDoor
