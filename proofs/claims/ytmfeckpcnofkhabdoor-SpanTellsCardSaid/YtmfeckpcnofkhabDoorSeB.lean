/- The walk of Seconds. -/
import Derived.Test.YtmfeckpcnofkhabDoorSeA
import Derived.Test.YtmfeckpcnofkhabDoorStA
import Derived.Laws.Bits64
namespace Go.Proofs.YtmfeckpcnofkhabDoor
open Go.RowKit Go.Lib

/-- The fraction's digits, no noughts at their end. -/
def fr3 (r : Nat) : ByteArray := (mk (p3 r)).extract 0 (trm (mk (p3 r)) (mk (p3 r)).size)
/-- The text of a number of ms, in seconds. -/
def secT (ng : Bool) (n : Nat) : ByteArray :=
  if n % 1000 = 0 then (if ng then ⟨#[45]⟩ else ⟨#[]⟩) ++ mk (decDigits (n / 1000)) else (((if ng then ⟨#[45]⟩ else ⟨#[]⟩) ++ mk (decDigits (n / 1000))) ++ ⟨#[46]⟩) ++ fr3 (n % 1000)

theorem dd_len (u : Nat) (h : u < 18446744073709551616) : (decDigits u).length ≤ 20 := by
  rw [decDigits_length]
  by_cases h0 : u = 0
  · subst h0
    rw [nDigits, dif_pos (by omega)]
    omega
  · have := numDigits_eq u (by omega) h
    split at this <;> omega

set_option maxHeartbeats 2000000 in
set_option maxRecDepth 100000 in
theorem secs_pos (n : Nat) (w : World) (hT : Tab w) (hn : n ≤ 9223372036854775807) :
    Calls Tryd.prog 11 #[.int .i64 n] w fun e w' => e = .returned (.string (secT false n)) ∧ Below w.heap.size w w' := by
  have k1 := fu_any (n / 1000) w hT (by omega)
  have hp := pad3 (n % 1000) (by omega)
  have k2 := fun w' hb => padded_any (n % 1000) 3 (p3 (n % 1000)) w' (hT.below hb) (by omega) (by omega) hp.1 hp.2
  have k3 := fun w => trimRight_any (mk (p3 (n % 1000))) w (by rw [mk_size]; show 3 ≤ _; omega)
  have HK2 : Hid (∀ w', Below w.heap.size w w' → Calls Tryd.prog 30 #[.int .i64 (n % 1000 : Nat), .int .i64 3] w' fun e w'' => e = .returned (.string (mk (p3 (n % 1000)))) ∧ Below w'.heap.size w' w'') := k2
  have hz := dd_len (n / 1000) (by omega)
  have HV0 : Hid (n % 1000 = 0 → secT false n = (⟨#[]⟩ : ByteArray) ++ mk (decDigits (n / 1000))) := fun e => by unfold secT; rw [if_pos e]; rfl
  have HV1 : Hid (¬ n % 1000 = 0 → secT false n = (((⟨#[]⟩ : ByteArray) ++ mk (decDigits (n / 1000))) ++ ⟨#[46]⟩) ++ (mk (p3 (n % 1000))).extract 0 (trm (mk (p3 (n % 1000))) (mk (p3 (n % 1000))).size)) := fun e => by unfold secT; rw [if_neg e]; rfl
  generalize secT false n = V at *
  have zD : (mk (decDigits (n / 1000))).size ≤ 20 := by rw [mk_size]; exact hz
  have zF : ((mk (p3 (n % 1000))).extract 0 (trm (mk (p3 (n % 1000))) (mk (p3 (n % 1000))).size)).size ≤ 3 := by
    rw [ByteArray.size_extract]
    have : (mk (p3 (n % 1000))).size = 3 := rfl
    omega
  generalize (mk (p3 (n % 1000))).extract 0 (trm (mk (p3 (n % 1000))) (mk (p3 (n % 1000))).size) = F at *
  generalize mk (p3 (n % 1000)) = G at *
  generalize mk (decDigits (n / 1000)) = D at *
  have wu : IntKind.u64.wrap (n : Int) = (n : Int) := by rw [IntKind.wrap_u64]; omega
  have t1 : (n : Int).tdiv 1000 = ((n / 1000 : Nat) : Int) := by rw [Int.tdiv_eq_ediv_of_nonneg (by omega)]; omega
  have t2 : (n : Int).tmod 1000 = ((n % 1000 : Nat) : Int) := by rw [Int.tmod_eq_emod_of_nonneg (by omega)]; omega
  have w1 : IntKind.u64.wrap ((n / 1000 : Nat) : Int) = ((n / 1000 : Nat) : Int) := by rw [IntKind.wrap_u64]; omega
  have w2 : IntKind.i64.wrap ((n % 1000 : Nat) : Int) = ((n % 1000 : Nat) : Int) := wrI _ (by omega) (by omega)
  have hn0 : ¬ (n : Int) < 0 := by omega
  have hR : n % 1000 = 0 ↔ ((n % 1000 : Nat) : Int) = 0 := by omega
  have HR : Hid (n % 1000 = 0 ↔ ((n % 1000 : Nat) : Int) = 0) := hR
  have v1 : (0 : Int) ≤ ((n % 1000 : Nat) : Int) := by omega
  have v2 : ((n % 1000 : Nat) : Int) < 1000 := by omega
  have v3 : (0 : Int) ≤ ((n / 1000 : Nat) : Int) := by omega
  clear hT hp k2 hz hR hn
  by_cases hr : n % 1000 = 0
  · have hrb : (((n % 1000 : Nat) : Int) == 0) = true := by rw [beq_iff_eq]; exact HR.out.1 hr
    have HE := HV0.out hr
    have HE' : Hid (V = (⟨#[]⟩ : ByteArray) ++ D) := HE
    clear HE hr HV0 HV1
    generalize ((n % 1000 : Nat) : Int) = R at *
    generalize ((n / 1000 : Nat) : Int) = Q at *
    generalize (n : Int) = N at *
    go_enter Tryd.func11, Tryd.ntmps11
    go_wp2_with fail
    go_fit k1
    rintro e w3 ⟨rfl, b3⟩
    go_wp2
    go_ret
    exact ⟨by rw [HE'.out]; rfl, b3⟩
  · have hrb : (((n % 1000 : Nat) : Int) == 0) = false := by rw [beq_eq_false_iff_ne]; exact fun q => hr (HR.out.2 q)
    have HE := HV1.out hr
    have HE' : Hid (V = (((⟨#[]⟩ : ByteArray) ++ D) ++ ⟨#[46]⟩) ++ F) := HE
    clear HE hr HV0 HV1
    generalize ((n % 1000 : Nat) : Int) = R at *
    generalize ((n / 1000 : Nat) : Int) = Q at *
    generalize (n : Int) = N at *
    go_enter Tryd.func11, Tryd.ntmps11
    go_wp2_with fail
    go_fit k1
    rintro e w3 ⟨rfl, b3⟩
    have k2 := HK2.out w3 b3
    go_wp2_with fail
    go_fit k2
    rintro e w4 ⟨rfl, b4⟩
    go_wp2_with fail
    go_fit (k3 _)
    rintro e w5 ⟨rfl, rfl⟩
    go_wp2
    go_ret
    exact ⟨by rw [HE'.out]; rfl, b3.trans (b4.mono b3.size)⟩
set_option maxHeartbeats 2000000 in
set_option maxRecDepth 100000 in
theorem secs_neg (n : Nat) (S : Int) (w : World) (hT : Tab w) (hn : n ≤ 9223372036854775808) (hp0 : 0 < n) (hSe : S = -(n : Int)) :
    Calls Tryd.prog 11 #[.int .i64 S] w fun e w' => e = .returned (.string (secT true n)) ∧ Below w.heap.size w w' := by
  have k1 := fu_any (n / 1000) w hT (by omega)
  have hp := pad3 (n % 1000) (by omega)
  have k2 := fun w' hb => padded_any (n % 1000) 3 (p3 (n % 1000)) w' (hT.below hb) (by omega) (by omega) hp.1 hp.2
  have k3 := fun w => trimRight_any (mk (p3 (n % 1000))) w (by rw [mk_size]; show 3 ≤ _; omega)
  have HK2 : Hid (∀ w', Below w.heap.size w w' → Calls Tryd.prog 30 #[.int .i64 (n % 1000 : Nat), .int .i64 3] w' fun e w'' => e = .returned (.string (mk (p3 (n % 1000)))) ∧ Below w'.heap.size w' w'') := k2
  have hz := dd_len (n / 1000) (by omega)
  have HV0 : Hid (n % 1000 = 0 → secT true n = (⟨#[45]⟩ : ByteArray) ++ mk (decDigits (n / 1000))) := fun e => by unfold secT; rw [if_pos e]; rfl
  have HV1 : Hid (¬ n % 1000 = 0 → secT true n = (((⟨#[45]⟩ : ByteArray) ++ mk (decDigits (n / 1000))) ++ ⟨#[46]⟩) ++ (mk (p3 (n % 1000))).extract 0 (trm (mk (p3 (n % 1000))) (mk (p3 (n % 1000))).size)) := fun e => by unfold secT; rw [if_neg e]; rfl
  generalize secT true n = V at *
  have zD : (mk (decDigits (n / 1000))).size ≤ 20 := by rw [mk_size]; exact hz
  have zF : ((mk (p3 (n % 1000))).extract 0 (trm (mk (p3 (n % 1000))) (mk (p3 (n % 1000))).size)).size ≤ 3 := by
    rw [ByteArray.size_extract]
    have : (mk (p3 (n % 1000))).size = 3 := rfl
    omega
  generalize (mk (p3 (n % 1000))).extract 0 (trm (mk (p3 (n % 1000))) (mk (p3 (n % 1000))).size) = F at *
  generalize mk (p3 (n % 1000)) = G at *
  generalize mk (decDigits (n / 1000)) = D at *
  obtain ⟨X, hX⟩ : ∃ X : Int, X = 18446744073709551616 - (n : Int) := ⟨_, rfl⟩
  have wu : IntKind.u64.wrap S = X := by rw [IntKind.wrap_u64]; omega
  have wx : IntKind.u64.wrap (-X) = (n : Int) := by rw [IntKind.wrap_u64]; omega
  have t1 : (n : Int).tdiv 1000 = ((n / 1000 : Nat) : Int) := by rw [Int.tdiv_eq_ediv_of_nonneg (by omega)]; omega
  have t2 : (n : Int).tmod 1000 = ((n % 1000 : Nat) : Int) := by rw [Int.tmod_eq_emod_of_nonneg (by omega)]; omega
  have w1 : IntKind.u64.wrap ((n / 1000 : Nat) : Int) = ((n / 1000 : Nat) : Int) := by rw [IntKind.wrap_u64]; omega
  have w2 : IntKind.i64.wrap ((n % 1000 : Nat) : Int) = ((n % 1000 : Nat) : Int) := wrI _ (by omega) (by omega)
  have hn0 : S < 0 := by omega
  have hR : n % 1000 = 0 ↔ ((n % 1000 : Nat) : Int) = 0 := by omega
  have HR : Hid (n % 1000 = 0 ↔ ((n % 1000 : Nat) : Int) = 0) := hR
  have v1 : (0 : Int) ≤ ((n % 1000 : Nat) : Int) := by omega
  have v2 : ((n % 1000 : Nat) : Int) < 1000 := by omega
  have v3 : (0 : Int) ≤ ((n / 1000 : Nat) : Int) := by omega
  clear hT hp k2 hz hR hn hp0 hSe hX
  by_cases hr : n % 1000 = 0
  · have hrb : (((n % 1000 : Nat) : Int) == 0) = true := by rw [beq_iff_eq]; exact HR.out.1 hr
    have HE := HV0.out hr
    have HE' : Hid (V = (⟨#[45]⟩ : ByteArray) ++ D) := HE
    clear HE hr HV0 HV1
    generalize ((n % 1000 : Nat) : Int) = R at *
    generalize ((n / 1000 : Nat) : Int) = Q at *
    generalize (n : Int) = N at *
    go_enter Tryd.func11, Tryd.ntmps11
    go_wp2_with fail
    go_fit k1
    rintro e w3 ⟨rfl, b3⟩
    go_wp2
    go_ret
    exact ⟨by rw [HE'.out]; rfl, b3⟩
  · have hrb : (((n % 1000 : Nat) : Int) == 0) = false := by rw [beq_eq_false_iff_ne]; exact fun q => hr (HR.out.2 q)
    have HE := HV1.out hr
    have HE' : Hid (V = (((⟨#[45]⟩ : ByteArray) ++ D) ++ ⟨#[46]⟩) ++ F) := HE
    clear HE hr HV0 HV1
    generalize ((n % 1000 : Nat) : Int) = R at *
    generalize ((n / 1000 : Nat) : Int) = Q at *
    generalize (n : Int) = N at *
    go_enter Tryd.func11, Tryd.ntmps11
    go_wp2_with fail
    go_fit k1
    rintro e w3 ⟨rfl, b3⟩
    have k2 := HK2.out w3 b3
    go_wp2_with fail
    go_fit k2
    rintro e w4 ⟨rfl, b4⟩
    go_wp2_with fail
    go_fit (k3 _)
    rintro e w5 ⟨rfl, rfl⟩
    go_wp2
    go_ret
    exact ⟨by rw [HE'.out]; rfl, b3.trans (b4.mono b3.size)⟩
end Go.Proofs.YtmfeckpcnofkhabDoor
