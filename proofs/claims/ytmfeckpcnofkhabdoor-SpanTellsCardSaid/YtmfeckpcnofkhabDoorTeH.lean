/- SpanTells: both sides at every number of ms. -/
import Derived.Test.YtmfeckpcnofkhabDoorTeB
import Derived.Test.YtmfeckpcnofkhabDoorTeC
import Derived.Test.YtmfeckpcnofkhabDoorTeE
import Derived.Test.YtmfeckpcnofkhabDoorTeF
import Derived.Test.YtmfeckpcnofkhabDoorTeG
import Derived.Test.YtmfeckpcnofkhabDoorRoA
import Derived.Test.YtmfeckpcnofkhabDoorRoB
namespace Go.Proofs.YtmfeckpcnofkhabDoor
open Go.RowKit Go.Lib

theorem text_first : mk (tx 31622400000 7) = ⟨#[49, 121, 49, 100]⟩ := by
  simp [tx, rm, uN, uL, dd1]
theorem secs_first : secT false 1500 = ⟨#[49, 46, 53]⟩ := by
  unfold secT
  rw [if_neg (by decide), show 1500 / 1000 = 1 from rfl, dd1 1 (by omega)]
  decide +kernel
theorem civ_first : CivR 0 0 0 4 135140 370 1 := ⟨by omega, by omega, by omega, by omega, by omega, by omega, by omega, by omega, by decide, by decide, by omega, by omega, by decide, by decide⟩

theorem tells_any (ms : Int) (w : World) (hU : Units w) (hT : Tab w) (i0 : -9223372036854775808 ≤ ms) (i1 : ms ≤ 9223372036854775807) : Calls Tryd.prog 5 #[.int .i64 ms] w fun e w' => e = .returned (.bool true) ∧ Below w.heap.size w w' := by
  have k1 : ∀ w, Units w → Tab w → Calls Tryd.prog 7 #[.int .i64 31622400000] w fun e w' => e = .returned (.tuple #[.string ⟨#[49, 121, 49, 100]⟩, .int .i64 0]) ∧ Below w.heap.size w w' := fun w hU hT => by
    have := text_any 31622400000 (by omega) (by omega) w hU hT
    rwa [text_first] at this
  have k2 : ∀ w, Tab w → Calls Tryd.prog 11 #[.int .i64 1500] w fun e w' => e = .returned (.string ⟨#[49, 46, 53]⟩) ∧ Below w.heap.size w w' := fun w hT => by
    have := secs_pos 1500 w hT (by omega)
    rwa [secs_first] at this
  have k3 : ∀ w, Units w → Calls Tryd.prog 10 #[.int .i64 0] w fun e w' => e = .returned (ag 1970 1 1 0 0 0 0 4 1 31) ∧ Below w.heap.size w w' := fun w hU => civil_any 0 0 0 4 135140 370 1 civ_first w hU (by omega) (by omega)
  obtain ⟨T, eT, kT, kT'⟩ : ∃ (T : ByteArray) (eT : Int), (∀ w, Units w → Tab w → Calls Tryd.prog 7 #[.int .i64 ms] w fun e w' => e = .returned (.tuple #[.string T, .int .i64 eT]) ∧ Below w.heap.size w w') ∧
      (∀ w, Calls Tryd.prog 15 #[.int .i64 ms] w fun e w' => e = .returned (.tuple #[.string T, .int .i64 eT]) ∧ Below w.heap.size w w') := by
    by_cases c : ms < 0 ∨ 315360000000000 < ms
    · exact ⟨⟨#[]⟩, 2, fun w _ _ => text_arg ms w c, fun w => rtext_arg ms w c⟩
    by_cases z : ms = 0
    · subst z
      exact ⟨⟨#[48, 115]⟩, 0, fun w _ _ => text_zero w, fun w => rtext_zero w⟩
    obtain ⟨n, rfl⟩ : ∃ n : Nat, ms = (n : Int) := ⟨ms.toNat, by omega⟩
    exact ⟨mk (tx n 7), 0, fun w hU hT => text_any n (by omega) (by omega) w hU hT, fun w => rtext_any n (by omega) (by omega) w⟩
  obtain ⟨S, kS, kS'⟩ : ∃ S : ByteArray, (∀ w, Tab w → Calls Tryd.prog 11 #[.int .i64 ms] w fun e w' => e = .returned (.string S) ∧ Below w.heap.size w w') ∧ (∀ w, Calls Tryd.prog 17 #[.int .i64 ms] w fun e w' => e = .returned (.string S) ∧ Below w.heap.size w w') := by
    by_cases c : ms < 0
    · obtain ⟨n, hn⟩ : ∃ n : Nat, ms = -(n : Int) := ⟨ms.natAbs, by omega⟩
      exact ⟨secT true n, fun w hT => secs_neg n ms w hT (by omega) (by omega) hn, fun w => rsecs_neg n ms w (by omega) (by omega) hn⟩
    · obtain ⟨n, rfl⟩ : ∃ n : Nat, ms = (n : Int) := ⟨ms.toNat, by omega⟩
      exact ⟨secT false n, fun w hT => secs_pos n w hT (by omega), fun w => rsecs_pos n w (by omega)⟩
  obtain ⟨days, rest, cyc, inC, y, m, H⟩ := civR_ex ms
  have kC := fun w hU => civil_any ms days rest cyc inC y m H w hU i0 i1
  have kC' := fun w => rcivil_any ms days rest cyc inC y m H w i0 i1
  by_cases c : ms < -62167219200000 ∨ 253402300799999 < ms
  · unfold civV at kC kC'
    exact tells_walk ms eT 33 _ _ _ _ _ _ _ _ _ _ 1970 1 1 0 0 0 0 1 31 T ⟨#[]⟩ S w hU hT k1 k2 k3 kT kT' (fun w _ _ => date_out ms w c) (fun w => rdate_out ms w c) kS kS' kC kC'
  · have j0 : -62167219200000 ≤ ms := by omega
    have j1 : ms ≤ 253402300799999 := by omega
    obtain ⟨Y, M, D, h, mi, s, ml, x1, x2, x3, hvv, P⟩ := parts_of H j0 j1
    have hmd := md_bd (Y : Int) (M : Int)
    have pd2 := P.pd.2
    have pm2 := P.pm.2
    rw [hvv] at kC kC'
    have kD := fun w hU hT => date_walk ms Y M D h mi s ml x1 x2 x3 w hU hT j0 j1 (by have := P.py; omega) (by omega) (by omega) (by have := P.ph; omega) (by have := P.pmi; omega) (by have := P.ps; omega) P.pml kC
    have kD' := fun w => rdate_walk ms Y M D h mi s ml x1 x2 x3 w j0 j1 (by have := P.py; omega) (by omega) (by omega) (by have := P.ph; omega) (by have := P.pmi; omega) (by have := P.ps; omega) P.pml kC'
    exact tells_walk ms eT 0 _ _ _ _ _ _ _ _ _ _ 1970 1 1 0 0 0 0 1 31 T _ S w hU hT k1 k2 k3 kT kT' kD kD' kS kS' kC kC'
end Go.Proofs.YtmfeckpcnofkhabDoor
