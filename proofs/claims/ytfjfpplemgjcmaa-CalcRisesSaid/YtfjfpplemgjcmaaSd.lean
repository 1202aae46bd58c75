/- Spread on both sides; CalcSums: the law's walk. -/
import Derived.Test.YtfjfpplemgjcmaaVa
import Derived.Test.YtfjfpplemgjcmaaSq
import Derived.Test.YtfjfpplemgjcmaaSl
namespace Go.Proofs.Ytfjfpplemgjcmaa
open Go.RowKit

def sprF (xs : List Nat) : Option Nat := fsq (varF xs)
set_option maxHeartbeats 400000 in
theorem spread_any (a : Option Addr) (c : Nat) (xs : List Nat) (w : World) (hf : Fm w a xs) (hw : Wd xs) (hl : 8 * xs.length ≤ 140737488355328) :
    Calls Try.prog 25 #[.slice a xs.length c] w (RB w (sprF xs)) := by
  have kV := variance_any a c xs w hf hw hl
  go_enter Try.func25, Try.ntmps25
  go_wp2_with fail
  go_fit kV
  rintro r w1 ⟨z, rfl, hb, hz, hc⟩
  have kQ := sqrt_any z w1
  go_wp2_with fail
  go_fit kQ
  rintro r w2 ⟨z2, k2, rfl, rfl, hz2, hc2⟩
  have HC : Hid (cl z2 = sprF xs) := by
    show _ = _
    rw [hc2, hc]; rfl
  clear hc hc2
  go_wp2
  go_ret
  exact ⟨_, rfl, below_drewN hb _, hz2, HC.out⟩
set_option maxHeartbeats 400000 in
theorem rspread_any (a : Option Addr) (c : Nat) (xs : List Nat) (w : World) (hf : Fm w a xs) (hw : Wd xs) (hl : 8 * xs.length ≤ 140737488355328) :
    Calls Try.prog 23 #[.slice a xs.length c] w (RB w (sprF xs)) := by
  have kV := rvariance_any a c xs w hf hw hl
  go_enter Try.func23, Try.ntmps23
  go_wp2_with fail
  go_fit kV
  rintro r w1 ⟨z, rfl, hb, hz, hc⟩
  have kQ := sqrt_any z w1
  go_wp2_with fail
  go_fit kQ
  rintro r w2 ⟨z2, k2, rfl, rfl, hz2, hc2⟩
  have HC : Hid (cl z2 = sprF xs) := by
    show _ = _
    rw [hc2, hc]; rfl
  clear hc hc2
  go_wp2
  go_ret
  exact ⟨_, rfl, below_drewN hb _, hz2, HC.out⟩
end Go.Proofs.Ytfjfpplemgjcmaa
