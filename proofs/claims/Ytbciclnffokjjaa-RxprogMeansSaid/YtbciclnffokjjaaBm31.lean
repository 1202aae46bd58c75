/- A bundle of texts. -/
import Derived.Test.YtbciclnffokjjaaBm30
/- The reference's validity: bare. -/
namespace Go.Proofs.Ytbciclnffokjjaa
open Go.RowKit

def bareB (d : Nd) : Bool := ((d.kind == 3 || (d.rn : Int) == 0) && ((d.kind == 4 || d.kind == 5 || d.kind == 6 || d.kind == 7) || (d.kn : Int) == 0)) && ((d.kind == 2 || d.r == 0) && (d.kind == 6 || (d.mn == 0 && d.mx == 0 && !d.lz)) && (d.kind == 7 || (d.cp == 0 && d.nm.toList.isEmpty)))
set_option maxHeartbeats 20000000 in
set_option maxRecDepth 100000 in
theorem bare_3 (r : Int) (ra : Option Addr) (rn rc : Nat) (rf : Nat → Rg) (mn mx : Int) (lz : Bool) (cp : Int) (nm : ByteArray) (ka : Option Addr) (kn kc : Nat) (w : World) :
    Calls Try.prog 52 #[rxV 3 r ra rn rc mn mx lz cp nm ka kn kc] w fun e w' => e = .returned (.bool (bareB ⟨3, r, ra, rn, rc, rf, mn, mx, lz, cp, nm, ka, kn, kc⟩)) ∧ w' = w.alloc (rxX 3 r ra rn rc mn mx lz cp nm ka kn kc) := by
  have HE : Hid (∀ lz, bareB ⟨3, r, ra, rn, rc, rf, mn, mx, lz, cp, nm, ka, kn, kc⟩ = ((((3 : Int) == 3 || (rn : Int) == 0) && (((3 : Int) == 4 || (3 : Int) == 5 || (3 : Int) == 6 || (3 : Int) == 7) || (kn : Int) == 0)) && (((3 : Int) == 2 || r == 0) && ((3 : Int) == 6 || (mn == 0 && mx == 0 && !lz)) && ((3 : Int) == 7 || (cp == 0 && nm.toList.isEmpty))))) := fun _ => rfl
  cases hkn : ((kn : Int) == 0)
  · cases hr : (r == 0)
    · go_enter Try.func52, Try.ntmps52
      go_wp2
      go_ret
      exact ⟨ret_bool (by rw [HE.out]; simp [hkn, hr]), rfl⟩
    cases hmn : (mn == 0)
    · go_enter Try.func52, Try.ntmps52
      go_wp2
      go_ret
      exact ⟨ret_bool (by rw [HE.out]; simp [hkn, hr, hmn]), rfl⟩
    cases hmx : (mx == 0)
    · go_enter Try.func52, Try.ntmps52
      go_wp2
      go_ret
      exact ⟨ret_bool (by rw [HE.out]; simp [hkn, hr, hmn, hmx]), rfl⟩
    cases lz
    rotate_left
    · go_enter Try.func52, Try.ntmps52
      go_wp2
      go_ret
      exact ⟨ret_bool (by rw [HE.out]; simp [hkn, hr, hmn, hmx]), rfl⟩
    cases hcp : (cp == 0)
    · go_enter Try.func52, Try.ntmps52
      go_wp2
      go_ret
      exact ⟨ret_bool (by rw [HE.out]; simp [hkn, hr, hmn, hmx, hcp]), rfl⟩
    cases hnm : nm.toList.isEmpty
    · go_enter Try.func52, Try.ntmps52
      go_wp2
      go_ret
      exact ⟨ret_bool (by rw [HE.out]; simp [hkn, hr, hmn, hmx, hcp, hnm]), rfl⟩
    go_enter Try.func52, Try.ntmps52
    go_wp2
    go_ret
    exact ⟨ret_bool (by rw [HE.out]; simp [hkn, hr, hmn, hmx, hcp, hnm]), rfl⟩
  cases hr : (r == 0)
  · go_enter Try.func52, Try.ntmps52
    go_wp2
    go_ret
    exact ⟨ret_bool (by rw [HE.out]; simp [hkn, hr]), rfl⟩
  cases hmn : (mn == 0)
  · go_enter Try.func52, Try.ntmps52
    go_wp2
    go_ret
    exact ⟨ret_bool (by rw [HE.out]; simp [hkn, hr, hmn]), rfl⟩
  cases hmx : (mx == 0)
  · go_enter Try.func52, Try.ntmps52
    go_wp2
    go_ret
    exact ⟨ret_bool (by rw [HE.out]; simp [hkn, hr, hmn, hmx]), rfl⟩
  cases lz
  rotate_left
  · go_enter Try.func52, Try.ntmps52
    go_wp2
    go_ret
    exact ⟨ret_bool (by rw [HE.out]; simp [hkn, hr, hmn, hmx]), rfl⟩
  cases hcp : (cp == 0)
  · go_enter Try.func52, Try.ntmps52
    go_wp2
    go_ret
    exact ⟨ret_bool (by rw [HE.out]; simp [hkn, hr, hmn, hmx, hcp]), rfl⟩
  cases hnm : nm.toList.isEmpty
  · go_enter Try.func52, Try.ntmps52
    go_wp2
    go_ret
    exact ⟨ret_bool (by rw [HE.out]; simp [hkn, hr, hmn, hmx, hcp, hnm]), rfl⟩
  go_enter Try.func52, Try.ntmps52
  go_wp2
  go_ret
  exact ⟨ret_bool (by rw [HE.out]; simp [hkn, hr, hmn, hmx, hcp, hnm]), rfl⟩
end Go.Proofs.Ytbciclnffokjjaa
/- The reference's validity: bare. -/
namespace Go.Proofs.Ytbciclnffokjjaa
open Go.RowKit

set_option maxHeartbeats 20000000 in
set_option maxRecDepth 100000 in
theorem bare_2 (r : Int) (ra : Option Addr) (rn rc : Nat) (rf : Nat → Rg) (mn mx : Int) (lz : Bool) (cp : Int) (nm : ByteArray) (ka : Option Addr) (kn kc : Nat) (w : World) :
    Calls Try.prog 52 #[rxV 2 r ra rn rc mn mx lz cp nm ka kn kc] w fun e w' => e = .returned (.bool (bareB ⟨2, r, ra, rn, rc, rf, mn, mx, lz, cp, nm, ka, kn, kc⟩)) ∧ w' = w.alloc (rxX 2 r ra rn rc mn mx lz cp nm ka kn kc) := by
  have HE : Hid (∀ lz, bareB ⟨2, r, ra, rn, rc, rf, mn, mx, lz, cp, nm, ka, kn, kc⟩ = ((((2 : Int) == 3 || (rn : Int) == 0) && (((2 : Int) == 4 || (2 : Int) == 5 || (2 : Int) == 6 || (2 : Int) == 7) || (kn : Int) == 0)) && (((2 : Int) == 2 || r == 0) && ((2 : Int) == 6 || (mn == 0 && mx == 0 && !lz)) && ((2 : Int) == 7 || (cp == 0 && nm.toList.isEmpty))))) := fun _ => rfl
  cases hrn : ((rn : Int) == 0)
  · cases hmn : (mn == 0)
    · go_enter Try.func52, Try.ntmps52
      go_wp2
      go_ret
      exact ⟨ret_bool (by rw [HE.out]; simp [hrn, hmn]), rfl⟩
    cases hmx : (mx == 0)
    · go_enter Try.func52, Try.ntmps52
      go_wp2
      go_ret
      exact ⟨ret_bool (by rw [HE.out]; simp [hrn, hmn, hmx]), rfl⟩
    cases lz
    rotate_left
    · go_enter Try.func52, Try.ntmps52
      go_wp2
      go_ret
      exact ⟨ret_bool (by rw [HE.out]; simp [hrn, hmn, hmx]), rfl⟩
    cases hcp : (cp == 0)
    · go_enter Try.func52, Try.ntmps52
      go_wp2
      go_ret
      exact ⟨ret_bool (by rw [HE.out]; simp [hrn, hmn, hmx, hcp]), rfl⟩
    cases hnm : nm.toList.isEmpty
    · go_enter Try.func52, Try.ntmps52
      go_wp2
      go_ret
      exact ⟨ret_bool (by rw [HE.out]; simp [hrn, hmn, hmx, hcp, hnm]), rfl⟩
    go_enter Try.func52, Try.ntmps52
    go_wp2
    go_ret
    exact ⟨ret_bool (by rw [HE.out]; simp [hrn, hmn, hmx, hcp, hnm]), rfl⟩
  cases hkn : ((kn : Int) == 0)
  · cases hmn : (mn == 0)
    · go_enter Try.func52, Try.ntmps52
      go_wp2
      go_ret
      exact ⟨ret_bool (by rw [HE.out]; simp [hrn, hkn, hmn]), rfl⟩
    cases hmx : (mx == 0)
    · go_enter Try.func52, Try.ntmps52
      go_wp2
      go_ret
      exact ⟨ret_bool (by rw [HE.out]; simp [hrn, hkn, hmn, hmx]), rfl⟩
    cases lz
    rotate_left
    · go_enter Try.func52, Try.ntmps52
      go_wp2
      go_ret
      exact ⟨ret_bool (by rw [HE.out]; simp [hrn, hkn, hmn, hmx]), rfl⟩
    cases hcp : (cp == 0)
    · go_enter Try.func52, Try.ntmps52
      go_wp2
      go_ret
      exact ⟨ret_bool (by rw [HE.out]; simp [hrn, hkn, hmn, hmx, hcp]), rfl⟩
    cases hnm : nm.toList.isEmpty
    · go_enter Try.func52, Try.ntmps52
      go_wp2
      go_ret
      exact ⟨ret_bool (by rw [HE.out]; simp [hrn, hkn, hmn, hmx, hcp, hnm]), rfl⟩
    go_enter Try.func52, Try.ntmps52
    go_wp2
    go_ret
    exact ⟨ret_bool (by rw [HE.out]; simp [hrn, hkn, hmn, hmx, hcp, hnm]), rfl⟩
  cases hmn : (mn == 0)
  · go_enter Try.func52, Try.ntmps52
    go_wp2
    go_ret
    exact ⟨ret_bool (by rw [HE.out]; simp [hrn, hkn, hmn]), rfl⟩
  cases hmx : (mx == 0)
  · go_enter Try.func52, Try.ntmps52
    go_wp2
    go_ret
    exact ⟨ret_bool (by rw [HE.out]; simp [hrn, hkn, hmn, hmx]), rfl⟩
  cases lz
  rotate_left
  · go_enter Try.func52, Try.ntmps52
    go_wp2
    go_ret
    exact ⟨ret_bool (by rw [HE.out]; simp [hrn, hkn, hmn, hmx]), rfl⟩
  cases hcp : (cp == 0)
  · go_enter Try.func52, Try.ntmps52
    go_wp2
    go_ret
    exact ⟨ret_bool (by rw [HE.out]; simp [hrn, hkn, hmn, hmx, hcp]), rfl⟩
  cases hnm : nm.toList.isEmpty
  · go_enter Try.func52, Try.ntmps52
    go_wp2
    go_ret
    exact ⟨ret_bool (by rw [HE.out]; simp [hrn, hkn, hmn, hmx, hcp, hnm]), rfl⟩
  go_enter Try.func52, Try.ntmps52
  go_wp2
  go_ret
  exact ⟨ret_bool (by rw [HE.out]; simp [hrn, hkn, hmn, hmx, hcp, hnm]), rfl⟩
end Go.Proofs.Ytbciclnffokjjaa
/- The reference's validity: bare. -/
namespace Go.Proofs.Ytbciclnffokjjaa
open Go.RowKit

set_option maxHeartbeats 20000000 in
set_option maxRecDepth 100000 in
theorem bare_4 (r : Int) (ra : Option Addr) (rn rc : Nat) (rf : Nat → Rg) (mn mx : Int) (lz : Bool) (cp : Int) (nm : ByteArray) (ka : Option Addr) (kn kc : Nat) (w : World) :
    Calls Try.prog 52 #[rxV 4 r ra rn rc mn mx lz cp nm ka kn kc] w fun e w' => e = .returned (.bool (bareB ⟨4, r, ra, rn, rc, rf, mn, mx, lz, cp, nm, ka, kn, kc⟩)) ∧ w' = w.alloc (rxX 4 r ra rn rc mn mx lz cp nm ka kn kc) := by
  have HE : Hid (∀ lz, bareB ⟨4, r, ra, rn, rc, rf, mn, mx, lz, cp, nm, ka, kn, kc⟩ = ((((4 : Int) == 3 || (rn : Int) == 0) && (((4 : Int) == 4 || (4 : Int) == 5 || (4 : Int) == 6 || (4 : Int) == 7) || (kn : Int) == 0)) && (((4 : Int) == 2 || r == 0) && ((4 : Int) == 6 || (mn == 0 && mx == 0 && !lz)) && ((4 : Int) == 7 || (cp == 0 && nm.toList.isEmpty))))) := fun _ => rfl
  cases hrn : ((rn : Int) == 0)
  · cases hr : (r == 0)
    · go_enter Try.func52, Try.ntmps52
      go_wp2
      go_ret
      exact ⟨ret_bool (by rw [HE.out]; simp [hrn, hr]), rfl⟩
    cases hmn : (mn == 0)
    · go_enter Try.func52, Try.ntmps52
      go_wp2
      go_ret
      exact ⟨ret_bool (by rw [HE.out]; simp [hrn, hr, hmn]), rfl⟩
    cases hmx : (mx == 0)
    · go_enter Try.func52, Try.ntmps52
      go_wp2
      go_ret
      exact ⟨ret_bool (by rw [HE.out]; simp [hrn, hr, hmn, hmx]), rfl⟩
    cases lz
    rotate_left
    · go_enter Try.func52, Try.ntmps52
      go_wp2
      go_ret
      exact ⟨ret_bool (by rw [HE.out]; simp [hrn, hr, hmn, hmx]), rfl⟩
    cases hcp : (cp == 0)
    · go_enter Try.func52, Try.ntmps52
      go_wp2
      go_ret
      exact ⟨ret_bool (by rw [HE.out]; simp [hrn, hr, hmn, hmx, hcp]), rfl⟩
    cases hnm : nm.toList.isEmpty
    · go_enter Try.func52, Try.ntmps52
      go_wp2
      go_ret
      exact ⟨ret_bool (by rw [HE.out]; simp [hrn, hr, hmn, hmx, hcp, hnm]), rfl⟩
    go_enter Try.func52, Try.ntmps52
    go_wp2
    go_ret
    exact ⟨ret_bool (by rw [HE.out]; simp [hrn, hr, hmn, hmx, hcp, hnm]), rfl⟩
  cases hr : (r == 0)
  · go_enter Try.func52, Try.ntmps52
    go_wp2
    go_ret
    exact ⟨ret_bool (by rw [HE.out]; simp [hrn, hr]), rfl⟩
  cases hmn : (mn == 0)
  · go_enter Try.func52, Try.ntmps52
    go_wp2
    go_ret
    exact ⟨ret_bool (by rw [HE.out]; simp [hrn, hr, hmn]), rfl⟩
  cases hmx : (mx == 0)
  · go_enter Try.func52, Try.ntmps52
    go_wp2
    go_ret
    exact ⟨ret_bool (by rw [HE.out]; simp [hrn, hr, hmn, hmx]), rfl⟩
  cases lz
  rotate_left
  · go_enter Try.func52, Try.ntmps52
    go_wp2
    go_ret
    exact ⟨ret_bool (by rw [HE.out]; simp [hrn, hr, hmn, hmx]), rfl⟩
  cases hcp : (cp == 0)
  · go_enter Try.func52, Try.ntmps52
    go_wp2
    go_ret
    exact ⟨ret_bool (by rw [HE.out]; simp [hrn, hr, hmn, hmx, hcp]), rfl⟩
  cases hnm : nm.toList.isEmpty
  · go_enter Try.func52, Try.ntmps52
    go_wp2
    go_ret
    exact ⟨ret_bool (by rw [HE.out]; simp [hrn, hr, hmn, hmx, hcp, hnm]), rfl⟩
  go_enter Try.func52, Try.ntmps52
  go_wp2
  go_ret
  exact ⟨ret_bool (by rw [HE.out]; simp [hrn, hr, hmn, hmx, hcp, hnm]), rfl⟩
set_option maxHeartbeats 20000000 in
set_option maxRecDepth 100000 in
theorem bare_5 (r : Int) (ra : Option Addr) (rn rc : Nat) (rf : Nat → Rg) (mn mx : Int) (lz : Bool) (cp : Int) (nm : ByteArray) (ka : Option Addr) (kn kc : Nat) (w : World) :
    Calls Try.prog 52 #[rxV 5 r ra rn rc mn mx lz cp nm ka kn kc] w fun e w' => e = .returned (.bool (bareB ⟨5, r, ra, rn, rc, rf, mn, mx, lz, cp, nm, ka, kn, kc⟩)) ∧ w' = w.alloc (rxX 5 r ra rn rc mn mx lz cp nm ka kn kc) := by
  have HE : Hid (∀ lz, bareB ⟨5, r, ra, rn, rc, rf, mn, mx, lz, cp, nm, ka, kn, kc⟩ = ((((5 : Int) == 3 || (rn : Int) == 0) && (((5 : Int) == 4 || (5 : Int) == 5 || (5 : Int) == 6 || (5 : Int) == 7) || (kn : Int) == 0)) && (((5 : Int) == 2 || r == 0) && ((5 : Int) == 6 || (mn == 0 && mx == 0 && !lz)) && ((5 : Int) == 7 || (cp == 0 && nm.toList.isEmpty))))) := fun _ => rfl
  cases hrn : ((rn : Int) == 0)
  · cases hr : (r == 0)
    · go_enter Try.func52, Try.ntmps52
      go_wp2
      go_ret
      exact ⟨ret_bool (by rw [HE.out]; simp [hrn, hr]), rfl⟩
    cases hmn : (mn == 0)
    · go_enter Try.func52, Try.ntmps52
      go_wp2
      go_ret
      exact ⟨ret_bool (by rw [HE.out]; simp [hrn, hr, hmn]), rfl⟩
    cases hmx : (mx == 0)
    · go_enter Try.func52, Try.ntmps52
      go_wp2
      go_ret
      exact ⟨ret_bool (by rw [HE.out]; simp [hrn, hr, hmn, hmx]), rfl⟩
    cases lz
    rotate_left
    · go_enter Try.func52, Try.ntmps52
      go_wp2
      go_ret
      exact ⟨ret_bool (by rw [HE.out]; simp [hrn, hr, hmn, hmx]), rfl⟩
    cases hcp : (cp == 0)
    · go_enter Try.func52, Try.ntmps52
      go_wp2
      go_ret
      exact ⟨ret_bool (by rw [HE.out]; simp [hrn, hr, hmn, hmx, hcp]), rfl⟩
    cases hnm : nm.toList.isEmpty
    · go_enter Try.func52, Try.ntmps52
      go_wp2
      go_ret
      exact ⟨ret_bool (by rw [HE.out]; simp [hrn, hr, hmn, hmx, hcp, hnm]), rfl⟩
    go_enter Try.func52, Try.ntmps52
    go_wp2
    go_ret
    exact ⟨ret_bool (by rw [HE.out]; simp [hrn, hr, hmn, hmx, hcp, hnm]), rfl⟩
  cases hr : (r == 0)
  · go_enter Try.func52, Try.ntmps52
    go_wp2
    go_ret
    exact ⟨ret_bool (by rw [HE.out]; simp [hrn, hr]), rfl⟩
  cases hmn : (mn == 0)
  · go_enter Try.func52, Try.ntmps52
    go_wp2
    go_ret
    exact ⟨ret_bool (by rw [HE.out]; simp [hrn, hr, hmn]), rfl⟩
  cases hmx : (mx == 0)
  · go_enter Try.func52, Try.ntmps52
    go_wp2
    go_ret
    exact ⟨ret_bool (by rw [HE.out]; simp [hrn, hr, hmn, hmx]), rfl⟩
  cases lz
  rotate_left
  · go_enter Try.func52, Try.ntmps52
    go_wp2
    go_ret
    exact ⟨ret_bool (by rw [HE.out]; simp [hrn, hr, hmn, hmx]), rfl⟩
  cases hcp : (cp == 0)
  · go_enter Try.func52, Try.ntmps52
    go_wp2
    go_ret
    exact ⟨ret_bool (by rw [HE.out]; simp [hrn, hr, hmn, hmx, hcp]), rfl⟩
  cases hnm : nm.toList.isEmpty
  · go_enter Try.func52, Try.ntmps52
    go_wp2
    go_ret
    exact ⟨ret_bool (by rw [HE.out]; simp [hrn, hr, hmn, hmx, hcp, hnm]), rfl⟩
  go_enter Try.func52, Try.ntmps52
  go_wp2
  go_ret
  exact ⟨ret_bool (by rw [HE.out]; simp [hrn, hr, hmn, hmx, hcp, hnm]), rfl⟩
end Go.Proofs.Ytbciclnffokjjaa
/- The reference's validity: bare. -/
namespace Go.Proofs.Ytbciclnffokjjaa
open Go.RowKit

set_option maxHeartbeats 20000000 in
set_option maxRecDepth 100000 in
theorem bare_6 (r : Int) (ra : Option Addr) (rn rc : Nat) (rf : Nat → Rg) (mn mx : Int) (lz : Bool) (cp : Int) (nm : ByteArray) (ka : Option Addr) (kn kc : Nat) (w : World) :
    Calls Try.prog 52 #[rxV 6 r ra rn rc mn mx lz cp nm ka kn kc] w fun e w' => e = .returned (.bool (bareB ⟨6, r, ra, rn, rc, rf, mn, mx, lz, cp, nm, ka, kn, kc⟩)) ∧ w' = w.alloc (rxX 6 r ra rn rc mn mx lz cp nm ka kn kc) := by
  have HE : Hid (∀ lz, bareB ⟨6, r, ra, rn, rc, rf, mn, mx, lz, cp, nm, ka, kn, kc⟩ = ((((6 : Int) == 3 || (rn : Int) == 0) && (((6 : Int) == 4 || (6 : Int) == 5 || (6 : Int) == 6 || (6 : Int) == 7) || (kn : Int) == 0)) && (((6 : Int) == 2 || r == 0) && ((6 : Int) == 6 || (mn == 0 && mx == 0 && !lz)) && ((6 : Int) == 7 || (cp == 0 && nm.toList.isEmpty))))) := fun _ => rfl
  cases hrn : ((rn : Int) == 0)
  · cases hr : (r == 0)
    · go_enter Try.func52, Try.ntmps52
      go_wp2
      go_ret
      exact ⟨ret_bool (by rw [HE.out]; simp [hrn, hr]), rfl⟩
    cases hcp : (cp == 0)
    · go_enter Try.func52, Try.ntmps52
      go_wp2
      go_ret
      exact ⟨ret_bool (by rw [HE.out]; simp [hrn, hr, hcp]), rfl⟩
    cases hnm : nm.toList.isEmpty
    · go_enter Try.func52, Try.ntmps52
      go_wp2
      go_ret
      exact ⟨ret_bool (by rw [HE.out]; simp [hrn, hr, hcp, hnm]), rfl⟩
    go_enter Try.func52, Try.ntmps52
    go_wp2
    go_ret
    exact ⟨ret_bool (by rw [HE.out]; simp [hrn, hr, hcp, hnm]), rfl⟩
  cases hr : (r == 0)
  · go_enter Try.func52, Try.ntmps52
    go_wp2
    go_ret
    exact ⟨ret_bool (by rw [HE.out]; simp [hrn, hr]), rfl⟩
  cases hcp : (cp == 0)
  · go_enter Try.func52, Try.ntmps52
    go_wp2
    go_ret
    exact ⟨ret_bool (by rw [HE.out]; simp [hrn, hr, hcp]), rfl⟩
  cases hnm : nm.toList.isEmpty
  · go_enter Try.func52, Try.ntmps52
    go_wp2
    go_ret
    exact ⟨ret_bool (by rw [HE.out]; simp [hrn, hr, hcp, hnm]), rfl⟩
  go_enter Try.func52, Try.ntmps52
  go_wp2
  go_ret
  exact ⟨ret_bool (by rw [HE.out]; simp [hrn, hr, hcp, hnm]), rfl⟩
set_option maxHeartbeats 20000000 in
set_option maxRecDepth 100000 in
theorem bare_7 (r : Int) (ra : Option Addr) (rn rc : Nat) (rf : Nat → Rg) (mn mx : Int) (lz : Bool) (cp : Int) (nm : ByteArray) (ka : Option Addr) (kn kc : Nat) (w : World) :
    Calls Try.prog 52 #[rxV 7 r ra rn rc mn mx lz cp nm ka kn kc] w fun e w' => e = .returned (.bool (bareB ⟨7, r, ra, rn, rc, rf, mn, mx, lz, cp, nm, ka, kn, kc⟩)) ∧ w' = w.alloc (rxX 7 r ra rn rc mn mx lz cp nm ka kn kc) := by
  have HE : Hid (∀ lz, bareB ⟨7, r, ra, rn, rc, rf, mn, mx, lz, cp, nm, ka, kn, kc⟩ = ((((7 : Int) == 3 || (rn : Int) == 0) && (((7 : Int) == 4 || (7 : Int) == 5 || (7 : Int) == 6 || (7 : Int) == 7) || (kn : Int) == 0)) && (((7 : Int) == 2 || r == 0) && ((7 : Int) == 6 || (mn == 0 && mx == 0 && !lz)) && ((7 : Int) == 7 || (cp == 0 && nm.toList.isEmpty))))) := fun _ => rfl
  cases hrn : ((rn : Int) == 0)
  · cases hr : (r == 0)
    · go_enter Try.func52, Try.ntmps52
      go_wp2
      go_ret
      exact ⟨ret_bool (by rw [HE.out]; simp [hrn, hr]), rfl⟩
    cases hmn : (mn == 0)
    · go_enter Try.func52, Try.ntmps52
      go_wp2
      go_ret
      exact ⟨ret_bool (by rw [HE.out]; simp [hrn, hr, hmn]), rfl⟩
    cases hmx : (mx == 0)
    · go_enter Try.func52, Try.ntmps52
      go_wp2
      go_ret
      exact ⟨ret_bool (by rw [HE.out]; simp [hrn, hr, hmn, hmx]), rfl⟩
    cases lz
    rotate_left
    · go_enter Try.func52, Try.ntmps52
      go_wp2
      go_ret
      exact ⟨ret_bool (by rw [HE.out]; simp [hrn, hr, hmn, hmx]), rfl⟩
    go_enter Try.func52, Try.ntmps52
    go_wp2
    go_ret
    exact ⟨ret_bool (by rw [HE.out]; simp [hrn, hr, hmn, hmx]), rfl⟩
  cases hr : (r == 0)
  · go_enter Try.func52, Try.ntmps52
    go_wp2
    go_ret
    exact ⟨ret_bool (by rw [HE.out]; simp [hrn, hr]), rfl⟩
  cases hmn : (mn == 0)
  · go_enter Try.func52, Try.ntmps52
    go_wp2
    go_ret
    exact ⟨ret_bool (by rw [HE.out]; simp [hrn, hr, hmn]), rfl⟩
  cases hmx : (mx == 0)
  · go_enter Try.func52, Try.ntmps52
    go_wp2
    go_ret
    exact ⟨ret_bool (by rw [HE.out]; simp [hrn, hr, hmn, hmx]), rfl⟩
  cases lz
  rotate_left
  · go_enter Try.func52, Try.ntmps52
    go_wp2
    go_ret
    exact ⟨ret_bool (by rw [HE.out]; simp [hrn, hr, hmn, hmx]), rfl⟩
  go_enter Try.func52, Try.ntmps52
  go_wp2
  go_ret
  exact ⟨ret_bool (by rw [HE.out]; simp [hrn, hr, hmn, hmx]), rfl⟩
end Go.Proofs.Ytbciclnffokjjaa
/- The reference's validity: bare. -/
namespace Go.Proofs.Ytbciclnffokjjaa
open Go.RowKit

set_option maxHeartbeats 20000000 in
set_option maxRecDepth 100000 in
theorem bare_0 (kind : Int) (r : Int) (ra : Option Addr) (rn rc : Nat) (rf : Nat → Rg) (mn mx : Int) (lz : Bool) (cp : Int) (nm : ByteArray) (ka : Option Addr) (kn kc : Nat) (w : World) (k2 : (kind == 2) = false) (k3 : (kind == 3) = false) (k4 : (kind == 4) = false) (k5 : (kind == 5) = false) (k6 : (kind == 6) = false) (k7 : (kind == 7) = false) :
    Calls Try.prog 52 #[rxV kind r ra rn rc mn mx lz cp nm ka kn kc] w fun e w' => e = .returned (.bool (bareB ⟨kind, r, ra, rn, rc, rf, mn, mx, lz, cp, nm, ka, kn, kc⟩)) ∧ w' = w.alloc (rxX kind r ra rn rc mn mx lz cp nm ka kn kc) := by
  have HE : Hid (∀ lz, bareB ⟨kind, r, ra, rn, rc, rf, mn, mx, lz, cp, nm, ka, kn, kc⟩ = ((((kind : Int) == 3 || (rn : Int) == 0) && (((kind : Int) == 4 || (kind : Int) == 5 || (kind : Int) == 6 || (kind : Int) == 7) || (kn : Int) == 0)) && (((kind : Int) == 2 || r == 0) && ((kind : Int) == 6 || (mn == 0 && mx == 0 && !lz)) && ((kind : Int) == 7 || (cp == 0 && nm.toList.isEmpty))))) := fun _ => rfl
  cases hrn : ((rn : Int) == 0)
  · cases hr : (r == 0)
    · go_enter Try.func52, Try.ntmps52
      go_wp2
      go_ret
      exact ⟨ret_bool (by rw [HE.out]; simp [hrn, hr, k2, k3, k4, k5, k6, k7]), rfl⟩
    cases hmn : (mn == 0)
    · go_enter Try.func52, Try.ntmps52
      go_wp2
      go_ret
      exact ⟨ret_bool (by rw [HE.out]; simp [hrn, hr, hmn, k2, k3, k4, k5, k6, k7]), rfl⟩
    cases hmx : (mx == 0)
    · go_enter Try.func52, Try.ntmps52
      go_wp2
      go_ret
      exact ⟨ret_bool (by rw [HE.out]; simp [hrn, hr, hmn, hmx, k2, k3, k4, k5, k6, k7]), rfl⟩
    cases lz
    rotate_left
    · go_enter Try.func52, Try.ntmps52
      go_wp2
      go_ret
      exact ⟨ret_bool (by rw [HE.out]; simp [hrn, hr, hmn, hmx, k2, k3, k4, k5, k6, k7]), rfl⟩
    cases hcp : (cp == 0)
    · go_enter Try.func52, Try.ntmps52
      go_wp2
      go_ret
      exact ⟨ret_bool (by rw [HE.out]; simp [hrn, hr, hmn, hmx, hcp, k2, k3, k4, k5, k6, k7]), rfl⟩
    cases hnm : nm.toList.isEmpty
    · go_enter Try.func52, Try.ntmps52
      go_wp2
      go_ret
      exact ⟨ret_bool (by rw [HE.out]; simp [hrn, hr, hmn, hmx, hcp, hnm, k2, k3, k4, k5, k6, k7]), rfl⟩
    go_enter Try.func52, Try.ntmps52
    go_wp2
    go_ret
    exact ⟨ret_bool (by rw [HE.out]; simp [hrn, hr, hmn, hmx, hcp, hnm, k2, k3, k4, k5, k6, k7]), rfl⟩
  cases hkn : ((kn : Int) == 0)
  · cases hr : (r == 0)
    · go_enter Try.func52, Try.ntmps52
      go_wp2
      go_ret
      exact ⟨ret_bool (by rw [HE.out]; simp [hrn, hkn, hr, k2, k3, k4, k5, k6, k7]), rfl⟩
    cases hmn : (mn == 0)
    · go_enter Try.func52, Try.ntmps52
      go_wp2
      go_ret
      exact ⟨ret_bool (by rw [HE.out]; simp [hrn, hkn, hr, hmn, k2, k3, k4, k5, k6, k7]), rfl⟩
    cases hmx : (mx == 0)
    · go_enter Try.func52, Try.ntmps52
      go_wp2
      go_ret
      exact ⟨ret_bool (by rw [HE.out]; simp [hrn, hkn, hr, hmn, hmx, k2, k3, k4, k5, k6, k7]), rfl⟩
    cases lz
    rotate_left
    · go_enter Try.func52, Try.ntmps52
      go_wp2
      go_ret
      exact ⟨ret_bool (by rw [HE.out]; simp [hrn, hkn, hr, hmn, hmx, k2, k3, k4, k5, k6, k7]), rfl⟩
    cases hcp : (cp == 0)
    · go_enter Try.func52, Try.ntmps52
      go_wp2
      go_ret
      exact ⟨ret_bool (by rw [HE.out]; simp [hrn, hkn, hr, hmn, hmx, hcp, k2, k3, k4, k5, k6, k7]), rfl⟩
    cases hnm : nm.toList.isEmpty
    · go_enter Try.func52, Try.ntmps52
      go_wp2
      go_ret
      exact ⟨ret_bool (by rw [HE.out]; simp [hrn, hkn, hr, hmn, hmx, hcp, hnm, k2, k3, k4, k5, k6, k7]), rfl⟩
    go_enter Try.func52, Try.ntmps52
    go_wp2
    go_ret
    exact ⟨ret_bool (by rw [HE.out]; simp [hrn, hkn, hr, hmn, hmx, hcp, hnm, k2, k3, k4, k5, k6, k7]), rfl⟩
  cases hr : (r == 0)
  · go_enter Try.func52, Try.ntmps52
    go_wp2
    go_ret
    exact ⟨ret_bool (by rw [HE.out]; simp [hrn, hkn, hr, k2, k3, k4, k5, k6, k7]), rfl⟩
  cases hmn : (mn == 0)
  · go_enter Try.func52, Try.ntmps52
    go_wp2
    go_ret
    exact ⟨ret_bool (by rw [HE.out]; simp [hrn, hkn, hr, hmn, k2, k3, k4, k5, k6, k7]), rfl⟩
  cases hmx : (mx == 0)
  · go_enter Try.func52, Try.ntmps52
    go_wp2
    go_ret
    exact ⟨ret_bool (by rw [HE.out]; simp [hrn, hkn, hr, hmn, hmx, k2, k3, k4, k5, k6, k7]), rfl⟩
  cases lz
  rotate_left
  · go_enter Try.func52, Try.ntmps52
    go_wp2
    go_ret
    exact ⟨ret_bool (by rw [HE.out]; simp [hrn, hkn, hr, hmn, hmx, k2, k3, k4, k5, k6, k7]), rfl⟩
  cases hcp : (cp == 0)
  · go_enter Try.func52, Try.ntmps52
    go_wp2
    go_ret
    exact ⟨ret_bool (by rw [HE.out]; simp [hrn, hkn, hr, hmn, hmx, hcp, k2, k3, k4, k5, k6, k7]), rfl⟩
  cases hnm : nm.toList.isEmpty
  · go_enter Try.func52, Try.ntmps52
    go_wp2
    go_ret
    exact ⟨ret_bool (by rw [HE.out]; simp [hrn, hkn, hr, hmn, hmx, hcp, hnm, k2, k3, k4, k5, k6, k7]), rfl⟩
  go_enter Try.func52, Try.ntmps52
  go_wp2
  go_ret
  exact ⟨ret_bool (by rw [HE.out]; simp [hrn, hkn, hr, hmn, hmx, hcp, hnm, k2, k3, k4, k5, k6, k7]), rfl⟩
end Go.Proofs.Ytbciclnffokjjaa
/- The reference's validity: bare, of any node. -/
namespace Go.Proofs.Ytbciclnffokjjaa
open Go.RowKit

theorem bare_any (d : Nd) (w : World) : Calls Try.prog 52 #[ndV d] w fun e w' => e = .returned (.bool (bareB d)) ∧ w' = w.alloc (ndX d) := by
  obtain ⟨kind, r, ra, rn, rc, rf, mn, mx, lz, cp, nm, ka, kn, kc⟩ := d
  by_cases e2 : kind = 2
  · subst e2; exact bare_2 r ra rn rc rf mn mx lz cp nm ka kn kc w
  by_cases e3 : kind = 3
  · subst e3; exact bare_3 r ra rn rc rf mn mx lz cp nm ka kn kc w
  by_cases e4 : kind = 4
  · subst e4; exact bare_4 r ra rn rc rf mn mx lz cp nm ka kn kc w
  by_cases e5 : kind = 5
  · subst e5; exact bare_5 r ra rn rc rf mn mx lz cp nm ka kn kc w
  by_cases e6 : kind = 6
  · subst e6; exact bare_6 r ra rn rc rf mn mx lz cp nm ka kn kc w
  by_cases e7 : kind = 7
  · subst e7; exact bare_7 r ra rn rc rf mn mx lz cp nm ka kn kc w
  exact bare_0 kind r ra rn rc rf mn mx lz cp nm ka kn kc w (by simpa using e2) (by simpa using e3) (by simpa using e4) (by simpa using e5) (by simpa using e6) (by simpa using e7)
end Go.Proofs.Ytbciclnffokjjaa
