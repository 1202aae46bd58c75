/- A bundle of texts. -/
import Derived.Test.YtajaadagejhllaaGreatDoorBs27
import Derived.Test.YtajaadagejhllaaGreatDoorBs03
/- The reference's validity: bare. -/
namespace Go.Proofs.YtajaadagejhllaaGreatDoor
open Go.RowKit

set_option maxHeartbeats 20000000 in
set_option maxRecDepth 100000 in
theorem bare_6 (r : Int) (ra : Option Addr) (rn rc : Nat) (rf : Nat → Rg) (mn mx : Int) (lz : Bool) (cp : Int) (nm : ByteArray) (ka : Option Addr) (kn kc : Nat) (w : World) :
    Calls Tryz.prog 55 #[rxV 6 r ra rn rc mn mx lz cp nm ka kn kc] w fun e w' => e = .returned (.bool (bareB ⟨6, r, ra, rn, rc, rf, mn, mx, lz, cp, nm, ka, kn, kc⟩)) ∧ w' = w.alloc (rxX 6 r ra rn rc mn mx lz cp nm ka kn kc) := by
  have HE : Hid (∀ lz, bareB ⟨6, r, ra, rn, rc, rf, mn, mx, lz, cp, nm, ka, kn, kc⟩ = ((((6 : Int) == 3 || (rn : Int) == 0) && (((6 : Int) == 4 || (6 : Int) == 5 || (6 : Int) == 6 || (6 : Int) == 7) || (kn : Int) == 0)) && (((6 : Int) == 2 || r == 0) && ((6 : Int) == 6 || (mn == 0 && mx == 0 && !lz)) && ((6 : Int) == 7 || (cp == 0 && nm.toList.isEmpty))))) := fun _ => rfl
  cases hrn : ((rn : Int) == 0)
  · cases hr : (r == 0)
    · go_enter Tryz.func55, Tryz.ntmps55
      go_wp2
      go_ret
      exact ⟨ret_bool (by rw [HE.out]; simp [hrn, hr]), rfl⟩
    cases hcp : (cp == 0)
    · go_enter Tryz.func55, Tryz.ntmps55
      go_wp2
      go_ret
      exact ⟨ret_bool (by rw [HE.out]; simp [hrn, hr, hcp]), rfl⟩
    cases hnm : nm.toList.isEmpty
    · go_enter Tryz.func55, Tryz.ntmps55
      go_wp2
      go_ret
      exact ⟨ret_bool (by rw [HE.out]; simp [hrn, hr, hcp, hnm]), rfl⟩
    go_enter Tryz.func55, Tryz.ntmps55
    go_wp2
    go_ret
    exact ⟨ret_bool (by rw [HE.out]; simp [hrn, hr, hcp, hnm]), rfl⟩
  cases hr : (r == 0)
  · go_enter Tryz.func55, Tryz.ntmps55
    go_wp2
    go_ret
    exact ⟨ret_bool (by rw [HE.out]; simp [hrn, hr]), rfl⟩
  cases hcp : (cp == 0)
  · go_enter Tryz.func55, Tryz.ntmps55
    go_wp2
    go_ret
    exact ⟨ret_bool (by rw [HE.out]; simp [hrn, hr, hcp]), rfl⟩
  cases hnm : nm.toList.isEmpty
  · go_enter Tryz.func55, Tryz.ntmps55
    go_wp2
    go_ret
    exact ⟨ret_bool (by rw [HE.out]; simp [hrn, hr, hcp, hnm]), rfl⟩
  go_enter Tryz.func55, Tryz.ntmps55
  go_wp2
  go_ret
  exact ⟨ret_bool (by rw [HE.out]; simp [hrn, hr, hcp, hnm]), rfl⟩
set_option maxHeartbeats 20000000 in
set_option maxRecDepth 100000 in
theorem bare_7 (r : Int) (ra : Option Addr) (rn rc : Nat) (rf : Nat → Rg) (mn mx : Int) (lz : Bool) (cp : Int) (nm : ByteArray) (ka : Option Addr) (kn kc : Nat) (w : World) :
    Calls Tryz.prog 55 #[rxV 7 r ra rn rc mn mx lz cp nm ka kn kc] w fun e w' => e = .returned (.bool (bareB ⟨7, r, ra, rn, rc, rf, mn, mx, lz, cp, nm, ka, kn, kc⟩)) ∧ w' = w.alloc (rxX 7 r ra rn rc mn mx lz cp nm ka kn kc) := by
  have HE : Hid (∀ lz, bareB ⟨7, r, ra, rn, rc, rf, mn, mx, lz, cp, nm, ka, kn, kc⟩ = ((((7 : Int) == 3 || (rn : Int) == 0) && (((7 : Int) == 4 || (7 : Int) == 5 || (7 : Int) == 6 || (7 : Int) == 7) || (kn : Int) == 0)) && (((7 : Int) == 2 || r == 0) && ((7 : Int) == 6 || (mn == 0 && mx == 0 && !lz)) && ((7 : Int) == 7 || (cp == 0 && nm.toList.isEmpty))))) := fun _ => rfl
  cases hrn : ((rn : Int) == 0)
  · cases hr : (r == 0)
    · go_enter Tryz.func55, Tryz.ntmps55
      go_wp2
      go_ret
      exact ⟨ret_bool (by rw [HE.out]; simp [hrn, hr]), rfl⟩
    cases hmn : (mn == 0)
    · go_enter Tryz.func55, Tryz.ntmps55
      go_wp2
      go_ret
      exact ⟨ret_bool (by rw [HE.out]; simp [hrn, hr, hmn]), rfl⟩
    cases hmx : (mx == 0)
    · go_enter Tryz.func55, Tryz.ntmps55
      go_wp2
      go_ret
      exact ⟨ret_bool (by rw [HE.out]; simp [hrn, hr, hmn, hmx]), rfl⟩
    cases lz
    rotate_left
    · go_enter Tryz.func55, Tryz.ntmps55
      go_wp2
      go_ret
      exact ⟨ret_bool (by rw [HE.out]; simp [hrn, hr, hmn, hmx]), rfl⟩
    go_enter Tryz.func55, Tryz.ntmps55
    go_wp2
    go_ret
    exact ⟨ret_bool (by rw [HE.out]; simp [hrn, hr, hmn, hmx]), rfl⟩
  cases hr : (r == 0)
  · go_enter Tryz.func55, Tryz.ntmps55
    go_wp2
    go_ret
    exact ⟨ret_bool (by rw [HE.out]; simp [hrn, hr]), rfl⟩
  cases hmn : (mn == 0)
  · go_enter Tryz.func55, Tryz.ntmps55
    go_wp2
    go_ret
    exact ⟨ret_bool (by rw [HE.out]; simp [hrn, hr, hmn]), rfl⟩
  cases hmx : (mx == 0)
  · go_enter Tryz.func55, Tryz.ntmps55
    go_wp2
    go_ret
    exact ⟨ret_bool (by rw [HE.out]; simp [hrn, hr, hmn, hmx]), rfl⟩
  cases lz
  rotate_left
  · go_enter Tryz.func55, Tryz.ntmps55
    go_wp2
    go_ret
    exact ⟨ret_bool (by rw [HE.out]; simp [hrn, hr, hmn, hmx]), rfl⟩
  go_enter Tryz.func55, Tryz.ntmps55
  go_wp2
  go_ret
  exact ⟨ret_bool (by rw [HE.out]; simp [hrn, hr, hmn, hmx]), rfl⟩
end Go.Proofs.YtajaadagejhllaaGreatDoor
/- The reference's validity: bare. -/
namespace Go.Proofs.YtajaadagejhllaaGreatDoor
open Go.RowKit

set_option maxHeartbeats 20000000 in
set_option maxRecDepth 100000 in
theorem bare_0 (kind : Int) (r : Int) (ra : Option Addr) (rn rc : Nat) (rf : Nat → Rg) (mn mx : Int) (lz : Bool) (cp : Int) (nm : ByteArray) (ka : Option Addr) (kn kc : Nat) (w : World) (k2 : (kind == 2) = false) (k3 : (kind == 3) = false) (k4 : (kind == 4) = false) (k5 : (kind == 5) = false) (k6 : (kind == 6) = false) (k7 : (kind == 7) = false) :
    Calls Tryz.prog 55 #[rxV kind r ra rn rc mn mx lz cp nm ka kn kc] w fun e w' => e = .returned (.bool (bareB ⟨kind, r, ra, rn, rc, rf, mn, mx, lz, cp, nm, ka, kn, kc⟩)) ∧ w' = w.alloc (rxX kind r ra rn rc mn mx lz cp nm ka kn kc) := by
  have HE : Hid (∀ lz, bareB ⟨kind, r, ra, rn, rc, rf, mn, mx, lz, cp, nm, ka, kn, kc⟩ = ((((kind : Int) == 3 || (rn : Int) == 0) && (((kind : Int) == 4 || (kind : Int) == 5 || (kind : Int) == 6 || (kind : Int) == 7) || (kn : Int) == 0)) && (((kind : Int) == 2 || r == 0) && ((kind : Int) == 6 || (mn == 0 && mx == 0 && !lz)) && ((kind : Int) == 7 || (cp == 0 && nm.toList.isEmpty))))) := fun _ => rfl
  cases hrn : ((rn : Int) == 0)
  · cases hr : (r == 0)
    · go_enter Tryz.func55, Tryz.ntmps55
      go_wp2
      go_ret
      exact ⟨ret_bool (by rw [HE.out]; simp [hrn, hr, k2, k3, k4, k5, k6, k7]), rfl⟩
    cases hmn : (mn == 0)
    · go_enter Tryz.func55, Tryz.ntmps55
      go_wp2
      go_ret
      exact ⟨ret_bool (by rw [HE.out]; simp [hrn, hr, hmn, k2, k3, k4, k5, k6, k7]), rfl⟩
    cases hmx : (mx == 0)
    · go_enter Tryz.func55, Tryz.ntmps55
      go_wp2
      go_ret
      exact ⟨ret_bool (by rw [HE.out]; simp [hrn, hr, hmn, hmx, k2, k3, k4, k5, k6, k7]), rfl⟩
    cases lz
    rotate_left
    · go_enter Tryz.func55, Tryz.ntmps55
      go_wp2
      go_ret
      exact ⟨ret_bool (by rw [HE.out]; simp [hrn, hr, hmn, hmx, k2, k3, k4, k5, k6, k7]), rfl⟩
    cases hcp : (cp == 0)
    · go_enter Tryz.func55, Tryz.ntmps55
      go_wp2
      go_ret
      exact ⟨ret_bool (by rw [HE.out]; simp [hrn, hr, hmn, hmx, hcp, k2, k3, k4, k5, k6, k7]), rfl⟩
    cases hnm : nm.toList.isEmpty
    · go_enter Tryz.func55, Tryz.ntmps55
      go_wp2
      go_ret
      exact ⟨ret_bool (by rw [HE.out]; simp [hrn, hr, hmn, hmx, hcp, hnm, k2, k3, k4, k5, k6, k7]), rfl⟩
    go_enter Tryz.func55, Tryz.ntmps55
    go_wp2
    go_ret
    exact ⟨ret_bool (by rw [HE.out]; simp [hrn, hr, hmn, hmx, hcp, hnm, k2, k3, k4, k5, k6, k7]), rfl⟩
  cases hkn : ((kn : Int) == 0)
  · cases hr : (r == 0)
    · go_enter Tryz.func55, Tryz.ntmps55
      go_wp2
      go_ret
      exact ⟨ret_bool (by rw [HE.out]; simp [hrn, hkn, hr, k2, k3, k4, k5, k6, k7]), rfl⟩
    cases hmn : (mn == 0)
    · go_enter Tryz.func55, Tryz.ntmps55
      go_wp2
      go_ret
      exact ⟨ret_bool (by rw [HE.out]; simp [hrn, hkn, hr, hmn, k2, k3, k4, k5, k6, k7]), rfl⟩
    cases hmx : (mx == 0)
    · go_enter Tryz.func55, Tryz.ntmps55
      go_wp2
      go_ret
      exact ⟨ret_bool (by rw [HE.out]; simp [hrn, hkn, hr, hmn, hmx, k2, k3, k4, k5, k6, k7]), rfl⟩
    cases lz
    rotate_left
    · go_enter Tryz.func55, Tryz.ntmps55
      go_wp2
      go_ret
      exact ⟨ret_bool (by rw [HE.out]; simp [hrn, hkn, hr, hmn, hmx, k2, k3, k4, k5, k6, k7]), rfl⟩
    cases hcp : (cp == 0)
    · go_enter Tryz.func55, Tryz.ntmps55
      go_wp2
      go_ret
      exact ⟨ret_bool (by rw [HE.out]; simp [hrn, hkn, hr, hmn, hmx, hcp, k2, k3, k4, k5, k6, k7]), rfl⟩
    cases hnm : nm.toList.isEmpty
    · go_enter Tryz.func55, Tryz.ntmps55
      go_wp2
      go_ret
      exact ⟨ret_bool (by rw [HE.out]; simp [hrn, hkn, hr, hmn, hmx, hcp, hnm, k2, k3, k4, k5, k6, k7]), rfl⟩
    go_enter Tryz.func55, Tryz.ntmps55
    go_wp2
    go_ret
    exact ⟨ret_bool (by rw [HE.out]; simp [hrn, hkn, hr, hmn, hmx, hcp, hnm, k2, k3, k4, k5, k6, k7]), rfl⟩
  cases hr : (r == 0)
  · go_enter Tryz.func55, Tryz.ntmps55
    go_wp2
    go_ret
    exact ⟨ret_bool (by rw [HE.out]; simp [hrn, hkn, hr, k2, k3, k4, k5, k6, k7]), rfl⟩
  cases hmn : (mn == 0)
  · go_enter Tryz.func55, Tryz.ntmps55
    go_wp2
    go_ret
    exact ⟨ret_bool (by rw [HE.out]; simp [hrn, hkn, hr, hmn, k2, k3, k4, k5, k6, k7]), rfl⟩
  cases hmx : (mx == 0)
  · go_enter Tryz.func55, Tryz.ntmps55
    go_wp2
    go_ret
    exact ⟨ret_bool (by rw [HE.out]; simp [hrn, hkn, hr, hmn, hmx, k2, k3, k4, k5, k6, k7]), rfl⟩
  cases lz
  rotate_left
  · go_enter Tryz.func55, Tryz.ntmps55
    go_wp2
    go_ret
    exact ⟨ret_bool (by rw [HE.out]; simp [hrn, hkn, hr, hmn, hmx, k2, k3, k4, k5, k6, k7]), rfl⟩
  cases hcp : (cp == 0)
  · go_enter Tryz.func55, Tryz.ntmps55
    go_wp2
    go_ret
    exact ⟨ret_bool (by rw [HE.out]; simp [hrn, hkn, hr, hmn, hmx, hcp, k2, k3, k4, k5, k6, k7]), rfl⟩
  cases hnm : nm.toList.isEmpty
  · go_enter Tryz.func55, Tryz.ntmps55
    go_wp2
    go_ret
    exact ⟨ret_bool (by rw [HE.out]; simp [hrn, hkn, hr, hmn, hmx, hcp, hnm, k2, k3, k4, k5, k6, k7]), rfl⟩
  go_enter Tryz.func55, Tryz.ntmps55
  go_wp2
  go_ret
  exact ⟨ret_bool (by rw [HE.out]; simp [hrn, hkn, hr, hmn, hmx, hcp, hnm, k2, k3, k4, k5, k6, k7]), rfl⟩
end Go.Proofs.YtajaadagejhllaaGreatDoor
/- The reference's validity: bare, of any node. -/
namespace Go.Proofs.YtajaadagejhllaaGreatDoor
open Go.RowKit

theorem bare_any (d : Nd) (w : World) : Calls Tryz.prog 55 #[ndV d] w fun e w' => e = .returned (.bool (bareB d)) ∧ w' = w.alloc (ndX d) := by
  obtain ⟨kind, r, ra, rn, rc, rf, mn, mx, lz, cp, nm, ka, kn, kc⟩ := d
  by_cases e2 : kind = 2
  · subst e2; exact bare_2 r ra rn rc rf mn mx lz cp nm ka kn kc w
  by_cases e3 : kind = 3
  · subst e3; exact bare_3 r ra rn rc rf mn mx lz cp nm ka kn kc w
  by_cases e4 : kind = 4
  · subst e4; exact bare_4 r ra rn rc rf mn mx lz cp nm ka kn kc w
  by_cases e5 : kind = 5
  · subst e5; exact bare_5 r ra rn rc rf mn mx lz cp nm ka kn kc w
  by_cases e6 : kind = 6
  · subst e6; exact bare_6 r ra rn rc rf mn mx lz cp nm ka kn kc w
  by_cases e7 : kind = 7
  · subst e7; exact bare_7 r ra rn rc rf mn mx lz cp nm ka kn kc w
  exact bare_0 kind r ra rn rc rf mn mx lz cp nm ka kn kc w (by simpa using e2) (by simpa using e3) (by simpa using e4) (by simpa using e5) (by simpa using e6) (by simpa using e7)
end Go.Proofs.YtajaadagejhllaaGreatDoor
/- The reference's validity: wordRune. -/
namespace Go.Proofs.YtajaadagejhllaaGreatDoor
open Go.RowKit

set_option maxHeartbeats 4000000 in
theorem rWord_any (r : Int) (w : World) : Calls Tryz.prog 75 #[.int .i32 r] w fun e w' => e = .returned (.bool (wdB r)) ∧ w' = w := by
  have HE : Hid (wdB r = decide ((48 ≤ r ∧ r ≤ 57) ∨ (65 ≤ r ∧ r ≤ 90 ∨ 97 ≤ r ∧ r ≤ 122) ∨ r = 95)) := by
    unfold Hid wdB dgB ltB
    rw [Bool.eq_iff_iff]
    simp
    omega
  by_cases h95 : r = 95
  · subst h95
    go_enter Tryz.func75, Tryz.ntmps75
    go_wp2
    go_ret
    exact ⟨ret_bool (by rw [HE.out]; decide), rfl⟩
  have t95 : (r == 95) = false := by simpa using h95
  have H95 : Hid (¬ r = 95) := h95
  clear h95
  by_cases c0 : r < 48
  · clear t95
    have t95 : (r == 95) = false := by have := H95.out; simpa using this
    have g0 : ¬ 48 ≤ r := by omega
    have g1 : r ≤ 57 := by omega
    have g2 : ¬ 65 ≤ r := by omega
    have g3 : r ≤ 90 := by omega
    have g4 : ¬ 97 ≤ r := by omega
    have g5 : r ≤ 122 := by omega
    clear c0
    go_enter Tryz.func75, Tryz.ntmps75
    go_wp2
    go_ret
    exact ⟨ret_bool (by rw [HE.out]; have := H95.out; simp <;> omega), rfl⟩
  by_cases c1 : r ≤ 57
  · clear t95
    have t95 : (r == 95) = false := by have := H95.out; simpa using this
    have g0 : 48 ≤ r := by omega
    have g1 : r ≤ 57 := by omega
    have g2 : ¬ 65 ≤ r := by omega
    have g3 : r ≤ 90 := by omega
    have g4 : ¬ 97 ≤ r := by omega
    have g5 : r ≤ 122 := by omega
    clear c0 c1
    go_enter Tryz.func75, Tryz.ntmps75
    go_wp2
    go_ret
    exact ⟨ret_bool (by rw [HE.out]; have := H95.out; simp <;> omega), rfl⟩
  by_cases c2 : r < 65
  · clear t95
    have t95 : (r == 95) = false := by have := H95.out; simpa using this
    have g0 : 48 ≤ r := by omega
    have g1 : ¬ r ≤ 57 := by omega
    have g2 : ¬ 65 ≤ r := by omega
    have g3 : r ≤ 90 := by omega
    have g4 : ¬ 97 ≤ r := by omega
    have g5 : r ≤ 122 := by omega
    clear c0 c1 c2
    go_enter Tryz.func75, Tryz.ntmps75
    go_wp2
    go_ret
    exact ⟨ret_bool (by rw [HE.out]; have := H95.out; simp <;> omega), rfl⟩
  by_cases c3 : r ≤ 90
  · clear t95
    have t95 : (r == 95) = false := by have := H95.out; simpa using this
    have g0 : 48 ≤ r := by omega
    have g1 : ¬ r ≤ 57 := by omega
    have g2 : 65 ≤ r := by omega
    have g3 : r ≤ 90 := by omega
    have g4 : ¬ 97 ≤ r := by omega
    have g5 : r ≤ 122 := by omega
    clear c0 c1 c2 c3
    go_enter Tryz.func75, Tryz.ntmps75
    go_wp2
    go_ret
    exact ⟨ret_bool (by rw [HE.out]; have := H95.out; simp <;> omega), rfl⟩
  by_cases c4 : r < 97
  · clear t95
    have t95 : (r == 95) = false := by have := H95.out; simpa using this
    have g0 : 48 ≤ r := by omega
    have g1 : ¬ r ≤ 57 := by omega
    have g2 : 65 ≤ r := by omega
    have g3 : ¬ r ≤ 90 := by omega
    have g4 : ¬ 97 ≤ r := by omega
    have g5 : r ≤ 122 := by omega
    clear c0 c1 c2 c3 c4
    go_enter Tryz.func75, Tryz.ntmps75
    go_wp2
    go_ret
    exact ⟨ret_bool (by rw [HE.out]; have := H95.out; simp <;> omega), rfl⟩
  by_cases c5 : r ≤ 122
  · clear t95
    have t95 : (r == 95) = false := by have := H95.out; simpa using this
    have g0 : 48 ≤ r := by omega
    have g1 : ¬ r ≤ 57 := by omega
    have g2 : 65 ≤ r := by omega
    have g3 : ¬ r ≤ 90 := by omega
    have g4 : 97 ≤ r := by omega
    have g5 : r ≤ 122 := by omega
    clear c0 c1 c2 c3 c4 c5
    go_enter Tryz.func75, Tryz.ntmps75
    go_wp2
    go_ret
    exact ⟨ret_bool (by rw [HE.out]; have := H95.out; simp <;> omega), rfl⟩
  have g0 : 48 ≤ r := by omega
  have g1 : ¬ r ≤ 57 := by omega
  have g2 : 65 ≤ r := by omega
  have g3 : ¬ r ≤ 90 := by omega
  have g4 : 97 ≤ r := by omega
  have g5 : ¬ r ≤ 122 := by omega
  clear c0 c1 c2 c3 c4 c5
  go_enter Tryz.func75, Tryz.ntmps75
  go_wp2
  go_ret
  exact ⟨ret_bool (by rw [HE.out]; have := H95.out; simp <;> omega), rfl⟩
end Go.Proofs.YtajaadagejhllaaGreatDoor
/- Names: by runes and by bytes. -/
namespace Go.Proofs.YtajaadagejhllaaGreatDoor
open Go.RowKit

theorem dec_low (s : ByteArray) (i : Nat) (h : (s.get! i).toNat < 128) : Utf8.decode s i = ((s.get! i).toNat, 1) := by
  unfold Utf8.decode
  simp only [Nat.add_zero]
  rw [if_pos h]
theorem dec_high (s : ByteArray) (i : Nat) (h : ¬ (s.get! i).toNat < 128) : 128 ≤ (Utf8.decode s i).1 := by
  unfold Utf8.decode
  simp only [Nat.add_zero]
  rw [if_neg h]
  split
  · split
    · rename_i hc; exact hc
    · decide
  · split
    · split
      · rename_i hc
        rw [Bool.and_eq_true] at hc
        have := of_decide_eq_true hc.1
        dsimp only
        omega
      · decide
    · split
      · split
        · rename_i hc
          rw [Bool.and_eq_true] at hc
          have := of_decide_eq_true hc.1
          dsimp only
          omega
        · decide
      · decide
theorem wdB_high {r : Int} (h : 128 ≤ r) : wdB r = false := by
  unfold wdB dgB ltB
  simp
  omega
/-- The bytes from pos on, g of them at most, are letters, digits or '_'. -/
def bwF (s : ByteArray) : Nat → Nat → Bool
  | 0, _ => true
  | g + 1, pos => if pos < s.size then wdB ((s.get! pos).toNat : Int) && bwF s g (pos + 1) else true
theorem nmF_bw (s : ByteArray) : ∀ g pos, nmF s g pos = bwF s g pos
  | 0, _ => rfl
  | g + 1, pos => by
    unfold nmF bwF
    by_cases hp : pos < s.size
    · rw [if_pos hp, if_pos hp]
      by_cases h : (s.get! pos).toNat < 128
      · rw [dec_low s pos h]
        dsimp only
        rw [nmF_bw s g (pos + 1)]
      · have h1 := dec_high s pos h
        rw [wdB_high (by omega), wdB_high (by omega)]
        rfl
    · rw [if_neg hp, if_neg hp]
end Go.Proofs.YtajaadagejhllaaGreatDoor
