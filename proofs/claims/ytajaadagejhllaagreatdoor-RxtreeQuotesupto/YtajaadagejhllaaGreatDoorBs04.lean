/- A bundle of texts. -/
import Derived.Test.YtajaadagejhllaaGreatDoorBs02
/- Trees: hasStray. -/
namespace Go.Proofs.YtajaadagejhllaaGreatDoor
open Go.RowKit

/-- Is a field set that a node's kind doesn't name? -/
def stB (d : Nd) : Bool := (d.kind != 2 && d.r != 0) || (d.kind != 3 && ((d.rn : Int) != 0)) || (d.kind != 6 && (d.mn != 0 || d.mx != 0 || d.lz)) || (d.kind != 7 && (d.cp != 0 || !d.nm.toList.isEmpty))
abbrev rxX (kind r : Int) (ra : Option Addr) (rn rc : Nat) (mn mx : Int) (lz : Bool) (cp : Int) (nm : ByteArray) (ka : Option Addr) (kn kc : Nat) : Obj :=
  .cells #[.int .i64 kind, .int .i32 r, .slice ra rn rc, .int .i64 mn, .int .i64 mx, .bool lz, .int .i64 cp, .string nm, .slice ka kn kc] 25
abbrev ndX (d : Nd) : Obj := rxX d.kind d.r d.ra d.rn d.rc d.mn d.mx d.lz d.cp d.nm d.ka d.kn d.kc


set_option maxHeartbeats 1000000 in
set_option maxRecDepth 100000 in
theorem stray_2_0 (r : Int) (ra : Option Addr) (rn rc : Nat) (mn mx : Int) (lz : Bool) (cp : Int) (nm : ByteArray) (ka : Option Addr) (kn kc : Nat) (w : World) (hrn : ((rn : Int) != 0) = true) :
    Calls Tryz.prog 83 #[rxV 2 r ra rn rc mn mx lz cp nm ka kn kc] w fun e w' => e = .returned (.bool true) ∧ w' = w.alloc (rxX 2 r ra rn rc mn mx lz cp nm ka kn kc) := by
  go_enter Tryz.func83, Tryz.ntmps83
  go_wp2
  go_ret
  exact ⟨rfl, rfl⟩

set_option maxHeartbeats 1000000 in
set_option maxRecDepth 100000 in
theorem stray_2_1 (r : Int) (ra : Option Addr) (rn rc : Nat) (mn mx : Int) (lz : Bool) (cp : Int) (nm : ByteArray) (ka : Option Addr) (kn kc : Nat) (w : World) (hrn : ((rn : Int) != 0) = false) (hmn : (mn != 0) = true) :
    Calls Tryz.prog 83 #[rxV 2 r ra rn rc mn mx lz cp nm ka kn kc] w fun e w' => e = .returned (.bool true) ∧ w' = w.alloc (rxX 2 r ra rn rc mn mx lz cp nm ka kn kc) := by
  go_enter Tryz.func83, Tryz.ntmps83
  go_wp2
  go_ret
  exact ⟨rfl, rfl⟩

set_option maxHeartbeats 1000000 in
set_option maxRecDepth 100000 in
theorem stray_2_2 (r : Int) (ra : Option Addr) (rn rc : Nat) (mn mx : Int) (lz : Bool) (cp : Int) (nm : ByteArray) (ka : Option Addr) (kn kc : Nat) (w : World) (hrn : ((rn : Int) != 0) = false) (hmn : (mn != 0) = false) (hmx : (mx != 0) = true) :
    Calls Tryz.prog 83 #[rxV 2 r ra rn rc mn mx lz cp nm ka kn kc] w fun e w' => e = .returned (.bool true) ∧ w' = w.alloc (rxX 2 r ra rn rc mn mx lz cp nm ka kn kc) := by
  go_enter Tryz.func83, Tryz.ntmps83
  go_wp2
  go_ret
  exact ⟨rfl, rfl⟩

set_option maxHeartbeats 1000000 in
set_option maxRecDepth 100000 in
theorem stray_2_3 (r : Int) (ra : Option Addr) (rn rc : Nat) (mn mx : Int) (lz : Bool) (cp : Int) (nm : ByteArray) (ka : Option Addr) (kn kc : Nat) (w : World) (hrn : ((rn : Int) != 0) = false) (hmn : (mn != 0) = false) (hmx : (mx != 0) = false) (hlz : lz = true) :
    Calls Tryz.prog 83 #[rxV 2 r ra rn rc mn mx lz cp nm ka kn kc] w fun e w' => e = .returned (.bool true) ∧ w' = w.alloc (rxX 2 r ra rn rc mn mx lz cp nm ka kn kc) := by
  subst hlz
  go_enter Tryz.func83, Tryz.ntmps83
  go_wp2
  go_ret
  exact ⟨rfl, rfl⟩

set_option maxHeartbeats 1000000 in
set_option maxRecDepth 100000 in
theorem stray_2_4 (r : Int) (ra : Option Addr) (rn rc : Nat) (mn mx : Int) (lz : Bool) (cp : Int) (nm : ByteArray) (ka : Option Addr) (kn kc : Nat) (w : World) (hrn : ((rn : Int) != 0) = false) (hmn : (mn != 0) = false) (hmx : (mx != 0) = false) (hlz : lz = false) (hcp : (cp != 0) = true) :
    Calls Tryz.prog 83 #[rxV 2 r ra rn rc mn mx lz cp nm ka kn kc] w fun e w' => e = .returned (.bool true) ∧ w' = w.alloc (rxX 2 r ra rn rc mn mx lz cp nm ka kn kc) := by
  subst hlz
  go_enter Tryz.func83, Tryz.ntmps83
  go_wp2
  go_ret
  exact ⟨rfl, rfl⟩

set_option maxHeartbeats 1000000 in
set_option maxRecDepth 100000 in
theorem stray_2_5 (r : Int) (ra : Option Addr) (rn rc : Nat) (mn mx : Int) (lz : Bool) (cp : Int) (nm : ByteArray) (ka : Option Addr) (kn kc : Nat) (w : World) (hrn : ((rn : Int) != 0) = false) (hmn : (mn != 0) = false) (hmx : (mx != 0) = false) (hlz : lz = false) (hcp : (cp != 0) = false) (hnm : nm.toList.isEmpty = false) :
    Calls Tryz.prog 83 #[rxV 2 r ra rn rc mn mx lz cp nm ka kn kc] w fun e w' => e = .returned (.bool true) ∧ w' = w.alloc (rxX 2 r ra rn rc mn mx lz cp nm ka kn kc) := by
  subst hlz
  go_enter Tryz.func83, Tryz.ntmps83
  go_wp2
  go_ret
  exact ⟨rfl, rfl⟩

set_option maxHeartbeats 1000000 in
set_option maxRecDepth 100000 in
theorem stray_2_6 (r : Int) (ra : Option Addr) (rn rc : Nat) (mn mx : Int) (lz : Bool) (cp : Int) (nm : ByteArray) (ka : Option Addr) (kn kc : Nat) (w : World) (hrn : ((rn : Int) != 0) = false) (hmn : (mn != 0) = false) (hmx : (mx != 0) = false) (hlz : lz = false) (hcp : (cp != 0) = false) (hnm : nm.toList.isEmpty = true) :
    Calls Tryz.prog 83 #[rxV 2 r ra rn rc mn mx lz cp nm ka kn kc] w fun e w' => e = .returned (.bool false) ∧ w' = w.alloc (rxX 2 r ra rn rc mn mx lz cp nm ka kn kc) := by
  subst hlz
  go_enter Tryz.func83, Tryz.ntmps83
  go_wp2
  go_ret
  exact ⟨rfl, rfl⟩

set_option maxHeartbeats 1000000 in
set_option maxRecDepth 100000 in
theorem stray_3_0 (r : Int) (ra : Option Addr) (rn rc : Nat) (mn mx : Int) (lz : Bool) (cp : Int) (nm : ByteArray) (ka : Option Addr) (kn kc : Nat) (w : World) (hr : (r != 0) = true) :
    Calls Tryz.prog 83 #[rxV 3 r ra rn rc mn mx lz cp nm ka kn kc] w fun e w' => e = .returned (.bool true) ∧ w' = w.alloc (rxX 3 r ra rn rc mn mx lz cp nm ka kn kc) := by
  go_enter Tryz.func83, Tryz.ntmps83
  go_wp2
  go_ret
  exact ⟨rfl, rfl⟩

set_option maxHeartbeats 1000000 in
set_option maxRecDepth 100000 in
theorem stray_3_1 (r : Int) (ra : Option Addr) (rn rc : Nat) (mn mx : Int) (lz : Bool) (cp : Int) (nm : ByteArray) (ka : Option Addr) (kn kc : Nat) (w : World) (hr : (r != 0) = false) (hmn : (mn != 0) = true) :
    Calls Tryz.prog 83 #[rxV 3 r ra rn rc mn mx lz cp nm ka kn kc] w fun e w' => e = .returned (.bool true) ∧ w' = w.alloc (rxX 3 r ra rn rc mn mx lz cp nm ka kn kc) := by
  go_enter Tryz.func83, Tryz.ntmps83
  go_wp2
  go_ret
  exact ⟨rfl, rfl⟩

set_option maxHeartbeats 1000000 in
set_option maxRecDepth 100000 in
theorem stray_3_2 (r : Int) (ra : Option Addr) (rn rc : Nat) (mn mx : Int) (lz : Bool) (cp : Int) (nm : ByteArray) (ka : Option Addr) (kn kc : Nat) (w : World) (hr : (r != 0) = false) (hmn : (mn != 0) = false) (hmx : (mx != 0) = true) :
    Calls Tryz.prog 83 #[rxV 3 r ra rn rc mn mx lz cp nm ka kn kc] w fun e w' => e = .returned (.bool true) ∧ w' = w.alloc (rxX 3 r ra rn rc mn mx lz cp nm ka kn kc) := by
  go_enter Tryz.func83, Tryz.ntmps83
  go_wp2
  go_ret
  exact ⟨rfl, rfl⟩

set_option maxHeartbeats 1000000 in
set_option maxRecDepth 100000 in
theorem stray_3_3 (r : Int) (ra : Option Addr) (rn rc : Nat) (mn mx : Int) (lz : Bool) (cp : Int) (nm : ByteArray) (ka : Option Addr) (kn kc : Nat) (w : World) (hr : (r != 0) = false) (hmn : (mn != 0) = false) (hmx : (mx != 0) = false) (hlz : lz = true) :
    Calls Tryz.prog 83 #[rxV 3 r ra rn rc mn mx lz cp nm ka kn kc] w fun e w' => e = .returned (.bool true) ∧ w' = w.alloc (rxX 3 r ra rn rc mn mx lz cp nm ka kn kc) := by
  subst hlz
  go_enter Tryz.func83, Tryz.ntmps83
  go_wp2
  go_ret
  exact ⟨rfl, rfl⟩

set_option maxHeartbeats 1000000 in
set_option maxRecDepth 100000 in
theorem stray_3_4 (r : Int) (ra : Option Addr) (rn rc : Nat) (mn mx : Int) (lz : Bool) (cp : Int) (nm : ByteArray) (ka : Option Addr) (kn kc : Nat) (w : World) (hr : (r != 0) = false) (hmn : (mn != 0) = false) (hmx : (mx != 0) = false) (hlz : lz = false) (hcp : (cp != 0) = true) :
    Calls Tryz.prog 83 #[rxV 3 r ra rn rc mn mx lz cp nm ka kn kc] w fun e w' => e = .returned (.bool true) ∧ w' = w.alloc (rxX 3 r ra rn rc mn mx lz cp nm ka kn kc) := by
  subst hlz
  go_enter Tryz.func83, Tryz.ntmps83
  go_wp2
  go_ret
  exact ⟨rfl, rfl⟩

set_option maxHeartbeats 1000000 in
set_option maxRecDepth 100000 in
theorem stray_3_5 (r : Int) (ra : Option Addr) (rn rc : Nat) (mn mx : Int) (lz : Bool) (cp : Int) (nm : ByteArray) (ka : Option Addr) (kn kc : Nat) (w : World) (hr : (r != 0) = false) (hmn : (mn != 0) = false) (hmx : (mx != 0) = false) (hlz : lz = false) (hcp : (cp != 0) = false) (hnm : nm.toList.isEmpty = false) :
    Calls Tryz.prog 83 #[rxV 3 r ra rn rc mn mx lz cp nm ka kn kc] w fun e w' => e = .returned (.bool true) ∧ w' = w.alloc (rxX 3 r ra rn rc mn mx lz cp nm ka kn kc) := by
  subst hlz
  go_enter Tryz.func83, Tryz.ntmps83
  go_wp2
  go_ret
  exact ⟨rfl, rfl⟩

set_option maxHeartbeats 1000000 in
set_option maxRecDepth 100000 in
theorem stray_3_6 (r : Int) (ra : Option Addr) (rn rc : Nat) (mn mx : Int) (lz : Bool) (cp : Int) (nm : ByteArray) (ka : Option Addr) (kn kc : Nat) (w : World) (hr : (r != 0) = false) (hmn : (mn != 0) = false) (hmx : (mx != 0) = false) (hlz : lz = false) (hcp : (cp != 0) = false) (hnm : nm.toList.isEmpty = true) :
    Calls Tryz.prog 83 #[rxV 3 r ra rn rc mn mx lz cp nm ka kn kc] w fun e w' => e = .returned (.bool false) ∧ w' = w.alloc (rxX 3 r ra rn rc mn mx lz cp nm ka kn kc) := by
  subst hlz
  go_enter Tryz.func83, Tryz.ntmps83
  go_wp2
  go_ret
  exact ⟨rfl, rfl⟩

set_option maxHeartbeats 1000000 in
set_option maxRecDepth 100000 in
theorem stray_6_0 (r : Int) (ra : Option Addr) (rn rc : Nat) (mn mx : Int) (lz : Bool) (cp : Int) (nm : ByteArray) (ka : Option Addr) (kn kc : Nat) (w : World) (hr : (r != 0) = true) :
    Calls Tryz.prog 83 #[rxV 6 r ra rn rc mn mx lz cp nm ka kn kc] w fun e w' => e = .returned (.bool true) ∧ w' = w.alloc (rxX 6 r ra rn rc mn mx lz cp nm ka kn kc) := by
  go_enter Tryz.func83, Tryz.ntmps83
  go_wp2
  go_ret
  exact ⟨rfl, rfl⟩

set_option maxHeartbeats 1000000 in
set_option maxRecDepth 100000 in
theorem stray_6_1 (r : Int) (ra : Option Addr) (rn rc : Nat) (mn mx : Int) (lz : Bool) (cp : Int) (nm : ByteArray) (ka : Option Addr) (kn kc : Nat) (w : World) (hr : (r != 0) = false) (hrn : ((rn : Int) != 0) = true) :
    Calls Tryz.prog 83 #[rxV 6 r ra rn rc mn mx lz cp nm ka kn kc] w fun e w' => e = .returned (.bool true) ∧ w' = w.alloc (rxX 6 r ra rn rc mn mx lz cp nm ka kn kc) := by
  go_enter Tryz.func83, Tryz.ntmps83
  go_wp2
  go_ret
  exact ⟨rfl, rfl⟩

set_option maxHeartbeats 1000000 in
set_option maxRecDepth 100000 in
theorem stray_6_2 (r : Int) (ra : Option Addr) (rn rc : Nat) (mn mx : Int) (lz : Bool) (cp : Int) (nm : ByteArray) (ka : Option Addr) (kn kc : Nat) (w : World) (hr : (r != 0) = false) (hrn : ((rn : Int) != 0) = false) (hcp : (cp != 0) = true) :
    Calls Tryz.prog 83 #[rxV 6 r ra rn rc mn mx lz cp nm ka kn kc] w fun e w' => e = .returned (.bool true) ∧ w' = w.alloc (rxX 6 r ra rn rc mn mx lz cp nm ka kn kc) := by
  go_enter Tryz.func83, Tryz.ntmps83
  go_wp2
  go_ret
  exact ⟨rfl, rfl⟩

set_option maxHeartbeats 1000000 in
set_option maxRecDepth 100000 in
theorem stray_6_3 (r : Int) (ra : Option Addr) (rn rc : Nat) (mn mx : Int) (lz : Bool) (cp : Int) (nm : ByteArray) (ka : Option Addr) (kn kc : Nat) (w : World) (hr : (r != 0) = false) (hrn : ((rn : Int) != 0) = false) (hcp : (cp != 0) = false) (hnm : nm.toList.isEmpty = false) :
    Calls Tryz.prog 83 #[rxV 6 r ra rn rc mn mx lz cp nm ka kn kc] w fun e w' => e = .returned (.bool true) ∧ w' = w.alloc (rxX 6 r ra rn rc mn mx lz cp nm ka kn kc) := by
  go_enter Tryz.func83, Tryz.ntmps83
  go_wp2
  go_ret
  exact ⟨rfl, rfl⟩

set_option maxHeartbeats 1000000 in
set_option maxRecDepth 100000 in
theorem stray_6_4 (r : Int) (ra : Option Addr) (rn rc : Nat) (mn mx : Int) (lz : Bool) (cp : Int) (nm : ByteArray) (ka : Option Addr) (kn kc : Nat) (w : World) (hr : (r != 0) = false) (hrn : ((rn : Int) != 0) = false) (hcp : (cp != 0) = false) (hnm : nm.toList.isEmpty = true) :
    Calls Tryz.prog 83 #[rxV 6 r ra rn rc mn mx lz cp nm ka kn kc] w fun e w' => e = .returned (.bool false) ∧ w' = w.alloc (rxX 6 r ra rn rc mn mx lz cp nm ka kn kc) := by
  go_enter Tryz.func83, Tryz.ntmps83
  go_wp2
  go_ret
  exact ⟨rfl, rfl⟩

set_option maxHeartbeats 1000000 in
set_option maxRecDepth 100000 in
theorem stray_7_0 (r : Int) (ra : Option Addr) (rn rc : Nat) (mn mx : Int) (lz : Bool) (cp : Int) (nm : ByteArray) (ka : Option Addr) (kn kc : Nat) (w : World) (hr : (r != 0) = true) :
    Calls Tryz.prog 83 #[rxV 7 r ra rn rc mn mx lz cp nm ka kn kc] w fun e w' => e = .returned (.bool true) ∧ w' = w.alloc (rxX 7 r ra rn rc mn mx lz cp nm ka kn kc) := by
  go_enter Tryz.func83, Tryz.ntmps83
  go_wp2
  go_ret
  exact ⟨rfl, rfl⟩

set_option maxHeartbeats 1000000 in
set_option maxRecDepth 100000 in
theorem stray_7_1 (r : Int) (ra : Option Addr) (rn rc : Nat) (mn mx : Int) (lz : Bool) (cp : Int) (nm : ByteArray) (ka : Option Addr) (kn kc : Nat) (w : World) (hr : (r != 0) = false) (hrn : ((rn : Int) != 0) = true) :
    Calls Tryz.prog 83 #[rxV 7 r ra rn rc mn mx lz cp nm ka kn kc] w fun e w' => e = .returned (.bool true) ∧ w' = w.alloc (rxX 7 r ra rn rc mn mx lz cp nm ka kn kc) := by
  go_enter Tryz.func83, Tryz.ntmps83
  go_wp2
  go_ret
  exact ⟨rfl, rfl⟩

set_option maxHeartbeats 1000000 in
set_option maxRecDepth 100000 in
theorem stray_7_2 (r : Int) (ra : Option Addr) (rn rc : Nat) (mn mx : Int) (lz : Bool) (cp : Int) (nm : ByteArray) (ka : Option Addr) (kn kc : Nat) (w : World) (hr : (r != 0) = false) (hrn : ((rn : Int) != 0) = false) (hmn : (mn != 0) = true) :
    Calls Tryz.prog 83 #[rxV 7 r ra rn rc mn mx lz cp nm ka kn kc] w fun e w' => e = .returned (.bool true) ∧ w' = w.alloc (rxX 7 r ra rn rc mn mx lz cp nm ka kn kc) := by
  go_enter Tryz.func83, Tryz.ntmps83
  go_wp2
  go_ret
  exact ⟨rfl, rfl⟩

set_option maxHeartbeats 1000000 in
set_option maxRecDepth 100000 in
theorem stray_7_3 (r : Int) (ra : Option Addr) (rn rc : Nat) (mn mx : Int) (lz : Bool) (cp : Int) (nm : ByteArray) (ka : Option Addr) (kn kc : Nat) (w : World) (hr : (r != 0) = false) (hrn : ((rn : Int) != 0) = false) (hmn : (mn != 0) = false) (hmx : (mx != 0) = true) :
    Calls Tryz.prog 83 #[rxV 7 r ra rn rc mn mx lz cp nm ka kn kc] w fun e w' => e = .returned (.bool true) ∧ w' = w.alloc (rxX 7 r ra rn rc mn mx lz cp nm ka kn kc) := by
  go_enter Tryz.func83, Tryz.ntmps83
  go_wp2
  go_ret
  exact ⟨rfl, rfl⟩

set_option maxHeartbeats 1000000 in
set_option maxRecDepth 100000 in
theorem stray_7_4 (r : Int) (ra : Option Addr) (rn rc : Nat) (mn mx : Int) (lz : Bool) (cp : Int) (nm : ByteArray) (ka : Option Addr) (kn kc : Nat) (w : World) (hr : (r != 0) = false) (hrn : ((rn : Int) != 0) = false) (hmn : (mn != 0) = false) (hmx : (mx != 0) = false) (hlz : lz = true) :
    Calls Tryz.prog 83 #[rxV 7 r ra rn rc mn mx lz cp nm ka kn kc] w fun e w' => e = .returned (.bool true) ∧ w' = w.alloc (rxX 7 r ra rn rc mn mx lz cp nm ka kn kc) := by
  subst hlz
  go_enter Tryz.func83, Tryz.ntmps83
  go_wp2
  go_ret
  exact ⟨rfl, rfl⟩

set_option maxHeartbeats 1000000 in
set_option maxRecDepth 100000 in
theorem stray_7_5 (r : Int) (ra : Option Addr) (rn rc : Nat) (mn mx : Int) (lz : Bool) (cp : Int) (nm : ByteArray) (ka : Option Addr) (kn kc : Nat) (w : World) (hr : (r != 0) = false) (hrn : ((rn : Int) != 0) = false) (hmn : (mn != 0) = false) (hmx : (mx != 0) = false) (hlz : lz = false) :
    Calls Tryz.prog 83 #[rxV 7 r ra rn rc mn mx lz cp nm ka kn kc] w fun e w' => e = .returned (.bool false) ∧ w' = w.alloc (rxX 7 r ra rn rc mn mx lz cp nm ka kn kc) := by
  subst hlz
  go_enter Tryz.func83, Tryz.ntmps83
  go_wp2
  go_ret
  exact ⟨rfl, rfl⟩

set_option maxHeartbeats 1000000 in
set_option maxRecDepth 100000 in
theorem stray_0_0 (kind r : Int) (ra : Option Addr) (rn rc : Nat) (mn mx : Int) (lz : Bool) (cp : Int) (nm : ByteArray) (ka : Option Addr) (kn kc : Nat) (w : World) (_k2 : (kind != 2) = true) (_k3 : (kind != 3) = true) (_k6 : (kind != 6) = true) (_k7 : (kind != 7) = true) (hr : (r != 0) = true) :
    Calls Tryz.prog 83 #[rxV kind r ra rn rc mn mx lz cp nm ka kn kc] w fun e w' => e = .returned (.bool true) ∧ w' = w.alloc (rxX kind r ra rn rc mn mx lz cp nm ka kn kc) := by
  go_enter Tryz.func83, Tryz.ntmps83
  go_wp2
  go_ret
  exact ⟨rfl, rfl⟩

set_option maxHeartbeats 1000000 in
set_option maxRecDepth 100000 in
theorem stray_0_1 (kind r : Int) (ra : Option Addr) (rn rc : Nat) (mn mx : Int) (lz : Bool) (cp : Int) (nm : ByteArray) (ka : Option Addr) (kn kc : Nat) (w : World) (_k2 : (kind != 2) = true) (_k3 : (kind != 3) = true) (_k6 : (kind != 6) = true) (_k7 : (kind != 7) = true) (hr : (r != 0) = false) (hrn : ((rn : Int) != 0) = true) :
    Calls Tryz.prog 83 #[rxV kind r ra rn rc mn mx lz cp nm ka kn kc] w fun e w' => e = .returned (.bool true) ∧ w' = w.alloc (rxX kind r ra rn rc mn mx lz cp nm ka kn kc) := by
  go_enter Tryz.func83, Tryz.ntmps83
  go_wp2
  go_ret
  exact ⟨rfl, rfl⟩

set_option maxHeartbeats 1000000 in
set_option maxRecDepth 100000 in
theorem stray_0_2 (kind r : Int) (ra : Option Addr) (rn rc : Nat) (mn mx : Int) (lz : Bool) (cp : Int) (nm : ByteArray) (ka : Option Addr) (kn kc : Nat) (w : World) (_k2 : (kind != 2) = true) (_k3 : (kind != 3) = true) (_k6 : (kind != 6) = true) (_k7 : (kind != 7) = true) (hr : (r != 0) = false) (hrn : ((rn : Int) != 0) = false) (hmn : (mn != 0) = true) :
    Calls Tryz.prog 83 #[rxV kind r ra rn rc mn mx lz cp nm ka kn kc] w fun e w' => e = .returned (.bool true) ∧ w' = w.alloc (rxX kind r ra rn rc mn mx lz cp nm ka kn kc) := by
  go_enter Tryz.func83, Tryz.ntmps83
  go_wp2
  go_ret
  exact ⟨rfl, rfl⟩

set_option maxHeartbeats 1000000 in
set_option maxRecDepth 100000 in
theorem stray_0_3 (kind r : Int) (ra : Option Addr) (rn rc : Nat) (mn mx : Int) (lz : Bool) (cp : Int) (nm : ByteArray) (ka : Option Addr) (kn kc : Nat) (w : World) (_k2 : (kind != 2) = true) (_k3 : (kind != 3) = true) (_k6 : (kind != 6) = true) (_k7 : (kind != 7) = true) (hr : (r != 0) = false) (hrn : ((rn : Int) != 0) = false) (hmn : (mn != 0) = false) (hmx : (mx != 0) = true) :
    Calls Tryz.prog 83 #[rxV kind r ra rn rc mn mx lz cp nm ka kn kc] w fun e w' => e = .returned (.bool true) ∧ w' = w.alloc (rxX kind r ra rn rc mn mx lz cp nm ka kn kc) := by
  go_enter Tryz.func83, Tryz.ntmps83
  go_wp2
  go_ret
  exact ⟨rfl, rfl⟩

set_option maxHeartbeats 1000000 in
set_option maxRecDepth 100000 in
theorem stray_0_4 (kind r : Int) (ra : Option Addr) (rn rc : Nat) (mn mx : Int) (lz : Bool) (cp : Int) (nm : ByteArray) (ka : Option Addr) (kn kc : Nat) (w : World) (_k2 : (kind != 2) = true) (_k3 : (kind != 3) = true) (_k6 : (kind != 6) = true) (_k7 : (kind != 7) = true) (hr : (r != 0) = false) (hrn : ((rn : Int) != 0) = false) (hmn : (mn != 0) = false) (hmx : (mx != 0) = false) (hlz : lz = true) :
    Calls Tryz.prog 83 #[rxV kind r ra rn rc mn mx lz cp nm ka kn kc] w fun e w' => e = .returned (.bool true) ∧ w' = w.alloc (rxX kind r ra rn rc mn mx lz cp nm ka kn kc) := by
  subst hlz
  go_enter Tryz.func83, Tryz.ntmps83
  go_wp2
  go_ret
  exact ⟨rfl, rfl⟩

set_option maxHeartbeats 1000000 in
set_option maxRecDepth 100000 in
theorem stray_0_5 (kind r : Int) (ra : Option Addr) (rn rc : Nat) (mn mx : Int) (lz : Bool) (cp : Int) (nm : ByteArray) (ka : Option Addr) (kn kc : Nat) (w : World) (_k2 : (kind != 2) = true) (_k3 : (kind != 3) = true) (_k6 : (kind != 6) = true) (_k7 : (kind != 7) = true) (hr : (r != 0) = false) (hrn : ((rn : Int) != 0) = false) (hmn : (mn != 0) = false) (hmx : (mx != 0) = false) (hlz : lz = false) (hcp : (cp != 0) = true) :
    Calls Tryz.prog 83 #[rxV kind r ra rn rc mn mx lz cp nm ka kn kc] w fun e w' => e = .returned (.bool true) ∧ w' = w.alloc (rxX kind r ra rn rc mn mx lz cp nm ka kn kc) := by
  subst hlz
  go_enter Tryz.func83, Tryz.ntmps83
  go_wp2
  go_ret
  exact ⟨rfl, rfl⟩

set_option maxHeartbeats 1000000 in
set_option maxRecDepth 100000 in
theorem stray_0_6 (kind r : Int) (ra : Option Addr) (rn rc : Nat) (mn mx : Int) (lz : Bool) (cp : Int) (nm : ByteArray) (ka : Option Addr) (kn kc : Nat) (w : World) (_k2 : (kind != 2) = true) (_k3 : (kind != 3) = true) (_k6 : (kind != 6) = true) (_k7 : (kind != 7) = true) (hr : (r != 0) = false) (hrn : ((rn : Int) != 0) = false) (hmn : (mn != 0) = false) (hmx : (mx != 0) = false) (hlz : lz = false) (hcp : (cp != 0) = false) (hnm : nm.toList.isEmpty = false) :
    Calls Tryz.prog 83 #[rxV kind r ra rn rc mn mx lz cp nm ka kn kc] w fun e w' => e = .returned (.bool true) ∧ w' = w.alloc (rxX kind r ra rn rc mn mx lz cp nm ka kn kc) := by
  subst hlz
  go_enter Tryz.func83, Tryz.ntmps83
  go_wp2
  go_ret
  exact ⟨rfl, rfl⟩

set_option maxHeartbeats 1000000 in
set_option maxRecDepth 100000 in
theorem stray_0_7 (kind r : Int) (ra : Option Addr) (rn rc : Nat) (mn mx : Int) (lz : Bool) (cp : Int) (nm : ByteArray) (ka : Option Addr) (kn kc : Nat) (w : World) (_k2 : (kind != 2) = true) (_k3 : (kind != 3) = true) (_k6 : (kind != 6) = true) (_k7 : (kind != 7) = true) (hr : (r != 0) = false) (hrn : ((rn : Int) != 0) = false) (hmn : (mn != 0) = false) (hmx : (mx != 0) = false) (hlz : lz = false) (hcp : (cp != 0) = false) (hnm : nm.toList.isEmpty = true) :
    Calls Tryz.prog 83 #[rxV kind r ra rn rc mn mx lz cp nm ka kn kc] w fun e w' => e = .returned (.bool false) ∧ w' = w.alloc (rxX kind r ra rn rc mn mx lz cp nm ka kn kc) := by
  subst hlz
  go_enter Tryz.func83, Tryz.ntmps83
  go_wp2
  go_ret
  exact ⟨rfl, rfl⟩

theorem stray_any (d : Nd) (w : World) : Calls Tryz.prog 83 #[ndV d] w fun e w' => e = .returned (.bool (stB d)) ∧ w' = w.alloc (ndX d) := by
  obtain ⟨kind, r, ra, rn, rc, rf, mn, mx, lz, cp, nm, ka, kn, kc⟩ := d
  unfold stB
  dsimp only
  by_cases e2 : kind = 2
  · subst e2
    cases hrn : ((rn : Int) != 0)
    rotate_left
    · have := stray_2_0 r ra rn rc mn mx lz cp nm ka kn kc w hrn
      simpa [hrn] using this
    cases hmn : (mn != 0)
    rotate_left
    · have := stray_2_1 r ra rn rc mn mx lz cp nm ka kn kc w hrn hmn
      simpa [hrn, hmn] using this
    cases hmx : (mx != 0)
    rotate_left
    · have := stray_2_2 r ra rn rc mn mx lz cp nm ka kn kc w hrn hmn hmx
      simpa [hrn, hmn, hmx] using this
    cases hlz : lz
    rotate_left
    · have := stray_2_3 r ra rn rc mn mx lz cp nm ka kn kc w hrn hmn hmx hlz
      simpa [hrn, hmn, hmx, hlz] using this
    cases hcp : (cp != 0)
    rotate_left
    · have := stray_2_4 r ra rn rc mn mx lz cp nm ka kn kc w hrn hmn hmx hlz hcp
      simpa [hrn, hmn, hmx, hlz, hcp] using this
    cases hnm : nm.toList.isEmpty
    · have := stray_2_5 r ra rn rc mn mx lz cp nm ka kn kc w hrn hmn hmx hlz hcp hnm
      simpa [hrn, hmn, hmx, hlz, hcp, hnm] using this
    have := stray_2_6 r ra rn rc mn mx lz cp nm ka kn kc w hrn hmn hmx hlz hcp hnm
    simpa [hrn, hmn, hmx, hlz, hcp, hnm] using this
  by_cases e3 : kind = 3
  · subst e3
    cases hr : (r != 0)
    rotate_left
    · have := stray_3_0 r ra rn rc mn mx lz cp nm ka kn kc w hr
      simpa [hr] using this
    cases hmn : (mn != 0)
    rotate_left
    · have := stray_3_1 r ra rn rc mn mx lz cp nm ka kn kc w hr hmn
      simpa [hr, hmn] using this
    cases hmx : (mx != 0)
    rotate_left
    · have := stray_3_2 r ra rn rc mn mx lz cp nm ka kn kc w hr hmn hmx
      simpa [hr, hmn, hmx] using this
    cases hlz : lz
    rotate_left
    · have := stray_3_3 r ra rn rc mn mx lz cp nm ka kn kc w hr hmn hmx hlz
      simpa [hr, hmn, hmx, hlz] using this
    cases hcp : (cp != 0)
    rotate_left
    · have := stray_3_4 r ra rn rc mn mx lz cp nm ka kn kc w hr hmn hmx hlz hcp
      simpa [hr, hmn, hmx, hlz, hcp] using this
    cases hnm : nm.toList.isEmpty
    · have := stray_3_5 r ra rn rc mn mx lz cp nm ka kn kc w hr hmn hmx hlz hcp hnm
      simpa [hr, hmn, hmx, hlz, hcp, hnm] using this
    have := stray_3_6 r ra rn rc mn mx lz cp nm ka kn kc w hr hmn hmx hlz hcp hnm
    simpa [hr, hmn, hmx, hlz, hcp, hnm] using this
  by_cases e6 : kind = 6
  · subst e6
    cases hr : (r != 0)
    rotate_left
    · have := stray_6_0 r ra rn rc mn mx lz cp nm ka kn kc w hr
      simpa [hr] using this
    cases hrn : ((rn : Int) != 0)
    rotate_left
    · have := stray_6_1 r ra rn rc mn mx lz cp nm ka kn kc w hr hrn
      simpa [hr, hrn] using this
    cases hcp : (cp != 0)
    rotate_left
    · have := stray_6_2 r ra rn rc mn mx lz cp nm ka kn kc w hr hrn hcp
      simpa [hr, hrn, hcp] using this
    cases hnm : nm.toList.isEmpty
    · have := stray_6_3 r ra rn rc mn mx lz cp nm ka kn kc w hr hrn hcp hnm
      simpa [hr, hrn, hcp, hnm] using this
    have := stray_6_4 r ra rn rc mn mx lz cp nm ka kn kc w hr hrn hcp hnm
    simpa [hr, hrn, hcp, hnm] using this
  by_cases e7 : kind = 7
  · subst e7
    cases hr : (r != 0)
    rotate_left
    · have := stray_7_0 r ra rn rc mn mx lz cp nm ka kn kc w hr
      simpa [hr] using this
    cases hrn : ((rn : Int) != 0)
    rotate_left
    · have := stray_7_1 r ra rn rc mn mx lz cp nm ka kn kc w hr hrn
      simpa [hr, hrn] using this
    cases hmn : (mn != 0)
    rotate_left
    · have := stray_7_2 r ra rn rc mn mx lz cp nm ka kn kc w hr hrn hmn
      simpa [hr, hrn, hmn] using this
    cases hmx : (mx != 0)
    rotate_left
    · have := stray_7_3 r ra rn rc mn mx lz cp nm ka kn kc w hr hrn hmn hmx
      simpa [hr, hrn, hmn, hmx] using this
    cases hlz : lz
    rotate_left
    · have := stray_7_4 r ra rn rc mn mx lz cp nm ka kn kc w hr hrn hmn hmx hlz
      simpa [hr, hrn, hmn, hmx, hlz] using this
    have := stray_7_5 r ra rn rc mn mx lz cp nm ka kn kc w hr hrn hmn hmx hlz
    simpa [hr, hrn, hmn, hmx, hlz] using this
  have k2 : (kind != 2) = true := by simpa using e2
  have k3 : (kind != 3) = true := by simpa using e3
  have k6 : (kind != 6) = true := by simpa using e6
  have k7 : (kind != 7) = true := by simpa using e7
  cases hr : (r != 0)
  rotate_left
  · have := stray_0_0 kind r ra rn rc mn mx lz cp nm ka kn kc w k2 k3 k6 k7 hr
    simpa [k2, k3, k6, k7, hr] using this
  cases hrn : ((rn : Int) != 0)
  rotate_left
  · have := stray_0_1 kind r ra rn rc mn mx lz cp nm ka kn kc w k2 k3 k6 k7 hr hrn
    simpa [k2, k3, k6, k7, hr, hrn] using this
  cases hmn : (mn != 0)
  rotate_left
  · have := stray_0_2 kind r ra rn rc mn mx lz cp nm ka kn kc w k2 k3 k6 k7 hr hrn hmn
    simpa [k2, k3, k6, k7, hr, hrn, hmn] using this
  cases hmx : (mx != 0)
  rotate_left
  · have := stray_0_3 kind r ra rn rc mn mx lz cp nm ka kn kc w k2 k3 k6 k7 hr hrn hmn hmx
    simpa [k2, k3, k6, k7, hr, hrn, hmn, hmx] using this
  cases hlz : lz
  rotate_left
  · have := stray_0_4 kind r ra rn rc mn mx lz cp nm ka kn kc w k2 k3 k6 k7 hr hrn hmn hmx hlz
    simpa [k2, k3, k6, k7, hr, hrn, hmn, hmx, hlz] using this
  cases hcp : (cp != 0)
  rotate_left
  · have := stray_0_5 kind r ra rn rc mn mx lz cp nm ka kn kc w k2 k3 k6 k7 hr hrn hmn hmx hlz hcp
    simpa [k2, k3, k6, k7, hr, hrn, hmn, hmx, hlz, hcp] using this
  cases hnm : nm.toList.isEmpty
  · have := stray_0_6 kind r ra rn rc mn mx lz cp nm ka kn kc w k2 k3 k6 k7 hr hrn hmn hmx hlz hcp hnm
    simpa [k2, k3, k6, k7, hr, hrn, hmn, hmx, hlz, hcp, hnm] using this
  have := stray_0_7 kind r ra rn rc mn mx lz cp nm ka kn kc w k2 k3 k6 k7 hr hrn hmn hmx hlz hcp hnm
  simpa [k2, k3, k6, k7, hr, hrn, hmn, hmx, hlz, hcp, hnm] using this

end Go.Proofs.YtajaadagejhllaaGreatDoor
