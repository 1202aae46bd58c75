/- A bundle of texts. -/
import Derived.Test.YtajaadagejhllaaGreatDoorBs02
import Derived.Test.YtajaadagejhllaaGreatDoorBs03
import Derived.Test.YtajaadagejhllaaGreatDoorBs04
/- Trees: isSound. -/
namespace Go.Proofs.YtajaadagejhllaaGreatDoor
open Go.RowKit

/-- Is a node, its kids and stray fields aside, as its kind asks? -/
def kdB (d : Nd) : Bool := if d.kind = 2 then ((d.kn : Int) == 0) && ruB d.r else if d.kind = 3 then ((d.kn : Int) == 0) && setB d.rf d.rn else if d.kind = 4 ∨ d.kind = 5 then decide (2 ≤ (d.kn : Int)) else if d.kind = 6 then ((d.kn : Int) == 1) && tiB d.mn d.mx else if d.kind = 7 then ((d.kn : Int) == 1) && nmB d.nm else if d.kind = 1 ∨ 8 ≤ d.kind ∧ d.kind ≤ 13 then ((d.kn : Int) == 0) else false
def ndB (d : Nd) : Bool := !stB d && kdB d
theorem two_below {w : World} (x y : Obj) : Below w.heap.size w ((w.alloc x).alloc y) := ((Below.refl _ _).alloc (Nat.le_refl _) _).alloc (by simp) _

set_option maxHeartbeats 1000000 in
set_option maxRecDepth 100000 in
theorem sound_no (d : Nd) (w : World) (hs : stB d = true) :
    Calls Tryz.prog 66 #[ndV d] w fun e w' => e = .returned (.bool false) ∧ Below w.heap.size w w' := by
  have kS := stray_any d
  rw [hs] at kS
  go_enter Tryz.func66, Tryz.ntmps66
  go_wp2_with fail
  go_fit (kS _)
  rintro e w1 ⟨rfl, rfl⟩
  go_wp2
  go_ret
  exact ⟨rfl, two_below _ _⟩

set_option maxHeartbeats 1000000 in
set_option maxRecDepth 100000 in
theorem sound_1_true (r : Int) (ra : Option Addr) (rn rc : Nat) (rf : Nat → Rg) (mn mx : Int) (lz : Bool) (cp : Int) (nm : ByteArray) (ka : Option Addr) (kn kc : Nat) (w : World) (hs : stB ⟨1, r, ra, rn, rc, rf, mn, mx, lz, cp, nm, ka, kn, kc⟩ = false) (h0 : ((kn : Int) == 0) = true) :
    Calls Tryz.prog 66 #[rxV 1 r ra rn rc mn mx lz cp nm ka kn kc] w fun e w' => e = .returned (.bool true) ∧ Below w.heap.size w w' := by
  have kS := stray_any ⟨1, r, ra, rn, rc, rf, mn, mx, lz, cp, nm, ka, kn, kc⟩
  rw [hs] at kS
  go_enter Tryz.func66, Tryz.ntmps66
  go_wp2_with fail
  go_fit (kS _)
  rintro e w1 ⟨rfl, rfl⟩
  go_wp2
  go_ret
  exact ⟨rfl, two_below _ _⟩

set_option maxHeartbeats 1000000 in
set_option maxRecDepth 100000 in
theorem sound_1_false (r : Int) (ra : Option Addr) (rn rc : Nat) (rf : Nat → Rg) (mn mx : Int) (lz : Bool) (cp : Int) (nm : ByteArray) (ka : Option Addr) (kn kc : Nat) (w : World) (hs : stB ⟨1, r, ra, rn, rc, rf, mn, mx, lz, cp, nm, ka, kn, kc⟩ = false) (h0 : ((kn : Int) == 0) = false) :
    Calls Tryz.prog 66 #[rxV 1 r ra rn rc mn mx lz cp nm ka kn kc] w fun e w' => e = .returned (.bool false) ∧ Below w.heap.size w w' := by
  have kS := stray_any ⟨1, r, ra, rn, rc, rf, mn, mx, lz, cp, nm, ka, kn, kc⟩
  rw [hs] at kS
  go_enter Tryz.func66, Tryz.ntmps66
  go_wp2_with fail
  go_fit (kS _)
  rintro e w1 ⟨rfl, rfl⟩
  go_wp2
  go_ret
  exact ⟨rfl, two_below _ _⟩

set_option maxHeartbeats 1000000 in
set_option maxRecDepth 100000 in
theorem sound_8_true (r : Int) (ra : Option Addr) (rn rc : Nat) (rf : Nat → Rg) (mn mx : Int) (lz : Bool) (cp : Int) (nm : ByteArray) (ka : Option Addr) (kn kc : Nat) (w : World) (hs : stB ⟨8, r, ra, rn, rc, rf, mn, mx, lz, cp, nm, ka, kn, kc⟩ = false) (h0 : ((kn : Int) == 0) = true) :
    Calls Tryz.prog 66 #[rxV 8 r ra rn rc mn mx lz cp nm ka kn kc] w fun e w' => e = .returned (.bool true) ∧ Below w.heap.size w w' := by
  have kS := stray_any ⟨8, r, ra, rn, rc, rf, mn, mx, lz, cp, nm, ka, kn, kc⟩
  rw [hs] at kS
  go_enter Tryz.func66, Tryz.ntmps66
  go_wp2_with fail
  go_fit (kS _)
  rintro e w1 ⟨rfl, rfl⟩
  go_wp2
  go_ret
  exact ⟨rfl, two_below _ _⟩

set_option maxHeartbeats 1000000 in
set_option maxRecDepth 100000 in
theorem sound_8_false (r : Int) (ra : Option Addr) (rn rc : Nat) (rf : Nat → Rg) (mn mx : Int) (lz : Bool) (cp : Int) (nm : ByteArray) (ka : Option Addr) (kn kc : Nat) (w : World) (hs : stB ⟨8, r, ra, rn, rc, rf, mn, mx, lz, cp, nm, ka, kn, kc⟩ = false) (h0 : ((kn : Int) == 0) = false) :
    Calls Tryz.prog 66 #[rxV 8 r ra rn rc mn mx lz cp nm ka kn kc] w fun e w' => e = .returned (.bool false) ∧ Below w.heap.size w w' := by
  have kS := stray_any ⟨8, r, ra, rn, rc, rf, mn, mx, lz, cp, nm, ka, kn, kc⟩
  rw [hs] at kS
  go_enter Tryz.func66, Tryz.ntmps66
  go_wp2_with fail
  go_fit (kS _)
  rintro e w1 ⟨rfl, rfl⟩
  go_wp2
  go_ret
  exact ⟨rfl, two_below _ _⟩

set_option maxHeartbeats 1000000 in
set_option maxRecDepth 100000 in
theorem sound_9_true (r : Int) (ra : Option Addr) (rn rc : Nat) (rf : Nat → Rg) (mn mx : Int) (lz : Bool) (cp : Int) (nm : ByteArray) (ka : Option Addr) (kn kc : Nat) (w : World) (hs : stB ⟨9, r, ra, rn, rc, rf, mn, mx, lz, cp, nm, ka, kn, kc⟩ = false) (h0 : ((kn : Int) == 0) = true) :
    Calls Tryz.prog 66 #[rxV 9 r ra rn rc mn mx lz cp nm ka kn kc] w fun e w' => e = .returned (.bool true) ∧ Below w.heap.size w w' := by
  have kS := stray_any ⟨9, r, ra, rn, rc, rf, mn, mx, lz, cp, nm, ka, kn, kc⟩
  rw [hs] at kS
  go_enter Tryz.func66, Tryz.ntmps66
  go_wp2_with fail
  go_fit (kS _)
  rintro e w1 ⟨rfl, rfl⟩
  go_wp2
  go_ret
  exact ⟨rfl, two_below _ _⟩

set_option maxHeartbeats 1000000 in
set_option maxRecDepth 100000 in
theorem sound_9_false (r : Int) (ra : Option Addr) (rn rc : Nat) (rf : Nat → Rg) (mn mx : Int) (lz : Bool) (cp : Int) (nm : ByteArray) (ka : Option Addr) (kn kc : Nat) (w : World) (hs : stB ⟨9, r, ra, rn, rc, rf, mn, mx, lz, cp, nm, ka, kn, kc⟩ = false) (h0 : ((kn : Int) == 0) = false) :
    Calls Tryz.prog 66 #[rxV 9 r ra rn rc mn mx lz cp nm ka kn kc] w fun e w' => e = .returned (.bool false) ∧ Below w.heap.size w w' := by
  have kS := stray_any ⟨9, r, ra, rn, rc, rf, mn, mx, lz, cp, nm, ka, kn, kc⟩
  rw [hs] at kS
  go_enter Tryz.func66, Tryz.ntmps66
  go_wp2_with fail
  go_fit (kS _)
  rintro e w1 ⟨rfl, rfl⟩
  go_wp2
  go_ret
  exact ⟨rfl, two_below _ _⟩

set_option maxHeartbeats 1000000 in
set_option maxRecDepth 100000 in
theorem sound_10_true (r : Int) (ra : Option Addr) (rn rc : Nat) (rf : Nat → Rg) (mn mx : Int) (lz : Bool) (cp : Int) (nm : ByteArray) (ka : Option Addr) (kn kc : Nat) (w : World) (hs : stB ⟨10, r, ra, rn, rc, rf, mn, mx, lz, cp, nm, ka, kn, kc⟩ = false) (h0 : ((kn : Int) == 0) = true) :
    Calls Tryz.prog 66 #[rxV 10 r ra rn rc mn mx lz cp nm ka kn kc] w fun e w' => e = .returned (.bool true) ∧ Below w.heap.size w w' := by
  have kS := stray_any ⟨10, r, ra, rn, rc, rf, mn, mx, lz, cp, nm, ka, kn, kc⟩
  rw [hs] at kS
  go_enter Tryz.func66, Tryz.ntmps66
  go_wp2_with fail
  go_fit (kS _)
  rintro e w1 ⟨rfl, rfl⟩
  go_wp2
  go_ret
  exact ⟨rfl, two_below _ _⟩

set_option maxHeartbeats 1000000 in
set_option maxRecDepth 100000 in
theorem sound_10_false (r : Int) (ra : Option Addr) (rn rc : Nat) (rf : Nat → Rg) (mn mx : Int) (lz : Bool) (cp : Int) (nm : ByteArray) (ka : Option Addr) (kn kc : Nat) (w : World) (hs : stB ⟨10, r, ra, rn, rc, rf, mn, mx, lz, cp, nm, ka, kn, kc⟩ = false) (h0 : ((kn : Int) == 0) = false) :
    Calls Tryz.prog 66 #[rxV 10 r ra rn rc mn mx lz cp nm ka kn kc] w fun e w' => e = .returned (.bool false) ∧ Below w.heap.size w w' := by
  have kS := stray_any ⟨10, r, ra, rn, rc, rf, mn, mx, lz, cp, nm, ka, kn, kc⟩
  rw [hs] at kS
  go_enter Tryz.func66, Tryz.ntmps66
  go_wp2_with fail
  go_fit (kS _)
  rintro e w1 ⟨rfl, rfl⟩
  go_wp2
  go_ret
  exact ⟨rfl, two_below _ _⟩

set_option maxHeartbeats 1000000 in
set_option maxRecDepth 100000 in
theorem sound_11_true (r : Int) (ra : Option Addr) (rn rc : Nat) (rf : Nat → Rg) (mn mx : Int) (lz : Bool) (cp : Int) (nm : ByteArray) (ka : Option Addr) (kn kc : Nat) (w : World) (hs : stB ⟨11, r, ra, rn, rc, rf, mn, mx, lz, cp, nm, ka, kn, kc⟩ = false) (h0 : ((kn : Int) == 0) = true) :
    Calls Tryz.prog 66 #[rxV 11 r ra rn rc mn mx lz cp nm ka kn kc] w fun e w' => e = .returned (.bool true) ∧ Below w.heap.size w w' := by
  have kS := stray_any ⟨11, r, ra, rn, rc, rf, mn, mx, lz, cp, nm, ka, kn, kc⟩
  rw [hs] at kS
  go_enter Tryz.func66, Tryz.ntmps66
  go_wp2_with fail
  go_fit (kS _)
  rintro e w1 ⟨rfl, rfl⟩
  go_wp2
  go_ret
  exact ⟨rfl, two_below _ _⟩

set_option maxHeartbeats 1000000 in
set_option maxRecDepth 100000 in
theorem sound_11_false (r : Int) (ra : Option Addr) (rn rc : Nat) (rf : Nat → Rg) (mn mx : Int) (lz : Bool) (cp : Int) (nm : ByteArray) (ka : Option Addr) (kn kc : Nat) (w : World) (hs : stB ⟨11, r, ra, rn, rc, rf, mn, mx, lz, cp, nm, ka, kn, kc⟩ = false) (h0 : ((kn : Int) == 0) = false) :
    Calls Tryz.prog 66 #[rxV 11 r ra rn rc mn mx lz cp nm ka kn kc] w fun e w' => e = .returned (.bool false) ∧ Below w.heap.size w w' := by
  have kS := stray_any ⟨11, r, ra, rn, rc, rf, mn, mx, lz, cp, nm, ka, kn, kc⟩
  rw [hs] at kS
  go_enter Tryz.func66, Tryz.ntmps66
  go_wp2_with fail
  go_fit (kS _)
  rintro e w1 ⟨rfl, rfl⟩
  go_wp2
  go_ret
  exact ⟨rfl, two_below _ _⟩

set_option maxHeartbeats 1000000 in
set_option maxRecDepth 100000 in
theorem sound_12_true (r : Int) (ra : Option Addr) (rn rc : Nat) (rf : Nat → Rg) (mn mx : Int) (lz : Bool) (cp : Int) (nm : ByteArray) (ka : Option Addr) (kn kc : Nat) (w : World) (hs : stB ⟨12, r, ra, rn, rc, rf, mn, mx, lz, cp, nm, ka, kn, kc⟩ = false) (h0 : ((kn : Int) == 0) = true) :
    Calls Tryz.prog 66 #[rxV 12 r ra rn rc mn mx lz cp nm ka kn kc] w fun e w' => e = .returned (.bool true) ∧ Below w.heap.size w w' := by
  have kS := stray_any ⟨12, r, ra, rn, rc, rf, mn, mx, lz, cp, nm, ka, kn, kc⟩
  rw [hs] at kS
  go_enter Tryz.func66, Tryz.ntmps66
  go_wp2_with fail
  go_fit (kS _)
  rintro e w1 ⟨rfl, rfl⟩
  go_wp2
  go_ret
  exact ⟨rfl, two_below _ _⟩

set_option maxHeartbeats 1000000 in
set_option maxRecDepth 100000 in
theorem sound_12_false (r : Int) (ra : Option Addr) (rn rc : Nat) (rf : Nat → Rg) (mn mx : Int) (lz : Bool) (cp : Int) (nm : ByteArray) (ka : Option Addr) (kn kc : Nat) (w : World) (hs : stB ⟨12, r, ra, rn, rc, rf, mn, mx, lz, cp, nm, ka, kn, kc⟩ = false) (h0 : ((kn : Int) == 0) = false) :
    Calls Tryz.prog 66 #[rxV 12 r ra rn rc mn mx lz cp nm ka kn kc] w fun e w' => e = .returned (.bool false) ∧ Below w.heap.size w w' := by
  have kS := stray_any ⟨12, r, ra, rn, rc, rf, mn, mx, lz, cp, nm, ka, kn, kc⟩
  rw [hs] at kS
  go_enter Tryz.func66, Tryz.ntmps66
  go_wp2_with fail
  go_fit (kS _)
  rintro e w1 ⟨rfl, rfl⟩
  go_wp2
  go_ret
  exact ⟨rfl, two_below _ _⟩

set_option maxHeartbeats 1000000 in
set_option maxRecDepth 100000 in
theorem sound_13_true (r : Int) (ra : Option Addr) (rn rc : Nat) (rf : Nat → Rg) (mn mx : Int) (lz : Bool) (cp : Int) (nm : ByteArray) (ka : Option Addr) (kn kc : Nat) (w : World) (hs : stB ⟨13, r, ra, rn, rc, rf, mn, mx, lz, cp, nm, ka, kn, kc⟩ = false) (h0 : ((kn : Int) == 0) = true) :
    Calls Tryz.prog 66 #[rxV 13 r ra rn rc mn mx lz cp nm ka kn kc] w fun e w' => e = .returned (.bool true) ∧ Below w.heap.size w w' := by
  have kS := stray_any ⟨13, r, ra, rn, rc, rf, mn, mx, lz, cp, nm, ka, kn, kc⟩
  rw [hs] at kS
  go_enter Tryz.func66, Tryz.ntmps66
  go_wp2_with fail
  go_fit (kS _)
  rintro e w1 ⟨rfl, rfl⟩
  go_wp2
  go_ret
  exact ⟨rfl, two_below _ _⟩

set_option maxHeartbeats 1000000 in
set_option maxRecDepth 100000 in
theorem sound_13_false (r : Int) (ra : Option Addr) (rn rc : Nat) (rf : Nat → Rg) (mn mx : Int) (lz : Bool) (cp : Int) (nm : ByteArray) (ka : Option Addr) (kn kc : Nat) (w : World) (hs : stB ⟨13, r, ra, rn, rc, rf, mn, mx, lz, cp, nm, ka, kn, kc⟩ = false) (h0 : ((kn : Int) == 0) = false) :
    Calls Tryz.prog 66 #[rxV 13 r ra rn rc mn mx lz cp nm ka kn kc] w fun e w' => e = .returned (.bool false) ∧ Below w.heap.size w w' := by
  have kS := stray_any ⟨13, r, ra, rn, rc, rf, mn, mx, lz, cp, nm, ka, kn, kc⟩
  rw [hs] at kS
  go_enter Tryz.func66, Tryz.ntmps66
  go_wp2_with fail
  go_fit (kS _)
  rintro e w1 ⟨rfl, rfl⟩
  go_wp2
  go_ret
  exact ⟨rfl, two_below _ _⟩

set_option maxHeartbeats 1000000 in
set_option maxRecDepth 100000 in
theorem sound_4_any (r : Int) (ra : Option Addr) (rn rc : Nat) (rf : Nat → Rg) (mn mx : Int) (lz : Bool) (cp : Int) (nm : ByteArray) (ka : Option Addr) (kn kc : Nat) (w : World) (hs : stB ⟨4, r, ra, rn, rc, rf, mn, mx, lz, cp, nm, ka, kn, kc⟩ = false) :
    Calls Tryz.prog 66 #[rxV 4 r ra rn rc mn mx lz cp nm ka kn kc] w fun e w' => e = .returned (.bool (decide (2 ≤ (kn : Int)))) ∧ Below w.heap.size w w' := by
  have kS := stray_any ⟨4, r, ra, rn, rc, rf, mn, mx, lz, cp, nm, ka, kn, kc⟩
  rw [hs] at kS
  go_enter Tryz.func66, Tryz.ntmps66
  go_wp2_with fail
  go_fit (kS _)
  rintro e w1 ⟨rfl, rfl⟩
  go_wp2
  go_ret
  exact ⟨rfl, two_below _ _⟩

set_option maxHeartbeats 1000000 in
set_option maxRecDepth 100000 in
theorem sound_5_any (r : Int) (ra : Option Addr) (rn rc : Nat) (rf : Nat → Rg) (mn mx : Int) (lz : Bool) (cp : Int) (nm : ByteArray) (ka : Option Addr) (kn kc : Nat) (w : World) (hs : stB ⟨5, r, ra, rn, rc, rf, mn, mx, lz, cp, nm, ka, kn, kc⟩ = false) :
    Calls Tryz.prog 66 #[rxV 5 r ra rn rc mn mx lz cp nm ka kn kc] w fun e w' => e = .returned (.bool (decide (2 ≤ (kn : Int)))) ∧ Below w.heap.size w w' := by
  have kS := stray_any ⟨5, r, ra, rn, rc, rf, mn, mx, lz, cp, nm, ka, kn, kc⟩
  rw [hs] at kS
  go_enter Tryz.func66, Tryz.ntmps66
  go_wp2_with fail
  go_fit (kS _)
  rintro e w1 ⟨rfl, rfl⟩
  go_wp2
  go_ret
  exact ⟨rfl, two_below _ _⟩

set_option maxHeartbeats 1000000 in
set_option maxRecDepth 100000 in
theorem sound_2_no (r : Int) (ra : Option Addr) (rn rc : Nat) (rf : Nat → Rg) (mn mx : Int) (lz : Bool) (cp : Int) (nm : ByteArray) (ka : Option Addr) (kn kc : Nat) (w : World) (hs : stB ⟨2, r, ra, rn, rc, rf, mn, mx, lz, cp, nm, ka, kn, kc⟩ = false) (h0 : ((kn : Int) == 0) = false) :
    Calls Tryz.prog 66 #[rxV 2 r ra rn rc mn mx lz cp nm ka kn kc] w fun e w' => e = .returned (.bool false) ∧ Below w.heap.size w w' := by
  have kS := stray_any ⟨2, r, ra, rn, rc, rf, mn, mx, lz, cp, nm, ka, kn, kc⟩
  rw [hs] at kS
  go_enter Tryz.func66, Tryz.ntmps66
  go_wp2_with fail
  go_fit (kS _)
  rintro e w1 ⟨rfl, rfl⟩
  go_wp2
  go_ret
  exact ⟨rfl, two_below _ _⟩

set_option maxHeartbeats 1000000 in
set_option maxRecDepth 100000 in
theorem sound_2_yes (r : Int) (ra : Option Addr) (rn rc : Nat) (rf : Nat → Rg) (mn mx : Int) (lz : Bool) (cp : Int) (nm : ByteArray) (ka : Option Addr) (kn kc : Nat) (w : World) (hs : stB ⟨2, r, ra, rn, rc, rf, mn, mx, lz, cp, nm, ka, kn, kc⟩ = false) (h0 : ((kn : Int) == 0) = true) :
    Calls Tryz.prog 66 #[rxV 2 r ra rn rc mn mx lz cp nm ka kn kc] w fun e w' => e = .returned (.bool (ruB r)) ∧ Below w.heap.size w w' := by
  have kS := stray_any ⟨2, r, ra, rn, rc, rf, mn, mx, lz, cp, nm, ka, kn, kc⟩
  rw [hs] at kS
  go_enter Tryz.func66, Tryz.ntmps66
  go_wp2_with fail
  go_fit (kS _)
  rintro e w1 ⟨rfl, rfl⟩
  go_wp2_with fail
  go_fit (isRune_any r _)
  rintro e w2 ⟨rfl, rfl⟩
  go_wp2
  go_ret
  exact ⟨rfl, two_below _ _⟩

set_option maxHeartbeats 1000000 in
set_option maxRecDepth 100000 in
theorem sound_6_no (r : Int) (ra : Option Addr) (rn rc : Nat) (rf : Nat → Rg) (mn mx : Int) (lz : Bool) (cp : Int) (nm : ByteArray) (ka : Option Addr) (kn kc : Nat) (w : World) (hs : stB ⟨6, r, ra, rn, rc, rf, mn, mx, lz, cp, nm, ka, kn, kc⟩ = false) (h0 : ((kn : Int) == 1) = false) :
    Calls Tryz.prog 66 #[rxV 6 r ra rn rc mn mx lz cp nm ka kn kc] w fun e w' => e = .returned (.bool false) ∧ Below w.heap.size w w' := by
  have kS := stray_any ⟨6, r, ra, rn, rc, rf, mn, mx, lz, cp, nm, ka, kn, kc⟩
  rw [hs] at kS
  go_enter Tryz.func66, Tryz.ntmps66
  go_wp2_with fail
  go_fit (kS _)
  rintro e w1 ⟨rfl, rfl⟩
  go_wp2
  go_ret
  exact ⟨rfl, two_below _ _⟩

set_option maxHeartbeats 1000000 in
set_option maxRecDepth 100000 in
theorem sound_6_yes (r : Int) (ra : Option Addr) (rn rc : Nat) (rf : Nat → Rg) (mn mx : Int) (lz : Bool) (cp : Int) (nm : ByteArray) (ka : Option Addr) (kn kc : Nat) (w : World) (hs : stB ⟨6, r, ra, rn, rc, rf, mn, mx, lz, cp, nm, ka, kn, kc⟩ = false) (h0 : ((kn : Int) == 1) = true) :
    Calls Tryz.prog 66 #[rxV 6 r ra rn rc mn mx lz cp nm ka kn kc] w fun e w' => e = .returned (.bool (tiB mn mx)) ∧ Below w.heap.size w w' := by
  have kS := stray_any ⟨6, r, ra, rn, rc, rf, mn, mx, lz, cp, nm, ka, kn, kc⟩
  rw [hs] at kS
  go_enter Tryz.func66, Tryz.ntmps66
  go_wp2_with fail
  go_fit (kS _)
  rintro e w1 ⟨rfl, rfl⟩
  go_wp2_with fail
  go_fit (isTimes_any mn mx _)
  rintro e w2 ⟨rfl, rfl⟩
  go_wp2
  go_ret
  exact ⟨rfl, two_below _ _⟩

set_option maxHeartbeats 1000000 in
set_option maxRecDepth 100000 in
theorem sound_3_no (r : Int) (ra : Option Addr) (rn rc : Nat) (rf : Nat → Rg) (mn mx : Int) (lz : Bool) (cp : Int) (nm : ByteArray) (ka : Option Addr) (kn kc : Nat) (w : World) (hs : stB ⟨3, r, ra, rn, rc, rf, mn, mx, lz, cp, nm, ka, kn, kc⟩ = false) (h0 : ((kn : Int) == 0) = false) :
    Calls Tryz.prog 66 #[rxV 3 r ra rn rc mn mx lz cp nm ka kn kc] w fun e w' => e = .returned (.bool false) ∧ Below w.heap.size w w' := by
  have kS := stray_any ⟨3, r, ra, rn, rc, rf, mn, mx, lz, cp, nm, ka, kn, kc⟩
  rw [hs] at kS
  go_enter Tryz.func66, Tryz.ntmps66
  go_wp2_with fail
  go_fit (kS _)
  rintro e w1 ⟨rfl, rfl⟩
  go_wp2
  go_ret
  exact ⟨rfl, two_below _ _⟩

set_option maxHeartbeats 1000000 in
set_option maxRecDepth 100000 in
theorem sound_3_yes (r : Int) (ra : Option Addr) (rn rc : Nat) (rf : Nat → Rg) (mn mx : Int) (lz : Bool) (cp : Int) (nm : ByteArray) (ka : Option Addr) (kn kc : Nat) (w : World) (hs : stB ⟨3, r, ra, rn, rc, rf, mn, mx, lz, cp, nm, ka, kn, kc⟩ = false) (hR : Rml w ra rf rn) (hn : rn ≤ 1152921504606846976) (h0 : ((kn : Int) == 0) = true) :
    Calls Tryz.prog 66 #[rxV 3 r ra rn rc mn mx lz cp nm ka kn kc] w fun e w' => e = .returned (.bool (setB rf rn)) ∧ Below w.heap.size w w' := by
  have kS := stray_any ⟨3, r, ra, rn, rc, rf, mn, mx, lz, cp, nm, ka, kn, kc⟩
  rw [hs] at kS
  have HR : Hid (∀ x y, Rml ((w.alloc x).alloc y) ra rf rn) := fun x y => hR.below (two_below x y)
  clear hR
  go_enter Tryz.func66, Tryz.ntmps66
  go_wp2_with fail
  go_fit (kS _)
  rintro e w1 ⟨rfl, rfl⟩
  have k3 := fun c => isSet_any ra rn c rf _ (HR.out (rxX 3 r ra rn rc mn mx lz cp nm ka kn kc) (rxX 3 r ra rn rc mn mx lz cp nm ka kn kc)) hn
  go_wp2_with fail
  go_fit (k3 _)
  rintro e w2 ⟨rfl, hb⟩
  have HB : Hid _ := hb
  clear hb
  go_wp2
  go_ret
  exact ⟨rfl, (two_below _ _).trans (HB.out.mono (two_below _ _).size)⟩

set_option maxHeartbeats 1000000 in
set_option maxRecDepth 100000 in
theorem sound_7_no (r : Int) (ra : Option Addr) (rn rc : Nat) (rf : Nat → Rg) (mn mx : Int) (lz : Bool) (cp : Int) (nm : ByteArray) (ka : Option Addr) (kn kc : Nat) (w : World) (hs : stB ⟨7, r, ra, rn, rc, rf, mn, mx, lz, cp, nm, ka, kn, kc⟩ = false) (h0 : ((kn : Int) == 1) = false) :
    Calls Tryz.prog 66 #[rxV 7 r ra rn rc mn mx lz cp nm ka kn kc] w fun e w' => e = .returned (.bool false) ∧ Below w.heap.size w w' := by
  have kS := stray_any ⟨7, r, ra, rn, rc, rf, mn, mx, lz, cp, nm, ka, kn, kc⟩
  rw [hs] at kS
  go_enter Tryz.func66, Tryz.ntmps66
  go_wp2_with fail
  go_fit (kS _)
  rintro e w1 ⟨rfl, rfl⟩
  go_wp2
  go_ret
  exact ⟨rfl, two_below _ _⟩

set_option maxHeartbeats 1000000 in
set_option maxRecDepth 100000 in
theorem sound_7_yes (r : Int) (ra : Option Addr) (rn rc : Nat) (rf : Nat → Rg) (mn mx : Int) (lz : Bool) (cp : Int) (nm : ByteArray) (ka : Option Addr) (kn kc : Nat) (w : World) (hs : stB ⟨7, r, ra, rn, rc, rf, mn, mx, lz, cp, nm, ka, kn, kc⟩ = false) (h0 : ((kn : Int) == 1) = true) :
    Calls Tryz.prog 66 #[rxV 7 r ra rn rc mn mx lz cp nm ka kn kc] w fun e w' => e = .returned (.bool (nmB nm)) ∧ Below w.heap.size w w' := by
  have kS := stray_any ⟨7, r, ra, rn, rc, rf, mn, mx, lz, cp, nm, ka, kn, kc⟩
  rw [hs] at kS
  go_enter Tryz.func66, Tryz.ntmps66
  go_wp2_with fail
  go_fit (kS _)
  rintro e w1 ⟨rfl, rfl⟩
  go_wp2_with fail
  go_fit (isName_any nm _)
  rintro e w2 ⟨rfl, hb⟩
  have HB : Hid _ := hb
  clear hb
  go_wp2
  go_ret
  exact ⟨rfl, (two_below _ _).trans (HB.out.mono (two_below _ _).size)⟩

set_option maxHeartbeats 1000000 in
set_option maxRecDepth 100000 in
theorem sound_else (kind : Int) (r : Int) (ra : Option Addr) (rn rc : Nat) (rf : Nat → Rg) (mn mx : Int) (lz : Bool) (cp : Int) (nm : ByteArray) (ka : Option Addr) (kn kc : Nat) (w : World) (hs : stB ⟨kind, r, ra, rn, rc, rf, mn, mx, lz, cp, nm, ka, kn, kc⟩ = false) (_k1 : (kind == 1) = false) (_k2 : (kind == 2) = false) (_k3 : (kind == 3) = false) (_k4 : (kind == 4) = false) (_k5 : (kind == 5) = false) (_k6 : (kind == 6) = false) (_k7 : (kind == 7) = false) (_k8 : (kind == 8) = false) (_k9 : (kind == 9) = false) (_k10 : (kind == 10) = false) (_k11 : (kind == 11) = false) (_k12 : (kind == 12) = false) (_k13 : (kind == 13) = false) :
    Calls Tryz.prog 66 #[rxV kind r ra rn rc mn mx lz cp nm ka kn kc] w fun e w' => e = .returned (.bool false) ∧ Below w.heap.size w w' := by
  have kS := stray_any ⟨kind, r, ra, rn, rc, rf, mn, mx, lz, cp, nm, ka, kn, kc⟩
  rw [hs] at kS
  go_enter Tryz.func66, Tryz.ntmps66
  go_wp2_with fail
  go_fit (kS _)
  rintro e w1 ⟨rfl, rfl⟩
  go_wp2
  go_ret
  exact ⟨rfl, two_below _ _⟩

theorem isSound_tree (d : Nd) (w : World) (hR : Rml w d.ra d.rf d.rn) (hn : d.rn ≤ 1152921504606846976) :
    Calls Tryz.prog 66 #[ndV d] w fun e w' => e = .returned (.bool (ndB d)) ∧ Below w.heap.size w w' := by
  cases hs : stB d
  rotate_left
  · unfold ndB
    rw [hs]
    exact sound_no d w hs
  have e0 : ndB d = kdB d := by unfold ndB; rw [hs]; rfl
  rw [e0]
  unfold kdB
  obtain ⟨kind, r, ra, rn, rc, rf, mn, mx, lz, cp, nm, ka, kn, kc⟩ := d
  dsimp only at hR hn ⊢
  by_cases e2 : kind = 2
  · subst e2
    rw [if_pos rfl]
    cases h0 : ((kn : Int) == 0)
    · exact sound_2_no r ra rn rc rf mn mx lz cp nm ka kn kc w hs h0
    · exact sound_2_yes r ra rn rc rf mn mx lz cp nm ka kn kc w hs h0
  by_cases e3 : kind = 3
  · subst e3
    rw [if_neg (by decide), if_pos rfl]
    cases h0 : ((kn : Int) == 0)
    · exact sound_3_no r ra rn rc rf mn mx lz cp nm ka kn kc w hs h0
    · exact sound_3_yes r ra rn rc rf mn mx lz cp nm ka kn kc w hs hR hn h0
  by_cases e4 : kind = 4
  · subst e4
    rw [if_neg (by decide), if_neg (by decide), if_pos (.inl rfl)]
    exact sound_4_any r ra rn rc rf mn mx lz cp nm ka kn kc w hs
  by_cases e5 : kind = 5
  · subst e5
    rw [if_neg (by decide), if_neg (by decide), if_pos (.inr rfl)]
    exact sound_5_any r ra rn rc rf mn mx lz cp nm ka kn kc w hs
  by_cases e6 : kind = 6
  · subst e6
    rw [if_neg (by decide), if_neg (by decide), if_neg (by decide), if_pos rfl]
    cases h0 : ((kn : Int) == 1)
    · exact sound_6_no r ra rn rc rf mn mx lz cp nm ka kn kc w hs h0
    · exact sound_6_yes r ra rn rc rf mn mx lz cp nm ka kn kc w hs h0
  by_cases e7 : kind = 7
  · subst e7
    rw [if_neg (by decide), if_neg (by decide), if_neg (by decide), if_neg (by decide), if_pos rfl]
    cases h0 : ((kn : Int) == 1)
    · exact sound_7_no r ra rn rc rf mn mx lz cp nm ka kn kc w hs h0
    · exact sound_7_yes r ra rn rc rf mn mx lz cp nm ka kn kc w hs h0
  rw [if_neg e2, if_neg e3, if_neg (by omega), if_neg e6, if_neg e7]
  by_cases e1 : kind = 1
  · subst e1
    rw [if_pos (by omega)]
    cases h0 : ((kn : Int) == 0)
    · exact sound_1_false r ra rn rc rf mn mx lz cp nm ka kn kc w hs h0
    · exact sound_1_true r ra rn rc rf mn mx lz cp nm ka kn kc w hs h0
  by_cases e8 : kind = 8
  · subst e8
    rw [if_pos (by omega)]
    cases h0 : ((kn : Int) == 0)
    · exact sound_8_false r ra rn rc rf mn mx lz cp nm ka kn kc w hs h0
    · exact sound_8_true r ra rn rc rf mn mx lz cp nm ka kn kc w hs h0
  by_cases e9 : kind = 9
  · subst e9
    rw [if_pos (by omega)]
    cases h0 : ((kn : Int) == 0)
    · exact sound_9_false r ra rn rc rf mn mx lz cp nm ka kn kc w hs h0
    · exact sound_9_true r ra rn rc rf mn mx lz cp nm ka kn kc w hs h0
  by_cases e10 : kind = 10
  · subst e10
    rw [if_pos (by omega)]
    cases h0 : ((kn : Int) == 0)
    · exact sound_10_false r ra rn rc rf mn mx lz cp nm ka kn kc w hs h0
    · exact sound_10_true r ra rn rc rf mn mx lz cp nm ka kn kc w hs h0
  by_cases e11 : kind = 11
  · subst e11
    rw [if_pos (by omega)]
    cases h0 : ((kn : Int) == 0)
    · exact sound_11_false r ra rn rc rf mn mx lz cp nm ka kn kc w hs h0
    · exact sound_11_true r ra rn rc rf mn mx lz cp nm ka kn kc w hs h0
  by_cases e12 : kind = 12
  · subst e12
    rw [if_pos (by omega)]
    cases h0 : ((kn : Int) == 0)
    · exact sound_12_false r ra rn rc rf mn mx lz cp nm ka kn kc w hs h0
    · exact sound_12_true r ra rn rc rf mn mx lz cp nm ka kn kc w hs h0
  by_cases e13 : kind = 13
  · subst e13
    rw [if_pos (by omega)]
    cases h0 : ((kn : Int) == 0)
    · exact sound_13_false r ra rn rc rf mn mx lz cp nm ka kn kc w hs h0
    · exact sound_13_true r ra rn rc rf mn mx lz cp nm ka kn kc w hs h0
  rw [if_neg (by omega)]
  exact sound_else kind r ra rn rc rf mn mx lz cp nm ka kn kc w hs (by simpa using e1) (by simpa using e2) (by simpa using e3) (by simpa using e4) (by simpa using e5) (by simpa using e6) (by simpa using e7) (by simpa using e8) (by simpa using e9) (by simpa using e10) (by simpa using e11) (by simpa using e12) (by simpa using e13)

end Go.Proofs.YtajaadagejhllaaGreatDoor
