/- A bundle of texts. -/
import Derived.Test.YtbciclnffokjjaaDoorBb03
import Derived.Test.YtbciclnffokjjaaDoorBb04
/- Trees: isSound. -/
namespace Go.Proofs.YtbciclnffokjjaaDoor
open Go.RowKit

/-- Is a node, its kids and stray fields aside, as its kind asks? -/
def kdB (d : Nd) : Bool := if d.kind = 2 then ((d.kn : Int) == 0) && ruB d.r else if d.kind = 3 then ((d.kn : Int) == 0) && setB d.rf d.rn else if d.kind = 4 ∨ d.kind = 5 then decide (2 ≤ (d.kn : Int)) else if d.kind = 6 then ((d.kn : Int) == 1) && tiB d.mn d.mx else if d.kind = 7 then ((d.kn : Int) == 1) && nmB d.nm else if d.kind = 1 ∨ 8 ≤ d.kind ∧ d.kind ≤ 13 then ((d.kn : Int) == 0) else false
def ndB (d : Nd) : Bool := !stB d && kdB d
theorem two_below {w : World} (x y : Obj) : Below w.heap.size w ((w.alloc x).alloc y) := ((Below.refl _ _).alloc (Nat.le_refl _) _).alloc (by simp) _

set_option maxHeartbeats 1000000 in
set_option maxRecDepth 100000 in
theorem sound_no (d : Nd) (w : World) (hs : stB d = true) :
    Calls Tryd.prog 50 #[ndV d] w fun e w' => e = .returned (.bool false) ∧ Below w.heap.size w w' := by
  have kS := stray_any d
  rw [hs] at kS
  go_enter Tryd.func50, Tryd.ntmps50
  go_wp2_with fail
  go_fit (kS _)
  rintro e w1 ⟨rfl, rfl⟩
  go_wp2
  go_ret
  exact ⟨rfl, two_below _ _⟩

set_option maxHeartbeats 1000000 in
set_option maxRecDepth 100000 in
theorem sound_1_true (r : Int) (ra : Option Addr) (rn rc : Nat) (rf : Nat → Rg) (mn mx : Int) (lz : Bool) (cp : Int) (nm : ByteArray) (ka : Option Addr) (kn kc : Nat) (w : World) (hs : stB ⟨1, r, ra, rn, rc, rf, mn, mx, lz, cp, nm, ka, kn, kc⟩ = false) (h0 : ((kn : Int) == 0) = true) :
    Calls Tryd.prog 50 #[rxV 1 r ra rn rc mn mx lz cp nm ka kn kc] w fun e w' => e = .returned (.bool true) ∧ Below w.heap.size w w' := by
  have kS := stray_any ⟨1, r, ra, rn, rc, rf, mn, mx, lz, cp, nm, ka, kn, kc⟩
  rw [hs] at kS
  go_enter Tryd.func50, Tryd.ntmps50
  go_wp2_with fail
  go_fit (kS _)
  rintro e w1 ⟨rfl, rfl⟩
  go_wp2
  go_ret
  exact ⟨rfl, two_below _ _⟩

set_option maxHeartbeats 1000000 in
set_option maxRecDepth 100000 in
theorem sound_1_false (r : Int) (ra : Option Addr) (rn rc : Nat) (rf : Nat → Rg) (mn mx : Int) (lz : Bool) (cp : Int) (nm : ByteArray) (ka : Option Addr) (kn kc : Nat) (w : World) (hs : stB ⟨1, r, ra, rn, rc, rf, mn, mx, lz, cp, nm, ka, kn, kc⟩ = false) (h0 : ((kn : Int) == 0) = false) :
    Calls Tryd.prog 50 #[rxV 1 r ra rn rc mn mx lz cp nm ka kn kc] w fun e w' => e = .returned (.bool false) ∧ Below w.heap.size w w' := by
  have kS := stray_any ⟨1, r, ra, rn, rc, rf, mn, mx, lz, cp, nm, ka, kn, kc⟩
  rw [hs] at kS
  go_enter Tryd.func50, Tryd.ntmps50
  go_wp2_with fail
  go_fit (kS _)
  rintro e w1 ⟨rfl, rfl⟩
  go_wp2
  go_ret
  exact ⟨rfl, two_below _ _⟩

set_option maxHeartbeats 1000000 in
set_option maxRecDepth 100000 in
theorem sound_8_true (r : Int) (ra : Option Addr) (rn rc : Nat) (rf : Nat → Rg) (mn mx : Int) (lz : Bool) (cp : Int) (nm : ByteArray) (ka : Option Addr) (kn kc : Nat) (w : World) (hs : stB ⟨8, r, ra, rn, rc, rf, mn, mx, lz, cp, nm, ka, kn, kc⟩ = false) (h0 : ((kn : Int) == 0) = true) :
    Calls Tryd.prog 50 #[rxV 8 r ra rn rc mn mx lz cp nm ka kn kc] w fun e w' => e = .returned (.bool true) ∧ Below w.heap.size w w' := by
  have kS := stray_any ⟨8, r, ra, rn, rc, rf, mn, mx, lz, cp, nm, ka, kn, kc⟩
  rw [hs] at kS
  go_enter Tryd.func50, Tryd.ntmps50
  go_wp2_with fail
  go_fit (kS _)
  rintro e w1 ⟨rfl, rfl⟩
  go_wp2
  go_ret
  exact ⟨rfl, two_below _ _⟩

set_option maxHeartbeats 1000000 in
set_option maxRecDepth 100000 in
theorem sound_8_false (r : Int) (ra : Option Addr) (rn rc : Nat) (rf : Nat → Rg) (mn mx : Int) (lz : Bool) (cp : Int) (nm : ByteArray) (ka : Option Addr) (kn kc : Nat) (w : World) (hs : stB ⟨8, r, ra, rn, rc, rf, mn, mx, lz, cp, nm, ka, kn, kc⟩ = false) (h0 : ((kn : Int) == 0) = false) :
    Calls Tryd.prog 50 #[rxV 8 r ra rn rc mn mx lz cp nm ka kn kc] w fun e w' => e = .returned (.bool false) ∧ Below w.heap.size w w' := by
  have kS := stray_any ⟨8, r, ra, rn, rc, rf, mn, mx, lz, cp, nm, ka, kn, kc⟩
  rw [hs] at kS
  go_enter Tryd.func50, Tryd.ntmps50
  go_wp2_with fail
  go_fit (kS _)
  rintro e w1 ⟨rfl, rfl⟩
  go_wp2
  go_ret
  exact ⟨rfl, two_below _ _⟩

set_option maxHeartbeats 1000000 in
set_option maxRecDepth 100000 in
theorem sound_9_true (r : Int) (ra : Option Addr) (rn rc : Nat) (rf : Nat → Rg) (mn mx : Int) (lz : Bool) (cp : Int) (nm : ByteArray) (ka : Option Addr) (kn kc : Nat) (w : World) (hs : stB ⟨9, r, ra, rn, rc, rf, mn, mx, lz, cp, nm, ka, kn, kc⟩ = false) (h0 : ((kn : Int) == 0) = true) :
    Calls Tryd.prog 50 #[rxV 9 r ra rn rc mn mx lz cp nm ka kn kc] w fun e w' => e = .returned (.bool true) ∧ Below w.heap.size w w' := by
  have kS := stray_any ⟨9, r, ra, rn, rc, rf, mn, mx, lz, cp, nm, ka, kn, kc⟩
  rw [hs] at kS
  go_enter Tryd.func50, Tryd.ntmps50
  go_wp2_with fail
  go_fit (kS _)
  rintro e w1 ⟨rfl, rfl⟩
  go_wp2
  go_ret
  exact ⟨rfl, two_below _ _⟩

set_option maxHeartbeats 1000000 in
set_option maxRecDepth 100000 in
theorem sound_9_false (r : Int) (ra : Option Addr) (rn rc : Nat) (rf : Nat → Rg) (mn mx : Int) (lz : Bool) (cp : Int) (nm : ByteArray) (ka : Option Addr) (kn kc : Nat) (w : World) (hs : stB ⟨9, r, ra, rn, rc, rf, mn, mx, lz, cp, nm, ka, kn, kc⟩ = false) (h0 : ((kn : Int) == 0) = false) :
    Calls Tryd.prog 50 #[rxV 9 r ra rn rc mn mx lz cp nm ka kn kc] w fun e w' => e = .returned (.bool false) ∧ Below w.heap.size w w' := by
  have kS := stray_any ⟨9, r, ra, rn, rc, rf, mn, mx, lz, cp, nm, ka, kn, kc⟩
  rw [hs] at kS
  go_enter Tryd.func50, Tryd.ntmps50
  go_wp2_with fail
  go_fit (kS _)
  rintro e w1 ⟨rfl, rfl⟩
  go_wp2
  go_ret
  exact ⟨rfl, two_below _ _⟩

set_option maxHeartbeats 1000000 in
set_option maxRecDepth 100000 in
theorem sound_10_true (r : Int) (ra : Option Addr) (rn rc : Nat) (rf : Nat → Rg) (mn mx : Int) (lz : Bool) (cp : Int) (nm : ByteArray) (ka : Option Addr) (kn kc : Nat) (w : World) (hs : stB ⟨10, r, ra, rn, rc, rf, mn, mx, lz, cp, nm, ka, kn, kc⟩ = false) (h0 : ((kn : Int) == 0) = true) :
    Calls Tryd.prog 50 #[rxV 10 r ra rn rc mn mx lz cp nm ka kn kc] w fun e w' => e = .returned (.bool true) ∧ Below w.heap.size w w' := by
  have kS := stray_any ⟨10, r, ra, rn, rc, rf, mn, mx, lz, cp, nm, ka, kn, kc⟩
  rw [hs] at kS
  go_enter Tryd.func50, Tryd.ntmps50
  go_wp2_with fail
  go_fit (kS _)
  rintro e w1 ⟨rfl, rfl⟩
  go_wp2
  go_ret
  exact ⟨rfl, two_below _ _⟩

set_option maxHeartbeats 1000000 in
set_option maxRecDepth 100000 in
theorem sound_10_false (r : Int) (ra : Option Addr) (rn rc : Nat) (rf : Nat → Rg) (mn mx : Int) (lz : Bool) (cp : Int) (nm : ByteArray) (ka : Option Addr) (kn kc : Nat) (w : World) (hs : stB ⟨10, r, ra, rn, rc, rf, mn, mx, lz, cp, nm, ka, kn, kc⟩ = false) (h0 : ((kn : Int) == 0) = false) :
    Calls Tryd.prog 50 #[rxV 10 r ra rn rc mn mx lz cp nm ka kn kc] w fun e w' => e = .returned (.bool false) ∧ Below w.heap.size w w' := by
  have kS := stray_any ⟨10, r, ra, rn, rc, rf, mn, mx, lz, cp, nm, ka, kn, kc⟩
  rw [hs] at kS
  go_enter Tryd.func50, Tryd.ntmps50
  go_wp2_with fail
  go_fit (kS _)
  rintro e w1 ⟨rfl, rfl⟩
  go_wp2
  go_ret
  exact ⟨rfl, two_below _ _⟩

set_option maxHeartbeats 1000000 in
set_option maxRecDepth 100000 in
theorem sound_11_true (r : Int) (ra : Option Addr) (rn rc : Nat) (rf : Nat → Rg) (mn mx : Int) (lz : Bool) (cp : Int) (nm : ByteArray) (ka : Option Addr) (kn kc : Nat) (w : World) (hs : stB ⟨11, r, ra, rn, rc, rf, mn, mx, lz, cp, nm, ka, kn, kc⟩ = false) (h0 : ((kn : Int) == 0) = true) :
    Calls Tryd.prog 50 #[rxV 11 r ra rn rc mn mx lz cp nm ka kn kc] w fun e w' => e = .returned (.bool true) ∧ Below w.heap.size w w' := by
  have kS := stray_any ⟨11, r, ra, rn, rc, rf, mn, mx, lz, cp, nm, ka, kn, kc⟩
  rw [hs] at kS
  go_enter Tryd.func50, Tryd.ntmps50
  go_wp2_with fail
  go_fit (kS _)
  rintro e w1 ⟨rfl, rfl⟩
  go_wp2
  go_ret
  exact ⟨rfl, two_below _ _⟩

set_option maxHeartbeats 1000000 in
set_option maxRecDepth 100000 in
theorem sound_11_false (r : Int) (ra : Option Addr) (rn rc : Nat) (rf : Nat → Rg) (mn mx : Int) (lz : Bool) (cp : Int) (nm : ByteArray) (ka : Option Addr) (kn kc : Nat) (w : World) (hs : stB ⟨11, r, ra, rn, rc, rf, mn, mx, lz, cp, nm, ka, kn, kc⟩ = false) (h0 : ((kn : Int) == 0) = false) :
    Calls Tryd.prog 50 #[rxV 11 r ra rn rc mn mx lz cp nm ka kn kc] w fun e w' => e = .returned (.bool false) ∧ Below w.heap.size w w' := by
  have kS := stray_any ⟨11, r, ra, rn, rc, rf, mn, mx, lz, cp, nm, ka, kn, kc⟩
  rw [hs] at kS
  go_enter Tryd.func50, Tryd.ntmps50
  go_wp2_with fail
  go_fit (kS _)
  rintro e w1 ⟨rfl, rfl⟩
  go_wp2
  go_ret
  exact ⟨rfl, two_below _ _⟩

set_option maxHeartbeats 1000000 in
set_option maxRecDepth 100000 in
theorem sound_12_true (r : Int) (ra : Option Addr) (rn rc : Nat) (rf : Nat → Rg) (mn mx : Int) (lz : Bool) (cp : Int) (nm : ByteArray) (ka : Option Addr) (kn kc : Nat) (w : World) (hs : stB ⟨12, r, ra, rn, rc, rf, mn, mx, lz, cp, nm, ka, kn, kc⟩ = false) (h0 : ((kn : Int) == 0) = true) :
    Calls Tryd.prog 50 #[rxV 12 r ra rn rc mn mx lz cp nm ka kn kc] w fun e w' => e = .returned (.bool true) ∧ Below w.heap.size w w' := by
  have kS := stray_any ⟨12, r, ra, rn, rc, rf, mn, mx, lz, cp, nm, ka, kn, kc⟩
  rw [hs] at kS
  go_enter Tryd.func50, Tryd.ntmps50
  go_wp2_with fail
  go_fit (kS _)
  rintro e w1 ⟨rfl, rfl⟩
  go_wp2
  go_ret
  exact ⟨rfl, two_below _ _⟩

set_option maxHeartbeats 1000000 in
set_option maxRecDepth 100000 in
theorem sound_12_false (r : Int) (ra : Option Addr) (rn rc : Nat) (rf : Nat → Rg) (mn mx : Int) (lz : Bool) (cp : Int) (nm : ByteArray) (ka : Option Addr) (kn kc : Nat) (w : World) (hs : stB ⟨12, r, ra, rn, rc, rf, mn, mx, lz, cp, nm, ka, kn, kc⟩ = false) (h0 : ((kn : Int) == 0) = false) :
    Calls Tryd.prog 50 #[rxV 12 r ra rn rc mn mx lz cp nm ka kn kc] w fun e w' => e = .returned (.bool false) ∧ Below w.heap.size w w' := by
  have kS := stray_any ⟨12, r, ra, rn, rc, rf, mn, mx, lz, cp, nm, ka, kn, kc⟩
  rw [hs] at kS
  go_enter Tryd.func50, Tryd.ntmps50
  go_wp2_with fail
  go_fit (kS _)
  rintro e w1 ⟨rfl, rfl⟩
  go_wp2
  go_ret
  exact ⟨rfl, two_below _ _⟩

set_option maxHeartbeats 1000000 in
set_option maxRecDepth 100000 in
theorem sound_13_true (r : Int) (ra : Option Addr) (rn rc : Nat) (rf : Nat → Rg) (mn mx : Int) (lz : Bool) (cp : Int) (nm : ByteArray) (ka : Option Addr) (kn kc : Nat) (w : World) (hs : stB ⟨13, r, ra, rn, rc, rf, mn, mx, lz, cp, nm, ka, kn, kc⟩ = false) (h0 : ((kn : Int) == 0) = true) :
    Calls Tryd.prog 50 #[rxV 13 r ra rn rc mn mx lz cp nm ka kn kc] w fun e w' => e = .returned (.bool true) ∧ Below w.heap.size w w' := by
  have kS := stray_any ⟨13, r, ra, rn, rc, rf, mn, mx, lz, cp, nm, ka, kn, kc⟩
  rw [hs] at kS
  go_enter Tryd.func50, Tryd.ntmps50
  go_wp2_with fail
  go_fit (kS _)
  rintro e w1 ⟨rfl, rfl⟩
  go_wp2
  go_ret
  exact ⟨rfl, two_below _ _⟩

set_option maxHeartbeats 1000000 in
set_option maxRecDepth 100000 in
theorem sound_13_false (r : Int) (ra : Option Addr) (rn rc : Nat) (rf : Nat → Rg) (mn mx : Int) (lz : Bool) (cp : Int) (nm : ByteArray) (ka : Option Addr) (kn kc : Nat) (w : World) (hs : stB ⟨13, r, ra, rn, rc, rf, mn, mx, lz, cp, nm, ka, kn, kc⟩ = false) (h0 : ((kn : Int) == 0) = false) :
    Calls Tryd.prog 50 #[rxV 13 r ra rn rc mn mx lz cp nm ka kn kc] w fun e w' => e = .returned (.bool false) ∧ Below w.heap.size w w' := by
  have kS := stray_any ⟨13, r, ra, rn, rc, rf, mn, mx, lz, cp, nm, ka, kn, kc⟩
  rw [hs] at kS
  go_enter Tryd.func50, Tryd.ntmps50
  go_wp2_with fail
  go_fit (kS _)
  rintro e w1 ⟨rfl, rfl⟩
  go_wp2
  go_ret
  exact ⟨rfl, two_below _ _⟩

set_option maxHeartbeats 1000000 in
set_option maxRecDepth 100000 in
theorem sound_4_any (r : Int) (ra : Option Addr) (rn rc : Nat) (rf : Nat → Rg) (mn mx : Int) (lz : Bool) (cp : Int) (nm : ByteArray) (ka : Option Addr) (kn kc : Nat) (w : World) (hs : stB ⟨4, r, ra, rn, rc, rf, mn, mx, lz, cp, nm, ka, kn, kc⟩ = false) :
    Calls Tryd.prog 50 #[rxV 4 r ra rn rc mn mx lz cp nm ka kn kc] w fun e w' => e = .returned (.bool (decide (2 ≤ (kn : Int)))) ∧ Below w.heap.size w w' := by
  have kS := stray_any ⟨4, r, ra, rn, rc, rf, mn, mx, lz, cp, nm, ka, kn, kc⟩
  rw [hs] at kS
  go_enter Tryd.func50, Tryd.ntmps50
  go_wp2_with fail
  go_fit (kS _)
  rintro e w1 ⟨rfl, rfl⟩
  go_wp2
  go_ret
  exact ⟨rfl, two_below _ _⟩

set_option maxHeartbeats 1000000 in
set_option maxRecDepth 100000 in
theorem sound_5_any (r : Int) (ra : Option Addr) (rn rc : Nat) (rf : Nat → Rg) (mn mx : Int) (lz : Bool) (cp : Int) (nm : ByteArray) (ka : Option Addr) (kn kc : Nat) (w : World) (hs : stB ⟨5, r, ra, rn, rc, rf, mn, mx, lz, cp, nm, ka, kn, kc⟩ = false) :
    Calls Tryd.prog 50 #[rxV 5 r ra rn rc mn mx lz cp nm ka kn kc] w fun e w' => e = .returned (.bool (decide (2 ≤ (kn : Int)))) ∧ Below w.heap.size w w' := by
  have kS := stray_any ⟨5, r, ra, rn, rc, rf, mn, mx, lz, cp, nm, ka, kn, kc⟩
  rw [hs] at kS
  go_enter Tryd.func50, Tryd.ntmps50
  go_wp2_with fail
  go_fit (kS _)
  rintro e w1 ⟨rfl, rfl⟩
  go_wp2
  go_ret
  exact ⟨rfl, two_below _ _⟩

set_option maxHeartbeats 1000000 in
set_option maxRecDepth 100000 in
theorem sound_2_no (r : Int) (ra : Option Addr) (rn rc : Nat) (rf : Nat → Rg) (mn mx : Int) (lz : Bool) (cp : Int) (nm : ByteArray) (ka : Option Addr) (kn kc : Nat) (w : World) (hs : stB ⟨2, r, ra, rn, rc, rf, mn, mx, lz, cp, nm, ka, kn, kc⟩ = false) (h0 : ((kn : Int) == 0) = false) :
    Calls Tryd.prog 50 #[rxV 2 r ra rn rc mn mx lz cp nm ka kn kc] w fun e w' => e = .returned (.bool false) ∧ Below w.heap.size w w' := by
  have kS := stray_any ⟨2, r, ra, rn, rc, rf, mn, mx, lz, cp, nm, ka, kn, kc⟩
  rw [hs] at kS
  go_enter Tryd.func50, Tryd.ntmps50
  go_wp2_with fail
  go_fit (kS _)
  rintro e w1 ⟨rfl, rfl⟩
  go_wp2
  go_ret
  exact ⟨rfl, two_below _ _⟩

set_option maxHeartbeats 1000000 in
set_option maxRecDepth 100000 in
theorem sound_2_yes (r : Int) (ra : Option Addr) (rn rc : Nat) (rf : Nat → Rg) (mn mx : Int) (lz : Bool) (cp : Int) (nm : ByteArray) (ka : Option Addr) (kn kc : Nat) (w : World) (hs : stB ⟨2, r, ra, rn, rc, rf, mn, mx, lz, cp, nm, ka, kn, kc⟩ = false) (h0 : ((kn : Int) == 0) = true) :
    Calls Tryd.prog 50 #[rxV 2 r ra rn rc mn mx lz cp nm ka kn kc] w fun e w' => e = .returned (.bool (ruB r)) ∧ Below w.heap.size w w' := by
  have kS := stray_any ⟨2, r, ra, rn, rc, rf, mn, mx, lz, cp, nm, ka, kn, kc⟩
  rw [hs] at kS
  go_enter Tryd.func50, Tryd.ntmps50
  go_wp2_with fail
  go_fit (kS _)
  rintro e w1 ⟨rfl, rfl⟩
  go_wp2_with fail
  go_fit (isRune_any r _)
  rintro e w2 ⟨rfl, rfl⟩
  go_wp2
  go_ret
  exact ⟨rfl, two_below _ _⟩

set_option maxHeartbeats 1000000 in
set_option maxRecDepth 100000 in
theorem sound_6_no (r : Int) (ra : Option Addr) (rn rc : Nat) (rf : Nat → Rg) (mn mx : Int) (lz : Bool) (cp : Int) (nm : ByteArray) (ka : Option Addr) (kn kc : Nat) (w : World) (hs : stB ⟨6, r, ra, rn, rc, rf, mn, mx, lz, cp, nm, ka, kn, kc⟩ = false) (h0 : ((kn : Int) == 1) = false) :
    Calls Tryd.prog 50 #[rxV 6 r ra rn rc mn mx lz cp nm ka kn kc] w fun e w' => e = .returned (.bool false) ∧ Below w.heap.size w w' := by
  have kS := stray_any ⟨6, r, ra, rn, rc, rf, mn, mx, lz, cp, nm, ka, kn, kc⟩
  rw [hs] at kS
  go_enter Tryd.func50, Tryd.ntmps50
  go_wp2_with fail
  go_fit (kS _)
  rintro e w1 ⟨rfl, rfl⟩
  go_wp2
  go_ret
  exact ⟨rfl, two_below _ _⟩

set_option maxHeartbeats 1000000 in
set_option maxRecDepth 100000 in
theorem sound_6_yes (r : Int) (ra : Option Addr) (rn rc : Nat) (rf : Nat → Rg) (mn mx : Int) (lz : Bool) (cp : Int) (nm : ByteArray) (ka : Option Addr) (kn kc : Nat) (w : World) (hs : stB ⟨6, r, ra, rn, rc, rf, mn, mx, lz, cp, nm, ka, kn, kc⟩ = false) (h0 : ((kn : Int) == 1) = true) :
    Calls Tryd.prog 50 #[rxV 6 r ra rn rc mn mx lz cp nm ka kn kc] w fun e w' => e = .returned (.bool (tiB mn mx)) ∧ Below w.heap.size w w' := by
  have kS := stray_any ⟨6, r, ra, rn, rc, rf, mn, mx, lz, cp, nm, ka, kn, kc⟩
  rw [hs] at kS
  go_enter Tryd.func50, Tryd.ntmps50
  go_wp2_with fail
  go_fit (kS _)
  rintro e w1 ⟨rfl, rfl⟩
  go_wp2_with fail
  go_fit (isTimes_any mn mx _)
  rintro e w2 ⟨rfl, rfl⟩
  go_wp2
  go_ret
  exact ⟨rfl, two_below _ _⟩

set_option maxHeartbeats 1000000 in
set_option maxRecDepth 100000 in
theorem sound_3_no (r : Int) (ra : Option Addr) (rn rc : Nat) (rf : Nat → Rg) (mn mx : Int) (lz : Bool) (cp : Int) (nm : ByteArray) (ka : Option Addr) (kn kc : Nat) (w : World) (hs : stB ⟨3, r, ra, rn, rc, rf, mn, mx, lz, cp, nm, ka, kn, kc⟩ = false) (h0 : ((kn : Int) == 0) = false) :
    Calls Tryd.prog 50 #[rxV 3 r ra rn rc mn mx lz cp nm ka kn kc] w fun e w' => e = .returned (.bool false) ∧ Below w.heap.size w w' := by
  have kS := stray_any ⟨3, r, ra, rn, rc, rf, mn, mx, lz, cp, nm, ka, kn, kc⟩
  rw [hs] at kS
  go_enter Tryd.func50, Tryd.ntmps50
  go_wp2_with fail
  go_fit (kS _)
  rintro e w1 ⟨rfl, rfl⟩
  go_wp2
  go_ret
  exact ⟨rfl, two_below _ _⟩

set_option maxHeartbeats 1000000 in
set_option maxRecDepth 100000 in
theorem sound_3_yes (r : Int) (ra : Option Addr) (rn rc : Nat) (rf : Nat → Rg) (mn mx : Int) (lz : Bool) (cp : Int) (nm : ByteArray) (ka : Option Addr) (kn kc : Nat) (w : World) (hs : stB ⟨3, r, ra, rn, rc, rf, mn, mx, lz, cp, nm, ka, kn, kc⟩ = false) (hR : Rml w ra rf rn) (hn : rn ≤ 1152921504606846976) (h0 : ((kn : Int) == 0) = true) :
    Calls Tryd.prog 50 #[rxV 3 r ra rn rc mn mx lz cp nm ka kn kc] w fun e w' => e = .returned (.bool (setB rf rn)) ∧ Below w.heap.size w w' := by
  have kS := stray_any ⟨3, r, ra, rn, rc, rf, mn, mx, lz, cp, nm, ka, kn, kc⟩
  rw [hs] at kS
  have HR : Hid (∀ x y, Rml ((w.alloc x).alloc y) ra rf rn) := fun x y => hR.below (two_below x y)
  clear hR
  go_enter Tryd.func50, Tryd.ntmps50
  go_wp2_with fail
  go_fit (kS _)
  rintro e w1 ⟨rfl, rfl⟩
  have k3 := fun c => isSet_any ra rn c rf _ (HR.out (rxX 3 r ra rn rc mn mx lz cp nm ka kn kc) (rxX 3 r ra rn rc mn mx lz cp nm ka kn kc)) hn
  go_wp2_with fail
  go_fit (k3 _)
  rintro e w2 ⟨rfl, hb⟩
  have HB : Hid _ := hb
  clear hb
  go_wp2
  go_ret
  exact ⟨rfl, (two_below _ _).trans (HB.out.mono (two_below _ _).size)⟩

set_option maxHeartbeats 1000000 in
set_option maxRecDepth 100000 in
theorem sound_7_no (r : Int) (ra : Option Addr) (rn rc : Nat) (rf : Nat → Rg) (mn mx : Int) (lz : Bool) (cp : Int) (nm : ByteArray) (ka : Option Addr) (kn kc : Nat) (w : World) (hs : stB ⟨7, r, ra, rn, rc, rf, mn, mx, lz, cp, nm, ka, kn, kc⟩ = false) (h0 : ((kn : Int) == 1) = false) :
    Calls Tryd.prog 50 #[rxV 7 r ra rn rc mn mx lz cp nm ka kn kc] w fun e w' => e = .returned (.bool false) ∧ Below w.heap.size w w' := by
  have kS := stray_any ⟨7, r, ra, rn, rc, rf, mn, mx, lz, cp, nm, ka, kn, kc⟩
  rw [hs] at kS
  go_enter Tryd.func50, Tryd.ntmps50
  go_wp2_with fail
  go_fit (kS _)
  rintro e w1 ⟨rfl, rfl⟩
  go_wp2
  go_ret
  exact ⟨rfl, two_below _ _⟩

set_option maxHeartbeats 1000000 in
set_option maxRecDepth 100000 in
theorem sound_7_yes (r : Int) (ra : Option Addr) (rn rc : Nat) (rf : Nat → Rg) (mn mx : Int) (lz : Bool) (cp : Int) (nm : ByteArray) (ka : Option Addr) (kn kc : Nat) (w : World) (hs : stB ⟨7, r, ra, rn, rc, rf, mn, mx, lz, cp, nm, ka, kn, kc⟩ = false) (h0 : ((kn : Int) == 1) = true) :
    Calls Tryd.prog 50 #[rxV 7 r ra rn rc mn mx lz cp nm ka kn kc] w fun e w' => e = .returned (.bool (nmB nm)) ∧ Below w.heap.size w w' := by
  have kS := stray_any ⟨7, r, ra, rn, rc, rf, mn, mx, lz, cp, nm, ka, kn, kc⟩
  rw [hs] at kS
  go_enter Tryd.func50, Tryd.ntmps50
  go_wp2_with fail
  go_fit (kS _)
  rintro e w1 ⟨rfl, rfl⟩
  go_wp2_with fail
  go_fit (isName_any nm _)
  rintro e w2 ⟨rfl, hb⟩
  have HB : Hid _ := hb
  clear hb
  go_wp2
  go_ret
  exact ⟨rfl, (two_below _ _).trans (HB.out.mono (two_below _ _).size)⟩

set_option maxHeartbeats 1000000 in
set_option maxRecDepth 100000 in
theorem sound_else (kind : Int) (r : Int) (ra : Option Addr) (rn rc : Nat) (rf : Nat → Rg) (mn mx : Int) (lz : Bool) (cp : Int) (nm : ByteArray) (ka : Option Addr) (kn kc : Nat) (w : World) (hs : stB ⟨kind, r, ra, rn, rc, rf, mn, mx, lz, cp, nm, ka, kn, kc⟩ = false) (_k1 : (kind == 1) = false) (_k2 : (kind == 2) = false) (_k3 : (kind == 3) = false) (_k4 : (kind == 4) = false) (_k5 : (kind == 5) = false) (_k6 : (kind == 6) = false) (_k7 : (kind == 7) = false) (_k8 : (kind == 8) = false) (_k9 : (kind == 9) = false) (_k10 : (kind == 10) = false) (_k11 : (kind == 11) = false) (_k12 : (kind == 12) = false) (_k13 : (kind == 13) = false) :
    Calls Tryd.prog 50 #[rxV kind r ra rn rc mn mx lz cp nm ka kn kc] w fun e w' => e = .returned (.bool false) ∧ Below w.heap.size w w' := by
  have kS := stray_any ⟨kind, r, ra, rn, rc, rf, mn, mx, lz, cp, nm, ka, kn, kc⟩
  rw [hs] at kS
  go_enter Tryd.func50, Tryd.ntmps50
  go_wp2_with fail
  go_fit (kS _)
  rintro e w1 ⟨rfl, rfl⟩
  go_wp2
  go_ret
  exact ⟨rfl, two_below _ _⟩

theorem isSound_tree (d : Nd) (w : World) (hR : Rml w d.ra d.rf d.rn) (hn : d.rn ≤ 1152921504606846976) :
    Calls Tryd.prog 50 #[ndV d] w fun e w' => e = .returned (.bool (ndB d)) ∧ Below w.heap.size w w' := by
  cases hs : stB d
  rotate_left
  · unfold ndB
    rw [hs]
    exact sound_no d w hs
  have e0 : ndB d = kdB d := by unfold ndB; rw [hs]; rfl
  rw [e0]
  unfold kdB
  obtain ⟨kind, r, ra, rn, rc, rf, mn, mx, lz, cp, nm, ka, kn, kc⟩ := d
  dsimp only at hR hn ⊢
  by_cases e2 : kind = 2
  · subst e2
    rw [if_pos rfl]
    cases h0 : ((kn : Int) == 0)
    · exact sound_2_no r ra rn rc rf mn mx lz cp nm ka kn kc w hs h0
    · exact sound_2_yes r ra rn rc rf mn mx lz cp nm ka kn kc w hs h0
  by_cases e3 : kind = 3
  · subst e3
    rw [if_neg (by decide), if_pos rfl]
    cases h0 : ((kn : Int) == 0)
    · exact sound_3_no r ra rn rc rf mn mx lz cp nm ka kn kc w hs h0
    · exact sound_3_yes r ra rn rc rf mn mx lz cp nm ka kn kc w hs hR hn h0
  by_cases e4 : kind = 4
  · subst e4
    rw [if_neg (by decide), if_neg (by decide), if_pos (.inl rfl)]
    exact sound_4_any r ra rn rc rf mn mx lz cp nm ka kn kc w hs
  by_cases e5 : kind = 5
  · subst e5
    rw [if_neg (by decide), if_neg (by decide), if_pos (.inr rfl)]
    exact sound_5_any r ra rn rc rf mn mx lz cp nm ka kn kc w hs
  by_cases e6 : kind = 6
  · subst e6
    rw [if_neg (by decide), if_neg (by decide), if_neg (by decide), if_pos rfl]
    cases h0 : ((kn : Int) == 1)
    · exact sound_6_no r ra rn rc rf mn mx lz cp nm ka kn kc w hs h0
    · exact sound_6_yes r ra rn rc rf mn mx lz cp nm ka kn kc w hs h0
  by_cases e7 : kind = 7
  · subst e7
    rw [if_neg (by decide), if_neg (by decide), if_neg (by decide), if_neg (by decide), if_pos rfl]
    cases h0 : ((kn : Int) == 1)
    · exact sound_7_no r ra rn rc rf mn mx lz cp nm ka kn kc w hs h0
    · exact sound_7_yes r ra rn rc rf mn mx lz cp nm ka kn kc w hs h0
  rw [if_neg e2, if_neg e3, if_neg (by omega), if_neg e6, if_neg e7]
  by_cases e1 : kind = 1
  · subst e1
    rw [if_pos (by omega)]
    cases h0 : ((kn : Int) == 0)
    · exact sound_1_false r ra rn rc rf mn mx lz cp nm ka kn kc w hs h0
    · exact sound_1_true r ra rn rc rf mn mx lz cp nm ka kn kc w hs h0
  by_cases e8 : kind = 8
  · subst e8
    rw [if_pos (by omega)]
    cases h0 : ((kn : Int) == 0)
    · exact sound_8_false r ra rn rc rf mn mx lz cp nm ka kn kc w hs h0
    · exact sound_8_true r ra rn rc rf mn mx lz cp nm ka kn kc w hs h0
  by_cases e9 : kind = 9
  · subst e9
    rw [if_pos (by omega)]
    cases h0 : ((kn : Int) == 0)
    · exact sound_9_false r ra rn rc rf mn mx lz cp nm ka kn kc w hs h0
    · exact sound_9_true r ra rn rc rf mn mx lz cp nm ka kn kc w hs h0
  by_cases e10 : kind = 10
  · subst e10
    rw [if_pos (by omega)]
    cases h0 : ((kn : Int) == 0)
    · exact sound_10_false r ra rn rc rf mn mx lz cp nm ka kn kc w hs h0
    · exact sound_10_true r ra rn rc rf mn mx lz cp nm ka kn kc w hs h0
  by_cases e11 : kind = 11
  · subst e11
    rw [if_pos (by omega)]
    cases h0 : ((kn : Int) == 0)
    · exact sound_11_false r ra rn rc rf mn mx lz cp nm ka kn kc w hs h0
    · exact sound_11_true r ra rn rc rf mn mx lz cp nm ka kn kc w hs h0
  by_cases e12 : kind = 12
  · subst e12
    rw [if_pos (by omega)]
    cases h0 : ((kn : Int) == 0)
    · exact sound_12_false r ra rn rc rf mn mx lz cp nm ka kn kc w hs h0
    · exact sound_12_true r ra rn rc rf mn mx lz cp nm ka kn kc w hs h0
  by_cases e13 : kind = 13
  · subst e13
    rw [if_pos (by omega)]
    cases h0 : ((kn : Int) == 0)
    · exact sound_13_false r ra rn rc rf mn mx lz cp nm ka kn kc w hs h0
    · exact sound_13_true r ra rn rc rf mn mx lz cp nm ka kn kc w hs h0
  rw [if_neg (by omega)]
  exact sound_else kind r ra rn rc rf mn mx lz cp nm ka kn kc w hs (by simpa using e1) (by simpa using e2) (by simpa using e3) (by simpa using e4) (by simpa using e5) (by simpa using e6) (by simpa using e7) (by simpa using e8) (by simpa using e9) (by simpa using e10) (by simpa using e11) (by simpa using e12) (by simpa using e13)

end Go.Proofs.YtbciclnffokjjaaDoor
/- Trees: what a survey finds; the survey in memory. -/
namespace Go.Proofs.YtbciclnffokjjaaDoor
open Go.RowKit

/-- What has been found so far: nodes, groups' names, a line's edge. -/
structure St where
  k : Nat
  n : Nat
  f : Nat → ByteArray
  l : Bool
def grp (d : Nd) (s : St) : Option St := if s.n = 100 ∨ ¬ d.cp = (s.n : Int) + 1 ∨ (d.nm.toList.isEmpty = false ∧ hasB s.f d.nm s.n = true) then none else some { s with n := s.n + 1, f := up s.f s.n d.nm }
def mid (d : Nd) (s : St) : Option St := if d.kind = 10 ∨ d.kind = 11 then some { s with l := true } else if d.kind = 7 then grp d s else some s
def vds (F : Tr → Int → St → Option St) (t : Tr) (op : Int) : Nat → St → Option St
  | 0, s => some s
  | j + 1, s => (vds F t op j s).bind fun s' => F (kid t j) (if brB (t []).kind (t [j]).kind = true then op + 1 else op) s'
/-- The survey of a tree that stands inside so many brackets; none: it isn't valid. -/
def vd : Nat → Tr → Int → St → Option St
  | 0, _, _, _ => none
  | m + 1, t, op, s => if 8194 < s.k + 1 ∨ 250 < op ∨ ndB (t []) = false then none else (mid (t []) { s with k := s.k + 1 }).bind fun s1 => vds (vd m) t (if (t []).kind = 7 then op + 1 else op) (t []).kn s1
theorem vds_none {F : Tr → Int → St → Option St} {t : Tr} {op : Int} {s : St} {i : Nat} (h : vds F t op i s = none) : ∀ {n : Nat}, i ≤ n → vds F t op n s = none
  | 0, hn => by obtain rfl : i = 0 := by omega
                exact h
  | n + 1, hn => by
    by_cases e : i = n + 1
    · rw [← e]; exact h
    · unfold vds
      rw [vds_none h (n := n) (by omega)]
      rfl
theorem mid_k {d : Nd} {s s1 : St} (h : mid d s = some s1) : s1.k = s.k := by
  unfold mid grp at h
  split at h
  · cases h; rfl
  · split at h
    · split at h
      · cases h
      · cases h; rfl
    · cases h; rfl
theorem vd_k : ∀ (m : Nat) (t : Tr) (op : Int) (s s1 : St), vd m t op s = some s1 → s.k < s1.k ∧ s1.k ≤ 8194
  | 0, _, _, _, _, h => by cases h
  | m + 1, t, op, s, s1, h => by
    unfold vd at h
    split at h
    · cases h
    · rename_i hc
      cases hm : mid (t []) { s with k := s.k + 1 } with
      | none => rw [hm] at h; cases h
      | some s2 =>
        rw [hm] at h
        have h2 := mid_k hm
        have key : ∀ (o : Int) (j : Nat) (s3 : St), vds (vd m) t o j s2 = some s3 → s2.k ≤ s3.k ∧ s3.k ≤ 8194 := by
          intro o j
          induction j with
          | zero => intro s3 h3; cases h3; exact ⟨Nat.le_refl _, by rw [h2]; dsimp only; omega⟩
          | succ j ih =>
            intro s3 h3
            unfold vds at h3
            cases hj : vds (vd m) t o j s2 with
            | none => rw [hj] at h3; cases h3
            | some s4 =>
              rw [hj] at h3
              have := vd_k m _ _ _ _ h3
              have := ih s4 hj
              omega
        have := key _ _ _ h
        rw [h2] at this
        dsimp only at this
        omega

/-- The survey in the block B, its names in a row of its own. -/
structure Sv (S : Nat) (w : World) (B : Nat) (v : Value) (s : St) : Prop where
  c0 : w.cell? ⟨B, 0, none⟩ = some (.int .i64 (s.k : Int))
  c1 : w.cell? ⟨B, 1, none⟩ = some v
  c2 : w.cell? ⟨B, 2, none⟩ = some (.bool s.l)
  fz : ∀ o, w.frozen? ⟨B, o, none⟩ = false
  row : w.ownsRow S 9 1 v s.n (sc s.f s.n)
  gb : v.ownBlock ≠ some B
  SB : S ≤ B
theorem Sv.lt {S : Nat} {w : World} {B : Nat} {v : Value} {s : St} (h : Sv S w B v s) : B < w.heap.size := World.block_lt_of_cell? w _ h.c0
theorem Sv.kp {S : Nat} {w w' : World} {B : Nat} {v : Value} {s : St} {M : Nat → Prop} (h : Sv S w B v s) (k : Kp M w w') (hB : ¬ M B) (hg : ∀ g, v.ownBlock = some g → ¬ M g) : Sv S w' B v s :=
  ⟨k.cell h.c0 hB, k.cell h.c1 hB, k.cell h.c2 hB, fun o => by rw [World.frozen?_of_block (w := w) (k.block B h.lt hB)]; exact h.fz o, k.row h.row hg, h.gb, h.SB⟩
theorem Sv.below {S : Nat} {w w' : World} {B : Nat} {v : Value} {s : St} (h : Sv S w B v s) (k : Below w.heap.size w w') : Sv S w' B v s := h.kp (M := fun _ => False) (Kp.of k) id (fun _ _ => id)
theorem Sv.form {S : Nat} {w : World} {B : Nat} {v : Value} {s : St} (h : Sv S w B v s) : ∃ a c, v = .slice a s.n c ∧ Sml w a s.f s.n := by
  rcases h.row.2 with ⟨e, e2⟩ | ⟨g, c, cur, e, _, hg, _⟩
  · exact ⟨none, 0, by rw [e, e2], .inl e2⟩
  · refine ⟨_, c, e, ?_⟩
    have := h.row
    rw [e] at this
    exact Sml.of_row this (Array.getElem?_eq_some_iff.1 hg).1
abbrev tX (x : ByteArray) : Obj := .cells #[.string x] 9
theorem tX_cell (w : World) (x : ByteArray) : (w.alloc (tX x)).cell? ⟨w.heap.size, 0, none⟩ = some (.string x) := by
  unfold World.cell?
  rw [show (w.alloc (tX x)).heap[w.heap.size]? = some (tX x) from heap_alloc_new w _]
  rfl
theorem sc_push (f : Nat → ByteArray) (n : Nat) (x : ByteArray) : sc (up f n x) (n + 1) = sc f n ++ [.string x] := by
  unfold sc
  rw [List.range_succ, List.map_append]
  congr 1
  · refine List.map_congr_left fun j hj => ?_
    have := List.mem_range.1 hj
    rw [up_other _ _ _ _ (by omega)]
  · simp [up_same]
/-- One text more. -/
theorem append_t (w : World) (S : Nat) (v : Value) (n : Nat) (f : Nat → ByteArray) (x : ByteArray) (hS : S ≤ w.heap.size) (hn : (n + 1) * 16 ≤ 140737488355328) (o : w.ownsRow S 9 1 v n (sc f n)) :
    ∃ g c w', (Builtin.append_ #[29, 29] 29 #[v, .slice (some ⟨w.heap.size, 0, none⟩) 1 1]).run Tryd.prog (w.alloc (tX x)) = .ok (.slice (some ⟨g, 0, none⟩) (n + 1) c) w' ∧ w'.ownsRow S 9 1 (.slice (some ⟨g, 0, none⟩) (n + 1) c) (n + 1) (sc (up f n x) (n + 1)) ∧ Kp (fun k => v.ownBlock = some k) w w' ∧ (v.ownBlock = some g ∨ w.heap.size ≤ g) := by
  obtain ⟨i0, hi, hz0, hz1, hz2⟩ := info_parts infS
  have o0 := World.ownsRow.alloc o (tX x)
  obtain ⟨v', w', r, o', g, _, h5⟩ := run_append_own_at (P := Tryd.prog) (w.alloc (tX x)) S 29 29 9 i0 (.string ⟨#[]⟩) 1 16 Tryd.underlying29 hi hz0 hz1 hz2 rfl (by decide) _ n (sc f n) o0 ⟨w.heap.size, 0, none⟩ 1 1 [.string x] (by rfl)
    (fun j u hj => by
      rw [Go.WideShapes.add_plain, Nat.zero_add]
      match j, hj with
      | 0, hj => cases hj; exact tX_cell w x) (by intro u hu; simp at hu; subst hu; rfl) (by unfold maxLen; omega) hn (by simp; omega)
  rw [← sc_push] at o'
  rcases o'.2 with ⟨_, h0⟩ | ⟨G, C, cur, rfl, _⟩
  · omega
  · refine ⟨G, C, w', r, o', ((Kp.refl _ w).alloc _).grown g (fun k hk _ => hk), ?_⟩
    rcases h5 with h5 | h5
    · exact .inl (h5.symm.trans rfl)
    · have h6 : G = (w.alloc (tX x)).heap.size := Option.some.inj h5
      rw [World.size_alloc] at h6
      exact .inr (by omega)
end Go.Proofs.YtbciclnffokjjaaDoor
