/- A bundle of texts. -/
import Derived.Test.YtbciclnffokjjaaDoorBb03
import Derived.Lib.OthersKept
import Derived.Lib.TrimU
import Derived.Deep.LoopGhost
/- Trees: isName. -/
namespace Go.Proofs.YtbciclnffokjjaaDoor
open Go.RowKit

def nmF (s : ByteArray) : Nat → Nat → Bool
  | 0, _ => true
  | g + 1, pos => if pos < s.size then wdB ((Utf8.decode s pos).1 : Int) && nmF s g (pos + (Utf8.decode s pos).2) else true
/-- Is each rune of a text a letter, a digit or '_'? -/
def nmB (s : ByteArray) : Bool := nmF s s.size 0
theorem nmF_end (s : ByteArray) (g pos : Nat) (h : ¬ pos < s.size) : nmF s g pos = true := by
  cases g with
  | zero => rfl
  | succ g => unfold nmF; rw [if_neg h]

set_option maxHeartbeats 2000000 in
set_option maxRecDepth 1000000 in
theorem indexFunc_any (s : ByteArray) (w : World) :
    Calls Tryd.prog 76 #[.string s, .func (.func 73) #[] #[], .bool true] w fun e w' => (∃ i : Int, e = .returned (.int .i64 i) ∧ decide (i < 0) = nmB s) ∧ Below w.heap.size w w' := by
  go_enter Tryd.func76, Tryd.ntmps76
  go_wp2
  go_loopg [] s.size (fun g wx => ∃ pos : Nat, wx.heap[w.heap.size]? = some (.stringIter s pos) ∧ Below w.heap.size w wx ∧ Hid (nmF s g pos = nmB s) ∧ s.size ≤ pos + g)
  case atStart => exact ⟨0, World.iter_heap w s 0, (Below.refl _ w).alloc (Nat.le_refl _) _, rfl, by omega⟩
  case round =>
    obtain ⟨pos, hit, hbw, hleft, hfu⟩ := hrel
    have hsz : w.heap.size < wr.heap.size := (Array.getElem?_eq_some_iff.1 hit).1
    by_cases hp : pos < s.size
    · obtain ⟨g, rfl⟩ : ∃ g, gk = g + 1 := ⟨gk - 1, by omega⟩
      have hnx : ∀ ty, (Instr.next (.pointer (some ⟨w.heap.size, 0, none⟩)) true ty).run Tryd.prog wr = _ := fun ty => Lib.run_next_any_at wr w.heap.size s pos ty hit hp
      have hwd := Lib.width_pos s pos
      have hr1 := Lib.rune_le s pos
      obtain ⟨R, hR⟩ : ∃ R, (Utf8.decode s pos).1 = R := ⟨_, rfl⟩
      obtain ⟨K, hK⟩ : ∃ K, (Utf8.decode s pos).2 = K := ⟨_, rfl⟩
      have hl := hleft.out
      simp only [nmF, hp, if_true, hR, hK] at hl
      rw [hR, hK] at hnx
      rw [hR] at hr1
      rw [hK] at hwd
      have hit2 := Lib.iterAt_heap wr w.heap.size s pos (pos + K) hit
      have hbw2 := Lib.below_iterAt hbw (k := w.heap.size) (Nat.le_refl _) s (pos + K)
      obtain ⟨W, hWd⟩ : ∃ W, wr.iterAt w.heap.size s (pos + K) = W := ⟨_, rfl⟩
      rw [hWd] at hnx hit2 hbw2
      have cS := notWord_any (R : Int) W
      have HIT : Hid (W.heap[w.heap.size]? = some (.stringIter s (pos + K))) := hit2
      clear hleft hit2 hit hR hK hWd
      cases hsp : wdB (R : Int) with
      | true =>
        rw [hsp] at cS hl
        have HL : Hid (nmF s g (pos + K) = nmB s) := (by simpa using hl : nmF s g (pos + K) = nmB s)
        clear hl hsp
        go_wp2_with (go_at_call 73; go_fit cS; rintro e W' ⟨rfl, rfl⟩)
        go_roundg g
        case measure => omega
        case rel => exact ⟨pos + K, HIT.out, hbw2, HL, by omega⟩
      | false =>
        rw [hsp] at cS hl
        have HL : Hid (false = nmB s) := (by simpa using hl.symm : nmB s = false).symm
        clear hl hsp
        go_wp2_with (go_at_call 73; go_fit cS; rintro e W' ⟨rfl, rfl⟩)
        go_ret
        exact ⟨⟨_, rfl, by rw [← HL.out]; simp <;> omega⟩, hbw2⟩
    · have hnx : ∀ ty, (Instr.next (.pointer (some ⟨w.heap.size, 0, none⟩)) true ty).run Tryd.prog wr = _ := fun ty => Lib.run_next_end_at wr w.heap.size s pos ty hit hp
      have HL : Hid (nmB s = true) := by rw [← hleft.out]; exact nmF_end s gk pos hp
      clear hleft
      go_wp2
      go_ret
      exact ⟨⟨_, rfl, by rw [HL.out]; rfl⟩, hbw⟩

set_option maxHeartbeats 1000000 in
theorem strIndexFunc_any (s : ByteArray) (w : World) : Calls Tryd.prog 72 #[.string s, .func (.func 73) #[] #[]] w fun e w' => (∃ i : Int, e = .returned (.int .i64 i) ∧ decide (i < 0) = nmB s) ∧ Below w.heap.size w w' := by
  have k := indexFunc_any s w
  go_enter Tryd.func72, Tryd.ntmps72
  go_wp2_with fail
  go_fit k
  rintro e w1 ⟨⟨i, rfl, hi⟩, hb⟩
  have HI : Hid _ := hi
  clear hi
  go_wp2
  go_ret
  exact ⟨⟨i, rfl, HI.out⟩, hb⟩
set_option maxHeartbeats 1000000 in
theorem isName_any (s : ByteArray) (w : World) : Calls Tryd.prog 68 #[.string s] w fun e w' => e = .returned (.bool (nmB s)) ∧ Below w.heap.size w w' := by
  have k := strIndexFunc_any s w
  go_enter Tryd.func68, Tryd.ntmps68
  go_wp2_with fail
  go_fit k
  rintro e w1 ⟨⟨i, rfl, hi⟩, hb⟩
  have HI : Hid _ := hi
  clear hi
  go_wp2
  go_ret
  exact ⟨ret_bool HI.out, hb⟩
end Go.Proofs.YtbciclnffokjjaaDoor
/- Trees: hasStray. -/
namespace Go.Proofs.YtbciclnffokjjaaDoor
open Go.RowKit

/-- Is a field set that a node's kind doesn't name? -/
def stB (d : Nd) : Bool := (d.kind != 2 && d.r != 0) || (d.kind != 3 && ((d.rn : Int) != 0)) || (d.kind != 6 && (d.mn != 0 || d.mx != 0 || d.lz)) || (d.kind != 7 && (d.cp != 0 || !d.nm.toList.isEmpty))
abbrev rxX (kind r : Int) (ra : Option Addr) (rn rc : Nat) (mn mx : Int) (lz : Bool) (cp : Int) (nm : ByteArray) (ka : Option Addr) (kn kc : Nat) : Obj :=
  .cells #[.int .i64 kind, .int .i32 r, .slice ra rn rc, .int .i64 mn, .int .i64 mx, .bool lz, .int .i64 cp, .string nm, .slice ka kn kc] 25
abbrev ndX (d : Nd) : Obj := rxX d.kind d.r d.ra d.rn d.rc d.mn d.mx d.lz d.cp d.nm d.ka d.kn d.kc


set_option maxHeartbeats 1000000 in
set_option maxRecDepth 100000 in
theorem stray_2_0 (r : Int) (ra : Option Addr) (rn rc : Nat) (mn mx : Int) (lz : Bool) (cp : Int) (nm : ByteArray) (ka : Option Addr) (kn kc : Nat) (w : World) (hrn : ((rn : Int) != 0) = true) :
    Calls Tryd.prog 64 #[rxV 2 r ra rn rc mn mx lz cp nm ka kn kc] w fun e w' => e = .returned (.bool true) ∧ w' = w.alloc (rxX 2 r ra rn rc mn mx lz cp nm ka kn kc) := by
  go_enter Tryd.func64, Tryd.ntmps64
  go_wp2
  go_ret
  exact ⟨rfl, rfl⟩

set_option maxHeartbeats 1000000 in
set_option maxRecDepth 100000 in
theorem stray_2_1 (r : Int) (ra : Option Addr) (rn rc : Nat) (mn mx : Int) (lz : Bool) (cp : Int) (nm : ByteArray) (ka : Option Addr) (kn kc : Nat) (w : World) (hrn : ((rn : Int) != 0) = false) (hmn : (mn != 0) = true) :
    Calls Tryd.prog 64 #[rxV 2 r ra rn rc mn mx lz cp nm ka kn kc] w fun e w' => e = .returned (.bool true) ∧ w' = w.alloc (rxX 2 r ra rn rc mn mx lz cp nm ka kn kc) := by
  go_enter Tryd.func64, Tryd.ntmps64
  go_wp2
  go_ret
  exact ⟨rfl, rfl⟩

set_option maxHeartbeats 1000000 in
set_option maxRecDepth 100000 in
theorem stray_2_2 (r : Int) (ra : Option Addr) (rn rc : Nat) (mn mx : Int) (lz : Bool) (cp : Int) (nm : ByteArray) (ka : Option Addr) (kn kc : Nat) (w : World) (hrn : ((rn : Int) != 0) = false) (hmn : (mn != 0) = false) (hmx : (mx != 0) = true) :
    Calls Tryd.prog 64 #[rxV 2 r ra rn rc mn mx lz cp nm ka kn kc] w fun e w' => e = .returned (.bool true) ∧ w' = w.alloc (rxX 2 r ra rn rc mn mx lz cp nm ka kn kc) := by
  go_enter Tryd.func64, Tryd.ntmps64
  go_wp2
  go_ret
  exact ⟨rfl, rfl⟩

set_option maxHeartbeats 1000000 in
set_option maxRecDepth 100000 in
theorem stray_2_3 (r : Int) (ra : Option Addr) (rn rc : Nat) (mn mx : Int) (lz : Bool) (cp : Int) (nm : ByteArray) (ka : Option Addr) (kn kc : Nat) (w : World) (hrn : ((rn : Int) != 0) = false) (hmn : (mn != 0) = false) (hmx : (mx != 0) = false) (hlz : lz = true) :
    Calls Tryd.prog 64 #[rxV 2 r ra rn rc mn mx lz cp nm ka kn kc] w fun e w' => e = .returned (.bool true) ∧ w' = w.alloc (rxX 2 r ra rn rc mn mx lz cp nm ka kn kc) := by
  subst hlz
  go_enter Tryd.func64, Tryd.ntmps64
  go_wp2
  go_ret
  exact ⟨rfl, rfl⟩

set_option maxHeartbeats 1000000 in
set_option maxRecDepth 100000 in
theorem stray_2_4 (r : Int) (ra : Option Addr) (rn rc : Nat) (mn mx : Int) (lz : Bool) (cp : Int) (nm : ByteArray) (ka : Option Addr) (kn kc : Nat) (w : World) (hrn : ((rn : Int) != 0) = false) (hmn : (mn != 0) = false) (hmx : (mx != 0) = false) (hlz : lz = false) (hcp : (cp != 0) = true) :
    Calls Tryd.prog 64 #[rxV 2 r ra rn rc mn mx lz cp nm ka kn kc] w fun e w' => e = .returned (.bool true) ∧ w' = w.alloc (rxX 2 r ra rn rc mn mx lz cp nm ka kn kc) := by
  subst hlz
  go_enter Tryd.func64, Tryd.ntmps64
  go_wp2
  go_ret
  exact ⟨rfl, rfl⟩

set_option maxHeartbeats 1000000 in
set_option maxRecDepth 100000 in
theorem stray_2_5 (r : Int) (ra : Option Addr) (rn rc : Nat) (mn mx : Int) (lz : Bool) (cp : Int) (nm : ByteArray) (ka : Option Addr) (kn kc : Nat) (w : World) (hrn : ((rn : Int) != 0) = false) (hmn : (mn != 0) = false) (hmx : (mx != 0) = false) (hlz : lz = false) (hcp : (cp != 0) = false) (hnm : nm.toList.isEmpty = false) :
    Calls Tryd.prog 64 #[rxV 2 r ra rn rc mn mx lz cp nm ka kn kc] w fun e w' => e = .returned (.bool true) ∧ w' = w.alloc (rxX 2 r ra rn rc mn mx lz cp nm ka kn kc) := by
  subst hlz
  go_enter Tryd.func64, Tryd.ntmps64
  go_wp2
  go_ret
  exact ⟨rfl, rfl⟩

set_option maxHeartbeats 1000000 in
set_option maxRecDepth 100000 in
theorem stray_2_6 (r : Int) (ra : Option Addr) (rn rc : Nat) (mn mx : Int) (lz : Bool) (cp : Int) (nm : ByteArray) (ka : Option Addr) (kn kc : Nat) (w : World) (hrn : ((rn : Int) != 0) = false) (hmn : (mn != 0) = false) (hmx : (mx != 0) = false) (hlz : lz = false) (hcp : (cp != 0) = false) (hnm : nm.toList.isEmpty = true) :
    Calls Tryd.prog 64 #[rxV 2 r ra rn rc mn mx lz cp nm ka kn kc] w fun e w' => e = .returned (.bool false) ∧ w' = w.alloc (rxX 2 r ra rn rc mn mx lz cp nm ka kn kc) := by
  subst hlz
  go_enter Tryd.func64, Tryd.ntmps64
  go_wp2
  go_ret
  exact ⟨rfl, rfl⟩

set_option maxHeartbeats 1000000 in
set_option maxRecDepth 100000 in
theorem stray_3_0 (r : Int) (ra : Option Addr) (rn rc : Nat) (mn mx : Int) (lz : Bool) (cp : Int) (nm : ByteArray) (ka : Option Addr) (kn kc : Nat) (w : World) (hr : (r != 0) = true) :
    Calls Tryd.prog 64 #[rxV 3 r ra rn rc mn mx lz cp nm ka kn kc] w fun e w' => e = .returned (.bool true) ∧ w' = w.alloc (rxX 3 r ra rn rc mn mx lz cp nm ka kn kc) := by
  go_enter Tryd.func64, Tryd.ntmps64
  go_wp2
  go_ret
  exact ⟨rfl, rfl⟩

set_option maxHeartbeats 1000000 in
set_option maxRecDepth 100000 in
theorem stray_3_1 (r : Int) (ra : Option Addr) (rn rc : Nat) (mn mx : Int) (lz : Bool) (cp : Int) (nm : ByteArray) (ka : Option Addr) (kn kc : Nat) (w : World) (hr : (r != 0) = false) (hmn : (mn != 0) = true) :
    Calls Tryd.prog 64 #[rxV 3 r ra rn rc mn mx lz cp nm ka kn kc] w fun e w' => e = .returned (.bool true) ∧ w' = w.alloc (rxX 3 r ra rn rc mn mx lz cp nm ka kn kc) := by
  go_enter Tryd.func64, Tryd.ntmps64
  go_wp2
  go_ret
  exact ⟨rfl, rfl⟩

set_option maxHeartbeats 1000000 in
set_option maxRecDepth 100000 in
theorem stray_3_2 (r : Int) (ra : Option Addr) (rn rc : Nat) (mn mx : Int) (lz : Bool) (cp : Int) (nm : ByteArray) (ka : Option Addr) (kn kc : Nat) (w : World) (hr : (r != 0) = false) (hmn : (mn != 0) = false) (hmx : (mx != 0) = true) :
    Calls Tryd.prog 64 #[rxV 3 r ra rn rc mn mx lz cp nm ka kn kc] w fun e w' => e = .returned (.bool true) ∧ w' = w.alloc (rxX 3 r ra rn rc mn mx lz cp nm ka kn kc) := by
  go_enter Tryd.func64, Tryd.ntmps64
  go_wp2
  go_ret
  exact ⟨rfl, rfl⟩

set_option maxHeartbeats 1000000 in
set_option maxRecDepth 100000 in
theorem stray_3_3 (r : Int) (ra : Option Addr) (rn rc : Nat) (mn mx : Int) (lz : Bool) (cp : Int) (nm : ByteArray) (ka : Option Addr) (kn kc : Nat) (w : World) (hr : (r != 0) = false) (hmn : (mn != 0) = false) (hmx : (mx != 0) = false) (hlz : lz = true) :
    Calls Tryd.prog 64 #[rxV 3 r ra rn rc mn mx lz cp nm ka kn kc] w fun e w' => e = .returned (.bool true) ∧ w' = w.alloc (rxX 3 r ra rn rc mn mx lz cp nm ka kn kc) := by
  subst hlz
  go_enter Tryd.func64, Tryd.ntmps64
  go_wp2
  go_ret
  exact ⟨rfl, rfl⟩

set_option maxHeartbeats 1000000 in
set_option maxRecDepth 100000 in
theorem stray_3_4 (r : Int) (ra : Option Addr) (rn rc : Nat) (mn mx : Int) (lz : Bool) (cp : Int) (nm : ByteArray) (ka : Option Addr) (kn kc : Nat) (w : World) (hr : (r != 0) = false) (hmn : (mn != 0) = false) (hmx : (mx != 0) = false) (hlz : lz = false) (hcp : (cp != 0) = true) :
    Calls Tryd.prog 64 #[rxV 3 r ra rn rc mn mx lz cp nm ka kn kc] w fun e w' => e = .returned (.bool true) ∧ w' = w.alloc (rxX 3 r ra rn rc mn mx lz cp nm ka kn kc) := by
  subst hlz
  go_enter Tryd.func64, Tryd.ntmps64
  go_wp2
  go_ret
  exact ⟨rfl, rfl⟩

set_option maxHeartbeats 1000000 in
set_option maxRecDepth 100000 in
theorem stray_3_5 (r : Int) (ra : Option Addr) (rn rc : Nat) (mn mx : Int) (lz : Bool) (cp : Int) (nm : ByteArray) (ka : Option Addr) (kn kc : Nat) (w : World) (hr : (r != 0) = false) (hmn : (mn != 0) = false) (hmx : (mx != 0) = false) (hlz : lz = false) (hcp : (cp != 0) = false) (hnm : nm.toList.isEmpty = false) :
    Calls Tryd.prog 64 #[rxV 3 r ra rn rc mn mx lz cp nm ka kn kc] w fun e w' => e = .returned (.bool true) ∧ w' = w.alloc (rxX 3 r ra rn rc mn mx lz cp nm ka kn kc) := by
  subst hlz
  go_enter Tryd.func64, Tryd.ntmps64
  go_wp2
  go_ret
  exact ⟨rfl, rfl⟩

set_option maxHeartbeats 1000000 in
set_option maxRecDepth 100000 in
theorem stray_3_6 (r : Int) (ra : Option Addr) (rn rc : Nat) (mn mx : Int) (lz : Bool) (cp : Int) (nm : ByteArray) (ka : Option Addr) (kn kc : Nat) (w : World) (hr : (r != 0) = false) (hmn : (mn != 0) = false) (hmx : (mx != 0) = false) (hlz : lz = false) (hcp : (cp != 0) = false) (hnm : nm.toList.isEmpty = true) :
    Calls Tryd.prog 64 #[rxV 3 r ra rn rc mn mx lz cp nm ka kn kc] w fun e w' => e = .returned (.bool false) ∧ w' = w.alloc (rxX 3 r ra rn rc mn mx lz cp nm ka kn kc) := by
  subst hlz
  go_enter Tryd.func64, Tryd.ntmps64
  go_wp2
  go_ret
  exact ⟨rfl, rfl⟩

set_option maxHeartbeats 1000000 in
set_option maxRecDepth 100000 in
theorem stray_6_0 (r : Int) (ra : Option Addr) (rn rc : Nat) (mn mx : Int) (lz : Bool) (cp : Int) (nm : ByteArray) (ka : Option Addr) (kn kc : Nat) (w : World) (hr : (r != 0) = true) :
    Calls Tryd.prog 64 #[rxV 6 r ra rn rc mn mx lz cp nm ka kn kc] w fun e w' => e = .returned (.bool true) ∧ w' = w.alloc (rxX 6 r ra rn rc mn mx lz cp nm ka kn kc) := by
  go_enter Tryd.func64, Tryd.ntmps64
  go_wp2
  go_ret
  exact ⟨rfl, rfl⟩

set_option maxHeartbeats 1000000 in
set_option maxRecDepth 100000 in
theorem stray_6_1 (r : Int) (ra : Option Addr) (rn rc : Nat) (mn mx : Int) (lz : Bool) (cp : Int) (nm : ByteArray) (ka : Option Addr) (kn kc : Nat) (w : World) (hr : (r != 0) = false) (hrn : ((rn : Int) != 0) = true) :
    Calls Tryd.prog 64 #[rxV 6 r ra rn rc mn mx lz cp nm ka kn kc] w fun e w' => e = .returned (.bool true) ∧ w' = w.alloc (rxX 6 r ra rn rc mn mx lz cp nm ka kn kc) := by
  go_enter Tryd.func64, Tryd.ntmps64
  go_wp2
  go_ret
  exact ⟨rfl, rfl⟩

set_option maxHeartbeats 1000000 in
set_option maxRecDepth 100000 in
theorem stray_6_2 (r : Int) (ra : Option Addr) (rn rc : Nat) (mn mx : Int) (lz : Bool) (cp : Int) (nm : ByteArray) (ka : Option Addr) (kn kc : Nat) (w : World) (hr : (r != 0) = false) (hrn : ((rn : Int) != 0) = false) (hcp : (cp != 0) = true) :
    Calls Tryd.prog 64 #[rxV 6 r ra rn rc mn mx lz cp nm ka kn kc] w fun e w' => e = .returned (.bool true) ∧ w' = w.alloc (rxX 6 r ra rn rc mn mx lz cp nm ka kn kc) := by
  go_enter Tryd.func64, Tryd.ntmps64
  go_wp2
  go_ret
  exact ⟨rfl, rfl⟩

set_option maxHeartbeats 1000000 in
set_option maxRecDepth 100000 in
theorem stray_6_3 (r : Int) (ra : Option Addr) (rn rc : Nat) (mn mx : Int) (lz : Bool) (cp : Int) (nm : ByteArray) (ka : Option Addr) (kn kc : Nat) (w : World) (hr : (r != 0) = false) (hrn : ((rn : Int) != 0) = false) (hcp : (cp != 0) = false) (hnm : nm.toList.isEmpty = false) :
    Calls Tryd.prog 64 #[rxV 6 r ra rn rc mn mx lz cp nm ka kn kc] w fun e w' => e = .returned (.bool true) ∧ w' = w.alloc (rxX 6 r ra rn rc mn mx lz cp nm ka kn kc) := by
  go_enter Tryd.func64, Tryd.ntmps64
  go_wp2
  go_ret
  exact ⟨rfl, rfl⟩

set_option maxHeartbeats 1000000 in
set_option maxRecDepth 100000 in
theorem stray_6_4 (r : Int) (ra : Option Addr) (rn rc : Nat) (mn mx : Int) (lz : Bool) (cp : Int) (nm : ByteArray) (ka : Option Addr) (kn kc : Nat) (w : World) (hr : (r != 0) = false) (hrn : ((rn : Int) != 0) = false) (hcp : (cp != 0) = false) (hnm : nm.toList.isEmpty = true) :
    Calls Tryd.prog 64 #[rxV 6 r ra rn rc mn mx lz cp nm ka kn kc] w fun e w' => e = .returned (.bool false) ∧ w' = w.alloc (rxX 6 r ra rn rc mn mx lz cp nm ka kn kc) := by
  go_enter Tryd.func64, Tryd.ntmps64
  go_wp2
  go_ret
  exact ⟨rfl, rfl⟩

set_option maxHeartbeats 1000000 in
set_option maxRecDepth 100000 in
theorem stray_7_0 (r : Int) (ra : Option Addr) (rn rc : Nat) (mn mx : Int) (lz : Bool) (cp : Int) (nm : ByteArray) (ka : Option Addr) (kn kc : Nat) (w : World) (hr : (r != 0) = true) :
    Calls Tryd.prog 64 #[rxV 7 r ra rn rc mn mx lz cp nm ka kn kc] w fun e w' => e = .returned (.bool true) ∧ w' = w.alloc (rxX 7 r ra rn rc mn mx lz cp nm ka kn kc) := by
  go_enter Tryd.func64, Tryd.ntmps64
  go_wp2
  go_ret
  exact ⟨rfl, rfl⟩

set_option maxHeartbeats 1000000 in
set_option maxRecDepth 100000 in
theorem stray_7_1 (r : Int) (ra : Option Addr) (rn rc : Nat) (mn mx : Int) (lz : Bool) (cp : Int) (nm : ByteArray) (ka : Option Addr) (kn kc : Nat) (w : World) (hr : (r != 0) = false) (hrn : ((rn : Int) != 0) = true) :
    Calls Tryd.prog 64 #[rxV 7 r ra rn rc mn mx lz cp nm ka kn kc] w fun e w' => e = .returned (.bool true) ∧ w' = w.alloc (rxX 7 r ra rn rc mn mx lz cp nm ka kn kc) := by
  go_enter Tryd.func64, Tryd.ntmps64
  go_wp2
  go_ret
  exact ⟨rfl, rfl⟩

set_option maxHeartbeats 1000000 in
set_option maxRecDepth 100000 in
theorem stray_7_2 (r : Int) (ra : Option Addr) (rn rc : Nat) (mn mx : Int) (lz : Bool) (cp : Int) (nm : ByteArray) (ka : Option Addr) (kn kc : Nat) (w : World) (hr : (r != 0) = false) (hrn : ((rn : Int) != 0) = false) (hmn : (mn != 0) = true) :
    Calls Tryd.prog 64 #[rxV 7 r ra rn rc mn mx lz cp nm ka kn kc] w fun e w' => e = .returned (.bool true) ∧ w' = w.alloc (rxX 7 r ra rn rc mn mx lz cp nm ka kn kc) := by
  go_enter Tryd.func64, Tryd.ntmps64
  go_wp2
  go_ret
  exact ⟨rfl, rfl⟩

set_option maxHeartbeats 1000000 in
set_option maxRecDepth 100000 in
theorem stray_7_3 (r : Int) (ra : Option Addr) (rn rc : Nat) (mn mx : Int) (lz : Bool) (cp : Int) (nm : ByteArray) (ka : Option Addr) (kn kc : Nat) (w : World) (hr : (r != 0) = false) (hrn : ((rn : Int) != 0) = false) (hmn : (mn != 0) = false) (hmx : (mx != 0) = true) :
    Calls Tryd.prog 64 #[rxV 7 r ra rn rc mn mx lz cp nm ka kn kc] w fun e w' => e = .returned (.bool true) ∧ w' = w.alloc (rxX 7 r ra rn rc mn mx lz cp nm ka kn kc) := by
  go_enter Tryd.func64, Tryd.ntmps64
  go_wp2
  go_ret
  exact ⟨rfl, rfl⟩

set_option maxHeartbeats 1000000 in
set_option maxRecDepth 100000 in
theorem stray_7_4 (r : Int) (ra : Option Addr) (rn rc : Nat) (mn mx : Int) (lz : Bool) (cp : Int) (nm : ByteArray) (ka : Option Addr) (kn kc : Nat) (w : World) (hr : (r != 0) = false) (hrn : ((rn : Int) != 0) = false) (hmn : (mn != 0) = false) (hmx : (mx != 0) = false) (hlz : lz = true) :
    Calls Tryd.prog 64 #[rxV 7 r ra rn rc mn mx lz cp nm ka kn kc] w fun e w' => e = .returned (.bool true) ∧ w' = w.alloc (rxX 7 r ra rn rc mn mx lz cp nm ka kn kc) := by
  subst hlz
  go_enter Tryd.func64, Tryd.ntmps64
  go_wp2
  go_ret
  exact ⟨rfl, rfl⟩

set_option maxHeartbeats 1000000 in
set_option maxRecDepth 100000 in
theorem stray_7_5 (r : Int) (ra : Option Addr) (rn rc : Nat) (mn mx : Int) (lz : Bool) (cp : Int) (nm : ByteArray) (ka : Option Addr) (kn kc : Nat) (w : World) (hr : (r != 0) = false) (hrn : ((rn : Int) != 0) = false) (hmn : (mn != 0) = false) (hmx : (mx != 0) = false) (hlz : lz = false) :
    Calls Tryd.prog 64 #[rxV 7 r ra rn rc mn mx lz cp nm ka kn kc] w fun e w' => e = .returned (.bool false) ∧ w' = w.alloc (rxX 7 r ra rn rc mn mx lz cp nm ka kn kc) := by
  subst hlz
  go_enter Tryd.func64, Tryd.ntmps64
  go_wp2
  go_ret
  exact ⟨rfl, rfl⟩

set_option maxHeartbeats 1000000 in
set_option maxRecDepth 100000 in
theorem stray_0_0 (kind r : Int) (ra : Option Addr) (rn rc : Nat) (mn mx : Int) (lz : Bool) (cp : Int) (nm : ByteArray) (ka : Option Addr) (kn kc : Nat) (w : World) (_k2 : (kind != 2) = true) (_k3 : (kind != 3) = true) (_k6 : (kind != 6) = true) (_k7 : (kind != 7) = true) (hr : (r != 0) = true) :
    Calls Tryd.prog 64 #[rxV kind r ra rn rc mn mx lz cp nm ka kn kc] w fun e w' => e = .returned (.bool true) ∧ w' = w.alloc (rxX kind r ra rn rc mn mx lz cp nm ka kn kc) := by
  go_enter Tryd.func64, Tryd.ntmps64
  go_wp2
  go_ret
  exact ⟨rfl, rfl⟩

set_option maxHeartbeats 1000000 in
set_option maxRecDepth 100000 in
theorem stray_0_1 (kind r : Int) (ra : Option Addr) (rn rc : Nat) (mn mx : Int) (lz : Bool) (cp : Int) (nm : ByteArray) (ka : Option Addr) (kn kc : Nat) (w : World) (_k2 : (kind != 2) = true) (_k3 : (kind != 3) = true) (_k6 : (kind != 6) = true) (_k7 : (kind != 7) = true) (hr : (r != 0) = false) (hrn : ((rn : Int) != 0) = true) :
    Calls Tryd.prog 64 #[rxV kind r ra rn rc mn mx lz cp nm ka kn kc] w fun e w' => e = .returned (.bool true) ∧ w' = w.alloc (rxX kind r ra rn rc mn mx lz cp nm ka kn kc) := by
  go_enter Tryd.func64, Tryd.ntmps64
  go_wp2
  go_ret
  exact ⟨rfl, rfl⟩

set_option maxHeartbeats 1000000 in
set_option maxRecDepth 100000 in
theorem stray_0_2 (kind r : Int) (ra : Option Addr) (rn rc : Nat) (mn mx : Int) (lz : Bool) (cp : Int) (nm : ByteArray) (ka : Option Addr) (kn kc : Nat) (w : World) (_k2 : (kind != 2) = true) (_k3 : (kind != 3) = true) (_k6 : (kind != 6) = true) (_k7 : (kind != 7) = true) (hr : (r != 0) = false) (hrn : ((rn : Int) != 0) = false) (hmn : (mn != 0) = true) :
    Calls Tryd.prog 64 #[rxV kind r ra rn rc mn mx lz cp nm ka kn kc] w fun e w' => e = .returned (.bool true) ∧ w' = w.alloc (rxX kind r ra rn rc mn mx lz cp nm ka kn kc) := by
  go_enter Tryd.func64, Tryd.ntmps64
  go_wp2
  go_ret
  exact ⟨rfl, rfl⟩

set_option maxHeartbeats 1000000 in
set_option maxRecDepth 100000 in
theorem stray_0_3 (kind r : Int) (ra : Option Addr) (rn rc : Nat) (mn mx : Int) (lz : Bool) (cp : Int) (nm : ByteArray) (ka : Option Addr) (kn kc : Nat) (w : World) (_k2 : (kind != 2) = true) (_k3 : (kind != 3) = true) (_k6 : (kind != 6) = true) (_k7 : (kind != 7) = true) (hr : (r != 0) = false) (hrn : ((rn : Int) != 0) = false) (hmn : (mn != 0) = false) (hmx : (mx != 0) = true) :
    Calls Tryd.prog 64 #[rxV kind r ra rn rc mn mx lz cp nm ka kn kc] w fun e w' => e = .returned (.bool true) ∧ w' = w.alloc (rxX kind r ra rn rc mn mx lz cp nm ka kn kc) := by
  go_enter Tryd.func64, Tryd.ntmps64
  go_wp2
  go_ret
  exact ⟨rfl, rfl⟩

set_option maxHeartbeats 1000000 in
set_option maxRecDepth 100000 in
theorem stray_0_4 (kind r : Int) (ra : Option Addr) (rn rc : Nat) (mn mx : Int) (lz : Bool) (cp : Int) (nm : ByteArray) (ka : Option Addr) (kn kc : Nat) (w : World) (_k2 : (kind != 2) = true) (_k3 : (kind != 3) = true) (_k6 : (kind != 6) = true) (_k7 : (kind != 7) = true) (hr : (r != 0) = false) (hrn : ((rn : Int) != 0) = false) (hmn : (mn != 0) = false) (hmx : (mx != 0) = false) (hlz : lz = true) :
    Calls Tryd.prog 64 #[rxV kind r ra rn rc mn mx lz cp nm ka kn kc] w fun e w' => e = .returned (.bool true) ∧ w' = w.alloc (rxX kind r ra rn rc mn mx lz cp nm ka kn kc) := by
  subst hlz
  go_enter Tryd.func64, Tryd.ntmps64
  go_wp2
  go_ret
  exact ⟨rfl, rfl⟩

set_option maxHeartbeats 1000000 in
set_option maxRecDepth 100000 in
theorem stray_0_5 (kind r : Int) (ra : Option Addr) (rn rc : Nat) (mn mx : Int) (lz : Bool) (cp : Int) (nm : ByteArray) (ka : Option Addr) (kn kc : Nat) (w : World) (_k2 : (kind != 2) = true) (_k3 : (kind != 3) = true) (_k6 : (kind != 6) = true) (_k7 : (kind != 7) = true) (hr : (r != 0) = false) (hrn : ((rn : Int) != 0) = false) (hmn : (mn != 0) = false) (hmx : (mx != 0) = false) (hlz : lz = false) (hcp : (cp != 0) = true) :
    Calls Tryd.prog 64 #[rxV kind r ra rn rc mn mx lz cp nm ka kn kc] w fun e w' => e = .returned (.bool true) ∧ w' = w.alloc (rxX kind r ra rn rc mn mx lz cp nm ka kn kc) := by
  subst hlz
  go_enter Tryd.func64, Tryd.ntmps64
  go_wp2
  go_ret
  exact ⟨rfl, rfl⟩

set_option maxHeartbeats 1000000 in
set_option maxRecDepth 100000 in
theorem stray_0_6 (kind r : Int) (ra : Option Addr) (rn rc : Nat) (mn mx : Int) (lz : Bool) (cp : Int) (nm : ByteArray) (ka : Option Addr) (kn kc : Nat) (w : World) (_k2 : (kind != 2) = true) (_k3 : (kind != 3) = true) (_k6 : (kind != 6) = true) (_k7 : (kind != 7) = true) (hr : (r != 0) = false) (hrn : ((rn : Int) != 0) = false) (hmn : (mn != 0) = false) (hmx : (mx != 0) = false) (hlz : lz = false) (hcp : (cp != 0) = false) (hnm : nm.toList.isEmpty = false) :
    Calls Tryd.prog 64 #[rxV kind r ra rn rc mn mx lz cp nm ka kn kc] w fun e w' => e = .returned (.bool true) ∧ w' = w.alloc (rxX kind r ra rn rc mn mx lz cp nm ka kn kc) := by
  subst hlz
  go_enter Tryd.func64, Tryd.ntmps64
  go_wp2
  go_ret
  exact ⟨rfl, rfl⟩

set_option maxHeartbeats 1000000 in
set_option maxRecDepth 100000 in
theorem stray_0_7 (kind r : Int) (ra : Option Addr) (rn rc : Nat) (mn mx : Int) (lz : Bool) (cp : Int) (nm : ByteArray) (ka : Option Addr) (kn kc : Nat) (w : World) (_k2 : (kind != 2) = true) (_k3 : (kind != 3) = true) (_k6 : (kind != 6) = true) (_k7 : (kind != 7) = true) (hr : (r != 0) = false) (hrn : ((rn : Int) != 0) = false) (hmn : (mn != 0) = false) (hmx : (mx != 0) = false) (hlz : lz = false) (hcp : (cp != 0) = false) (hnm : nm.toList.isEmpty = true) :
    Calls Tryd.prog 64 #[rxV kind r ra rn rc mn mx lz cp nm ka kn kc] w fun e w' => e = .returned (.bool false) ∧ w' = w.alloc (rxX kind r ra rn rc mn mx lz cp nm ka kn kc) := by
  subst hlz
  go_enter Tryd.func64, Tryd.ntmps64
  go_wp2
  go_ret
  exact ⟨rfl, rfl⟩

theorem stray_any (d : Nd) (w : World) : Calls Tryd.prog 64 #[ndV d] w fun e w' => e = .returned (.bool (stB d)) ∧ w' = w.alloc (ndX d) := by
  obtain ⟨kind, r, ra, rn, rc, rf, mn, mx, lz, cp, nm, ka, kn, kc⟩ := d
  unfold stB
  dsimp only
  by_cases e2 : kind = 2
  · subst e2
    cases hrn : ((rn : Int) != 0)
    rotate_left
    · have := stray_2_0 r ra rn rc mn mx lz cp nm ka kn kc w hrn
      simpa [hrn] using this
    cases hmn : (mn != 0)
    rotate_left
    · have := stray_2_1 r ra rn rc mn mx lz cp nm ka kn kc w hrn hmn
      simpa [hrn, hmn] using this
    cases hmx : (mx != 0)
    rotate_left
    · have := stray_2_2 r ra rn rc mn mx lz cp nm ka kn kc w hrn hmn hmx
      simpa [hrn, hmn, hmx] using this
    cases hlz : lz
    rotate_left
    · have := stray_2_3 r ra rn rc mn mx lz cp nm ka kn kc w hrn hmn hmx hlz
      simpa [hrn, hmn, hmx, hlz] using this
    cases hcp : (cp != 0)
    rotate_left
    · have := stray_2_4 r ra rn rc mn mx lz cp nm ka kn kc w hrn hmn hmx hlz hcp
      simpa [hrn, hmn, hmx, hlz, hcp] using this
    cases hnm : nm.toList.isEmpty
    · have := stray_2_5 r ra rn rc mn mx lz cp nm ka kn kc w hrn hmn hmx hlz hcp hnm
      simpa [hrn, hmn, hmx, hlz, hcp, hnm] using this
    have := stray_2_6 r ra rn rc mn mx lz cp nm ka kn kc w hrn hmn hmx hlz hcp hnm
    simpa [hrn, hmn, hmx, hlz, hcp, hnm] using this
  by_cases e3 : kind = 3
  · subst e3
    cases hr : (r != 0)
    rotate_left
    · have := stray_3_0 r ra rn rc mn mx lz cp nm ka kn kc w hr
      simpa [hr] using this
    cases hmn : (mn != 0)
    rotate_left
    · have := stray_3_1 r ra rn rc mn mx lz cp nm ka kn kc w hr hmn
      simpa [hr, hmn] using this
    cases hmx : (mx != 0)
    rotate_left
    · have := stray_3_2 r ra rn rc mn mx lz cp nm ka kn kc w hr hmn hmx
      simpa [hr, hmn, hmx] using this
    cases hlz : lz
    rotate_left
    · have := stray_3_3 r ra rn rc mn mx lz cp nm ka kn kc w hr hmn hmx hlz
      simpa [hr, hmn, hmx, hlz] using this
    cases hcp : (cp != 0)
    rotate_left
    · have := stray_3_4 r ra rn rc mn mx lz cp nm ka kn kc w hr hmn hmx hlz hcp
      simpa [hr, hmn, hmx, hlz, hcp] using this
    cases hnm : nm.toList.isEmpty
    · have := stray_3_5 r ra rn rc mn mx lz cp nm ka kn kc w hr hmn hmx hlz hcp hnm
      simpa [hr, hmn, hmx, hlz, hcp, hnm] using this
    have := stray_3_6 r ra rn rc mn mx lz cp nm ka kn kc w hr hmn hmx hlz hcp hnm
    simpa [hr, hmn, hmx, hlz, hcp, hnm] using this
  by_cases e6 : kind = 6
  · subst e6
    cases hr : (r != 0)
    rotate_left
    · have := stray_6_0 r ra rn rc mn mx lz cp nm ka kn kc w hr
      simpa [hr] using this
    cases hrn : ((rn : Int) != 0)
    rotate_left
    · have := stray_6_1 r ra rn rc mn mx lz cp nm ka kn kc w hr hrn
      simpa [hr, hrn] using this
    cases hcp : (cp != 0)
    rotate_left
    · have := stray_6_2 r ra rn rc mn mx lz cp nm ka kn kc w hr hrn hcp
      simpa [hr, hrn, hcp] using this
    cases hnm : nm.toList.isEmpty
    · have := stray_6_3 r ra rn rc mn mx lz cp nm ka kn kc w hr hrn hcp hnm
      simpa [hr, hrn, hcp, hnm] using this
    have := stray_6_4 r ra rn rc mn mx lz cp nm ka kn kc w hr hrn hcp hnm
    simpa [hr, hrn, hcp, hnm] using this
  by_cases e7 : kind = 7
  · subst e7
    cases hr : (r != 0)
    rotate_left
    · have := stray_7_0 r ra rn rc mn mx lz cp nm ka kn kc w hr
      simpa [hr] using this
    cases hrn : ((rn : Int) != 0)
    rotate_left
    · have := stray_7_1 r ra rn rc mn mx lz cp nm ka kn kc w hr hrn
      simpa [hr, hrn] using this
    cases hmn : (mn != 0)
    rotate_left
    · have := stray_7_2 r ra rn rc mn mx lz cp nm ka kn kc w hr hrn hmn
      simpa [hr, hrn, hmn] using this
    cases hmx : (mx != 0)
    rotate_left
    · have := stray_7_3 r ra rn rc mn mx lz cp nm ka kn kc w hr hrn hmn hmx
      simpa [hr, hrn, hmn, hmx] using this
    cases hlz : lz
    rotate_left
    · have := stray_7_4 r ra rn rc mn mx lz cp nm ka kn kc w hr hrn hmn hmx hlz
      simpa [hr, hrn, hmn, hmx, hlz] using this
    have := stray_7_5 r ra rn rc mn mx lz cp nm ka kn kc w hr hrn hmn hmx hlz
    simpa [hr, hrn, hmn, hmx, hlz] using this
  have k2 : (kind != 2) = true := by simpa using e2
  have k3 : (kind != 3) = true := by simpa using e3
  have k6 : (kind != 6) = true := by simpa using e6
  have k7 : (kind != 7) = true := by simpa using e7
  cases hr : (r != 0)
  rotate_left
  · have := stray_0_0 kind r ra rn rc mn mx lz cp nm ka kn kc w k2 k3 k6 k7 hr
    simpa [k2, k3, k6, k7, hr] using this
  cases hrn : ((rn : Int) != 0)
  rotate_left
  · have := stray_0_1 kind r ra rn rc mn mx lz cp nm ka kn kc w k2 k3 k6 k7 hr hrn
    simpa [k2, k3, k6, k7, hr, hrn] using this
  cases hmn : (mn != 0)
  rotate_left
  · have := stray_0_2 kind r ra rn rc mn mx lz cp nm ka kn kc w k2 k3 k6 k7 hr hrn hmn
    simpa [k2, k3, k6, k7, hr, hrn, hmn] using this
  cases hmx : (mx != 0)
  rotate_left
  · have := stray_0_3 kind r ra rn rc mn mx lz cp nm ka kn kc w k2 k3 k6 k7 hr hrn hmn hmx
    simpa [k2, k3, k6, k7, hr, hrn, hmn, hmx] using this
  cases hlz : lz
  rotate_left
  · have := stray_0_4 kind r ra rn rc mn mx lz cp nm ka kn kc w k2 k3 k6 k7 hr hrn hmn hmx hlz
    simpa [k2, k3, k6, k7, hr, hrn, hmn, hmx, hlz] using this
  cases hcp : (cp != 0)
  rotate_left
  · have := stray_0_5 kind r ra rn rc mn mx lz cp nm ka kn kc w k2 k3 k6 k7 hr hrn hmn hmx hlz hcp
    simpa [k2, k3, k6, k7, hr, hrn, hmn, hmx, hlz, hcp] using this
  cases hnm : nm.toList.isEmpty
  · have := stray_0_6 kind r ra rn rc mn mx lz cp nm ka kn kc w k2 k3 k6 k7 hr hrn hmn hmx hlz hcp hnm
    simpa [k2, k3, k6, k7, hr, hrn, hmn, hmx, hlz, hcp, hnm] using this
  have := stray_0_7 kind r ra rn rc mn mx lz cp nm ka kn kc w k2 k3 k6 k7 hr hrn hmn hmx hlz hcp hnm
  simpa [k2, k3, k6, k7, hr, hrn, hmn, hmx, hlz, hcp, hnm] using this

end Go.Proofs.YtbciclnffokjjaaDoor
