/- The reference's reader: value. -/
import Derived.Test.YtedlmjieclaojabDoorHb
import Derived.Test.YtedlmjieclaojabDoorRe
import Derived.Test.YtedlmjieclaojabDoorGa
namespace Go.Proofs.YtedlmjieclaojabDoor
open Go.RowKit

/-- The reader under way, beside the boxes of the frames. -/
structure Ux (w : World) (B c : Nat) (a0 : Option Addr) (xs : List Int) (Bf Br : Nat) (bb : Bool) (l r : Int) (W : World) (p : Nat) (b : Bool) : Prop where
  rq : Rq W B a0 c xs p b
  kp : Kp (fun k => k = B) w W
  bx : Bx Bf Br bb l r W
  nf : B ≠ Bf
  nr : B ≠ Br
  hf : w.heap.size ≤ Bf
  hr : w.heap.size ≤ Br
  ag : ∀ g o, a0 = some ⟨g, o, none⟩ → g < w.heap.size
section
variable {w W W' : World} {B c Bf Br : Nat} {a0 : Option Addr} {xs : List Int} {bb : Bool} {l r : Int} {p p' : Nat} {b b' : Bool}
theorem Ux.step (h : Ux w B c a0 xs Bf Br bb l r W p b) (hq : Rq W' B a0 c xs p' b') (k : Kp (fun k => k = B) W W') : Ux w B c a0 xs Bf Br bb l r W' p' b' :=
  ⟨hq, h.kp.trans k, h.bx.kp k (fun e => h.nf e.symm) (fun e => h.nr e.symm), h.nf, h.nr, h.hf, h.hr, h.ag⟩
theorem Ux.below (h : Ux w B c a0 xs Bf Br bb l r W p b) (k : Below W.heap.size W W') : Ux w B c a0 xs Bf Br bb l r W' p b :=
  ⟨h.rq.below k, h.kp.trans (Kp.of k), h.bx.below k, h.nf, h.nr, h.hf, h.hr, h.ag⟩
theorem Ux.bad (h : Ux w B c a0 xs Bf Br bb l r W p b) : Ux w B c a0 xs Bf Br bb l r (W.setCell ⟨B, 2, none⟩ (.bool true)) p true := h.step (h.rq.setB true) (kpB_one _ _ _ _)
theorem Ux.fin (h : Ux w B c a0 xs Bf Br bb l r W p b) (b2 : Bool) (l2 r2 : Int) : Rq (st3 W Br b2 l2 r2) B a0 c xs p b ∧ Kp (fun k => k = B) w (st3 W Br b2 l2 r2) := by
  have kk : Kp (fun k => k = Br) W (st3 W Br b2 l2 r2) := by
    unfold st3
    exact (((Kp.refl (fun k => k = Br) W).setCell (p := ⟨Br, 0, none⟩) rfl _).setCell (p := ⟨Br, 1, none⟩) rfl _).setCell (p := ⟨Br, 2, none⟩) rfl _
  refine ⟨h.rq.kp kk h.nr (fun g o e e2 => by have := h.ag g o e; have := h.hr; omega), ?_⟩
  unfold st3
  exact kp_far (kp_far (kp_far h.kp h.hr _) h.hr _) h.hr _
end
theorem ux_new {w : World} {B c : Nat} {a0 : Option Addr} {xs : List Int} {p : Nat} {b : Bool} (h : Rq w B a0 c xs p b) (ag : ∀ g o, a0 = some ⟨g, o, none⟩ → g < w.heap.size) (bb : Bool) (l r : Int) :
    Ux w B c a0 xs w.heap.size (w.heap.size + 1) bb l r ((w.alloc (.cells #[.bool bb, .int .i64 l, .int .i64 r] 78)).alloc (.cells #[.bool false, .int .i64 0, .int .i64 0] 78)) p b := by
  have b1 : Below w.heap.size w (w.alloc (.cells #[.bool bb, .int .i64 l, .int .i64 r] 78)) := (Below.refl _ _).alloc (Nat.le_refl _) _
  have b2 : Below w.heap.size w ((w.alloc (.cells #[.bool bb, .int .i64 l, .int .i64 r] 78)).alloc (.cells #[.bool false, .int .i64 0, .int .i64 0] 78)) := b1.alloc (by simp) _
  have := h.lt
  exact ⟨h.below b2, Kp.of b2, ⟨by simp, by simp, by simp, by simp, by simp, by simp, fun i => by simp⟩, by omega, by omega, Nat.le_refl _, Nat.le_succ _, ag⟩
/-- What the reference's value answers. -/
def VqR (B c : Nat) (a0 : Option Addr) (xs : List Int) (s : Rs) (w : World) (e : Ending) (w' : World) : Prop :=
  ∃ (x fr to p : Nat) (b : Bool), e = .returned (.tuple #[.int .u64 (x : Nat), .bool (rdS (bt 8 xs) (8 * xs.length) s), frV fr to]) ∧ Rq w' B a0 c xs p b ∧ Kp (fun k => k = B) w w' ∧ x < 18446744073709551616 ∧ ((fr = 0 ∧ to = 0) ∨ (fr < to ∧ to ≤ 64)) ∧
    b = (rfX (bt 8 xs) (8 * xs.length) s || (rdV (bt 8 xs) (8 * xs.length) s).b) ∧ (b = false → rdV (bt 8 xs) (8 * xs.length) s = ⟨p, false, { s.r with vl := s.r.vl ^^^ x, fr := fr, to := to }⟩)
end Go.Proofs.YtedlmjieclaojabDoor
