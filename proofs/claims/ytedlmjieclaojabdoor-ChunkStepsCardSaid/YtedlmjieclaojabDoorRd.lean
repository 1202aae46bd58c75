/- The reference: value. -/
import Derived.Test.YtedlmjieclaojabDoorRc
namespace Go.Proofs.YtedlmjieclaojabDoor
open Go.RowKit

/-- A frame as the reference has it. -/
def isF (to : Nat) : Bool := decide (0 < to)
def rF (to : Nat) : Nat := if to = 0 then 0 else 64 - to
def frC (fr to : Nat) : List Value := [.bool (isF to), .int .i64 (fr : Nat), .int .i64 (rF to : Nat)]
abbrev frV (fr to : Nat) : Value := .agg #[.bool (isF to), .int .i64 (fr : Nat), .int .i64 (rF to : Nat)]
/-- The boxes of the frame that is handed in and of the one that is answered. -/
structure Bx (Bf Br : Nat) (b : Bool) (l r : Int) (W : World) : Prop where
  f0 : W.cell? ⟨Bf, 0, none⟩ = some (.bool b)
  f1 : W.cell? ⟨Bf, 1, none⟩ = some (.int .i64 l)
  f2 : W.cell? ⟨Bf, 2, none⟩ = some (.int .i64 r)
  r0 : W.cell? ⟨Br, 0, none⟩ = some (.bool false)
  r1 : W.cell? ⟨Br, 1, none⟩ = some (.int .i64 0)
  r2 : W.cell? ⟨Br, 2, none⟩ = some (.int .i64 0)
  fz : ∀ i, W.frozen? ⟨Br, i, none⟩ = false
theorem Bx.kp {M : Nat → Prop} {Bf Br : Nat} {b : Bool} {l r : Int} {w w' : World} (h : Bx Bf Br b l r w) (k : Kp M w w') (h1 : ¬ M Bf) (h2 : ¬ M Br) : Bx Bf Br b l r w' :=
  ⟨k.cell h.f0 h1, k.cell h.f1 h1, k.cell h.f2 h1, k.cell h.r0 h2, k.cell h.r1 h2, k.cell h.r2 h2, fun i => by rw [World.frozen?_of_block (w := w) (k.block Br (World.block_lt_of_cell? w _ h.r0) h2)]; exact h.fz i⟩
theorem Bx.below {Bf Br : Nat} {b : Bool} {l r : Int} {w w' : World} (h : Bx Bf Br b l r w) (k : Below w.heap.size w w') : Bx Bf Br b l r w' := h.kp (M := fun _ => False) (Kp.of k) id id
theorem kp_far {M : Nat → Prop} {w a : World} (h : Kp M w a) {p : Addr} (hp : w.heap.size ≤ p.block) (u : Value) : Kp M w (a.setCell p u) :=
  ⟨h.os, h.tape, h.output, by simpa [World.setCell] using h.size, fun k hk hm => (Below.heap_setCell _ _ _ _ (fun e => by omega)).trans (h.block k hk hm)⟩
/-- The row under way, beside the boxes. -/
structure Uw (S : Nat) (w : World) (v : Value) (L : List Int) (Bf Br : Nat) (b : Bool) (l r : Int) (W : World) (v1 : Value) (X : List Int) : Prop where
  rw : Rw S W v1 (L ++ X)
  sb : Sub w v v1
  kp : Kp (fun k => v.ownBlock = some k) w W
  bx : Bx Bf Br b l r W
  nf : v1.ownBlock ≠ some Bf
  nr : v1.ownBlock ≠ some Br
  hf : w.heap.size ≤ Bf
  hr : w.heap.size ≤ Br
section
variable {S : Nat} {w : World} {v : Value} {L : List Int} {Bf Br : Nat} {b : Bool} {l r : Int} {W W' : World} {v1 : Value} {X : List Int}
theorem Uw.below (h : Uw S w v L Bf Br b l r W v1 X) (k : Below W.heap.size W W') : Uw S w v L Bf Br b l r W' v1 X :=
  ⟨h.rw.below k, h.sb, h.kp.trans (Kp.of k), h.bx.below k, h.nf, h.nr, h.hf, h.hr⟩
theorem Uw.num (h : Uw S w v L Bf Br b l r W v1 X) (V n : Nat) (hV : V < 18446744073709551616) (hn : n ≤ 64) (hX : X.length ≤ 200) (hL : L.length + 300 ≤ 140737488355328) :
    Calls Tryd.prog 39 #[v1, .int .u64 (V : Nat), .int .i64 (n : Nat)] W fun e w' => ∃ v2, e = .returned v2 ∧ Uw S w v L Bf Br b l r w' v2 (X ++ nb V n) := by
  refine (number_any S v1 (L ++ X) V n W h.rw hV hn (by rw [List.length_append]; omega)).mono ?_
  rintro e w2 ⟨v2, rfl, r2, s2, k2⟩
  have lf := World.block_lt_of_cell? W _ h.bx.f0
  have lr := World.block_lt_of_cell? W _ h.bx.r0
  exact ⟨v2, rfl, by rw [← List.append_assoc]; exact r2, h.sb.trans s2 h.kp.size, kp_own h.kp h.sb k2, h.bx.kp k2 (fun e => h.nf e) (fun e => h.nr e), fun e => h.nf (s2 Bf e lf), fun e => h.nr (s2 Br e lr), h.hf, h.hr⟩
end
/-- What value answers. -/
def VlR (S : Nat) (v : Value) (L : List Int) (x fr to : Nat) (w : World) (e : Ending) (w' : World) : Prop :=
  ∃ v', e = .returned (.tuple #[v', frV (vfr x fr to) (vto x fr to)]) ∧ Rw S w' v' (L ++ vlu x fr to) ∧ Sub w v v' ∧ Kp (fun k => v.ownBlock = some k) w w'
/-- The answer's box is written. -/
def st3 (W : World) (Br : Nat) (b : Bool) (l r : Int) : World := ((W.setCell ⟨Br, 0, none⟩ (.bool b)).setCell ⟨Br, 1, none⟩ (.int .i64 l)).setCell ⟨Br, 2, none⟩ (.int .i64 r)
theorem Uw.fin {S : Nat} {w : World} {v : Value} {L : List Int} {Bf Br : Nat} {b : Bool} {l r : Int} {W : World} {v1 : Value} {X : List Int} (h : Uw S w v L Bf Br b l r W v1 X) (b2 : Bool) (l2 r2 : Int) (x fr to : Nat) (hX : X = vlu x fr to) :
    Rw S (st3 W Br b2 l2 r2) v1 (L ++ vlu x fr to) ∧ Sub w v v1 ∧ Kp (fun k => v.ownBlock = some k) w (st3 W Br b2 l2 r2) := by
  unfold st3
  refine ⟨?_, h.sb, kp_far (kp_far (kp_far h.kp h.hr _) h.hr _) h.hr _⟩
  rw [← hX]
  have k : Kp (fun k => k = Br) W (((W.setCell ⟨Br, 0, none⟩ (.bool b2)).setCell ⟨Br, 1, none⟩ (.int .i64 l2)).setCell ⟨Br, 2, none⟩ (.int .i64 r2)) :=
    (((Kp.refl (fun k => k = Br) W).setCell (p := ⟨Br, 0, none⟩) rfl _).setCell (p := ⟨Br, 1, none⟩) rfl _).setCell (p := ⟨Br, 2, none⟩) rfl _
  exact h.rw.kp k (fun g hg e => h.nr (e ▸ hg))
theorem VlR.drew {S : Nat} {v : Value} {L : List Int} {x fr to : Nat} {w w' : World} {e : Ending} (h : VlR S v L x fr to w e w') : ∀ n, VlR S v L x fr to w e (w'.drewN n) := by
  intro n
  obtain ⟨v', rfl, h1, h2, h3⟩ := h
  have b := bdrew (Below.refl w'.heap.size w') n
  exact ⟨v', rfl, h1.below b, h2, h3.trans (Kp.of b)⟩
theorem vlu0 (fr to : Nat) : vlu 0 fr to = nb 0 1 := by
  unfold vlu
  rw [if_pos rfl]
  decide +kernel
theorem vluC (x fr to : Nat) (h0 : x ≠ 0) (hc : cov x fr to = true) : vlu x fr to = nb 2 2 ++ nb (x / 2 ^ (64 - to)) (to - fr) ∧ vfr x fr to = fr ∧ vto x fr to = to := by
  have e1 : vfr x fr to = fr := by unfold vfr; rw [if_neg h0, if_pos hc]
  have e2 : vto x fr to = to := by unfold vto; rw [if_neg h0, if_pos hc]
  refine ⟨?_, e1, e2⟩
  unfold vlu
  rw [if_neg h0, e1, e2]
  unfold vhd
  rw [if_pos hc, show wy 1 3 = nb 2 2 by decide +kernel]
theorem vluN (x fr to : Nat) (h0 : x ≠ 0) (hx : x < 18446744073709551616) (hc : cov x fr to = false) : vlu x fr to = ((nb 6 3 ++ nb (lz x) 6) ++ nb (63 - lz x - tz x) 6) ++ nb (x / 2 ^ tz x) (64 - lz x - tz x) ∧ vfr x fr to = lz x ∧ vto x fr to = 64 - tz x := by
  have hc' : ¬ cov x fr to = true := by rw [hc]; decide
  have e1 : vfr x fr to = lz x := by unfold vfr; rw [if_neg h0, if_neg hc']
  have e2 : vto x fr to = 64 - tz x := by unfold vto; rw [if_neg h0, if_neg hc']
  have hl := lt_spec x (by omega) hx
  refine ⟨?_, e1, e2⟩
  unfold vlu
  rw [if_neg h0, e1, e2]
  unfold vhd
  rw [if_neg hc', show wy 2 3 = nb 6 3 by decide +kernel, show 64 - tz x - lz x - 1 = 63 - lz x - tz x by omega, show 64 - (64 - tz x) = tz x by omega, show 64 - tz x - lz x = 64 - lz x - tz x by omega]
end Go.Proofs.YtedlmjieclaojabDoor
