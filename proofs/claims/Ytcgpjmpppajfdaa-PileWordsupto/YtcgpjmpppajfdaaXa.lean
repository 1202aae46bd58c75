
/- A heap whose order is another closure turned round. -/
import Derived.Test.YtcgpjmpppajfdaaWb
import Derived.Lib.QuietBelow
namespace Go.Proofs.Ytcgpjmpppajfdaa.Ws.Rv
open Go.RowKit

/-- The box of the closure within, and what it holds. -/
abbrev Ev := Nat × Value
abbrev av (bx : Nat) : Value := .func (.func 68) #[] #[.pointer (some ⟨bx, 0, none⟩)]
def Bx (w : World) (bx : Nat) (lv : Ev) : Prop := w.cell? ⟨bx, 0, none⟩ = some (Go.Proofs.Ytcgpjmpppajfdaa.Ws.av lv.1) ∧ w.cell? ⟨lv.1, 0, none⟩ = some lv.2
theorem Bx.kp {w w' : World} {bx : Nat} {lv : Ev} {M : Nat → Prop} (h : Bx w bx lv) (k : Kp M w w') (h1 : ¬ M bx) (h2 : ¬ M lv.1) : Bx w' bx lv := ⟨k.cell h.1 h1, k.cell h.2 h2⟩
theorem bx_regrown {w : World} {bx : Nat} {lv : Ev} (h : Bx w bx lv) (d : Nat) (os : Array Obj) : Bx (Go.Sort.grow (redrawn w d) os) bx lv := ⟨cell_regrown h.1 d os, cell_regrown h.2 d os⟩
def AhC (lv : Ev) (A : Wk → Wk → Bool) : Prop := ∀ (W : World) (bx : Nat), Bx W bx lv → ∀ x y : Wk, Calls Try.prog 68 #[rv x, rv y, .pointer (some ⟨bx, 0, none⟩)] W fun r w' => r = .returned (.bool (A x y)) ∧ Below W.heap.size W w'
/-- A heap in memory. -/
structure Hp (w : World) (b bx : Nat) (lv : Ev) (v : Value) (n : Nat) (f : Nat → Wk) : Prop where
  ah : w.cell? ⟨b, 0, none⟩ = some (av bx)
  ls : w.cell? ⟨b, 1, none⟩ = some v
  fz : w.frozen? ⟨b, 1, none⟩ = false
  bxc : Bx w bx lv
  row : w.ownsRow 0 92 2 v n (rc f n)
  gb : v.ownBlock ≠ some b
  gx : v.ownBlock ≠ some bx ∧ v.ownBlock ≠ some lv.1
  bb : b ≠ bx ∧ b ≠ lv.1
namespace Hp
variable {w : World} {b bx g c n : Nat} {lv : Ev} {v : Value} {f : Nat → Wk}
theorem kp {M : Nat → Prop} {w' : World} (h : Hp w b bx lv v n f) (k : Kp M w w') (h1 : ¬ M b) (h2 : ¬ M bx) (h2' : ¬ M lv.1) (h3 : ∀ j, v.ownBlock = some j → ¬ M j) : Hp w' b bx lv v n f :=
  ⟨k.cell h.ah h1, k.cell h.ls h1, k.frozen h.ls h.fz h1, h.bxc.kp k h2 h2', k.row h.row h3, h.gb, h.gx, h.bb⟩
theorem below {w' : World} (h : Hp w b bx lv v n f) (k : Below w.heap.size w w') : Hp w' b bx lv v n f := h.kp (Kp.of (M := fun _ => False) k) id id id (fun _ _ => id)
theorem rowed {f' : Nat → Wk} {w' : World} (h : Hp w b bx lv (.slice (some ⟨g, 0, none⟩) n c) n f) (k : Kp (· = g) w w') (r : Rr w' g c n f') : Hp w' b bx lv (.slice (some ⟨g, 0, none⟩) n c) n f' :=
  ⟨k.cell h.ah (fun (e : b = g) => h.gb (by rw [e]; rfl)), k.cell h.ls (fun (e : b = g) => h.gb (by rw [e]; rfl)), k.frozen h.ls h.fz (fun (e : b = g) => h.gb (by rw [e]; rfl)), h.bxc.kp k (fun (e : bx = g) => h.gx.1 (by rw [e]; rfl)) (fun (e : lv.1 = g) => h.gx.2 (by rw [e]; rfl)), r, h.gb, h.gx, h.bb⟩
end Hp
set_option maxHeartbeats 1000000 in
set_option maxRecDepth 100000 in
theorem turned {lw : Value} {A : Wk → Wk → Bool} (hA : Go.Proofs.Ytcgpjmpppajfdaa.Ws.AhC lw A) (dx : Nat) : AhC (dx, lw) (fun x y => A y x) := by
  intro w bx hbx x y
  obtain ⟨h1, h2⟩ := hbx
  have kO := fun W hW => hA W dx hW y x
  obtain ⟨xs, xr⟩ := x
  obtain ⟨ys, yr⟩ := y
  have hlt := World.block_lt_of_cell? w _ h1
  dsimp only at h1 h2 ⊢
  generalize A (ys, yr) (xs, xr) = F at *
  have x1 := cell_al (.cells #[.string xs, .int .i64 xr] 92) h1
  have xb := cell_al (.cells #[.string ys, .int .i64 yr] 92) x1
  have y1 := cell_al (.cells #[.string xs, .int .i64 xr] 92) h2
  have yb := cell_al (.cells #[.string ys, .int .i64 yr] 92) y1
  have kC := kO _ yb
  show Calls Try.prog 68 #[.agg #[.string xs, .int .i64 xr], .agg #[.string ys, .int .i64 yr], .pointer (some ⟨bx, 0, none⟩)] w _
  go_enter Try.func68, Try.ntmps68
  go_wp2_with fail
  refine kC.mono ?_
  rintro r w2 ⟨rfl, hb⟩
  go_wp2
  go_ret
  refine ⟨rfl, ?_⟩
  exact (((Below.refl _ _).alloc (Nat.le_refl _) _).alloc (by simp) _).trans (hb.mono (by simp; omega))
end Go.Proofs.Ytcgpjmpppajfdaa.Ws.Rv
