
/- push. -/
import Derived.Test.YtcgpjmpppajfdaaWd
namespace Go.Proofs.Ytcgpjmpppajfdaa.Ws
open Go.RowKit

set_option maxHeartbeats 2000000 in
set_option maxRecDepth 100000 in
theorem push_any (A : Wk → Wk → Bool) (b bx n : Nat) (lv v : Value) (f : Nat → Wk) (x : Wk) (w : World) (hA : AhC lv A) (h : Hp w b bx lv v n f) (hn : (n + 1) * 24 ≤ 140737488355328) :
    Calls Try.prog 65 #[.pointer (some ⟨b, 0, none⟩), rv x] w fun r w' => r = .returned (.tuple #[]) ∧ ∃ g c, Hp w' b bx lv (.slice (some ⟨g, 0, none⟩) (n + 1) c) (n + 1) (riseF A (up f n x) n) ∧ Kp (fun k => k = b ∨ v.ownBlock = some k) w w' ∧ (v.ownBlock = some g ∨ w.heap.size ≤ g) ∧ Fld b w w' := by
  have hb0 : Below w.heap.size w (w.alloc (rX x)).drew := ((Below.refl _ w).alloc (Nat.le_refl _) _).drew
  have h1 := h.below hb0
  obtain ⟨g, c, w2, r, o2, k2, hg⟩ := append_r (w.alloc (rX x)).drew v n f x hn h1.row
  have hblt : b < w.heap.size := World.block_lt_of_cell? w _ h.ls
  have hxlt : bx < w.heap.size := World.block_lt_of_cell? w _ h.bxc
  have hgb : g ≠ b := fun e => by
    rcases hg with hg | hg
    · exact h.gb (by rw [hg, e])
    · simp at hg; omega
  have hgx : g ≠ bx := fun e => by
    rcases hg with hg | hg
    · exact h.gx (by rw [hg, e])
    · simp at hg; omega
  have q1 := k2.cell h1.ls (fun e => h.gb e)
  have q2 := k2.frozen h1.ls h1.fz (fun e => h.gb e)
  have HQ : Hid (Hp (w2.setCell ⟨b, 1, none⟩ (.slice (some ⟨g, 0, none⟩) (n + 1) c)) b bx lv (.slice (some ⟨g, 0, none⟩) (n + 1) c) (n + 1) (up f n x)) := by
    have kk : Kp (· = b) w2 (w2.setCell ⟨b, 1, none⟩ (.slice (some ⟨g, 0, none⟩) (n + 1) c)) := (Kp.refl (· = b) w2).setCell (p := ⟨b, 1, none⟩) rfl _
    refine ⟨?_, ?_, ?_, ?_, kk.row o2 (fun k e => by cases e; exact fun e => hgb e), fun e => hgb (Option.some.inj e), fun e => hgx (Option.some.inj e), h.bb⟩
    · rw [World.cell?_setCell_other _ _ _ _ (by simp)]
      exact k2.cell h1.ah (fun e => h.gb e)
    · exact World.cell?_setCell_same' _ _ _ (by rw [q1]; rfl)
    · rw [World.frozen?_setCell]; exact q2
    · exact kk.cell (k2.cell h1.bxc (fun e => h.gx e)) (fun e => h.bb e.symm)
  have HK : Hid (Kp (fun k => k = b ∨ v.ownBlock = some k) w (w2.setCell ⟨b, 1, none⟩ (.slice (some ⟨g, 0, none⟩) (n + 1) c))) :=
    (((Kp.of hb0).trans (k2.mono (fun i _ e => .inr e))).setCell (p := ⟨b, 1, none⟩) (.inl rfl) _)
  have HFL : Hid (Fld b w (w2.setCell ⟨b, 1, none⟩ (.slice (some ⟨g, 0, none⟩) (n + 1) c))) := ((Fld.kp (Kp.of (M := fun _ => False) hb0) id).trans (Fld.kp k2 (fun e => h.gb e))).trans (Fld.set _)
  have HNB : Hid (¬ b = g) := fun e => hgb e.symm
  have HG : Hid (v.ownBlock = some g ∨ w.heap.size ≤ g) := hg.imp id (fun e => by simp at e; omega)
  have kR := rise_any A b bx g c (n + 1) n lv (up f n x) _ hA HQ.out (by omega) (by omega)
  obtain ⟨xs, xr⟩ := x
  generalize riseF A (up f n (xs, xr)) n = F at *
  have hlst : (w.alloc (rX (xs, xr))).cell? ⟨b, 1, none⟩ = some v := h1.ls
  obtain ⟨a, cc, rfl⟩ : ∃ a cc, v = .slice a n cc := by
    rcases h.row.2 with ⟨e, e2⟩ | ⟨G, C, _, e, _⟩
    · exact ⟨none, 0, by rw [e, e2]⟩
    · exact ⟨_, _, e⟩
  have r' : (Builtin.append_ #[121, 121] 121 #[.slice a n cc, .slice (some ⟨w.heap.size + 1, 0, none⟩) 1 1]).run Try.prog ((w.alloc (.cells #[.string xs, .int .i64 xr] 92)).alloc (.cells #[.string xs, .int .i64 xr] 92)).drew = .ok (.slice (some ⟨g, 0, none⟩) (n + 1) c) w2 := by
    have := r
    rw [show (w.alloc (rX (xs, xr))).drew.heap.size = w.heap.size + 1 by simp] at this
    exact this
  obtain ⟨W3, hW3⟩ : ∃ W3, W3 = w2.setCell ⟨b, 1, none⟩ (.slice (some ⟨g, 0, none⟩) (n + 1) c) := ⟨_, rfl⟩
  rw [← hW3] at HQ HK kR HFL
  have hl3 := HQ.out.ls
  have HW3 : Hid (W3 = w2.setCell ⟨b, 1, none⟩ (.slice (some ⟨g, 0, none⟩) (n + 1) c)) := hW3
  clear h h1 k2 hg o2 hb0 r hW3 HQ hgb hgx
  show Calls Try.prog 65 #[.pointer (some ⟨b, 0, none⟩), .agg #[.string xs, .int .i64 xr]] w _
  go_enter Try.func65, Try.ntmps65
  go_wp2_with fail
  go_region_law (refine step_append_run rfl (.tmp 8) (.tmp 10) 121 121 rfl _ _ rfl rfl r' ?_)
  all_goals rw [← HW3.out]
  all_goals go_wp2_with fail
  all_goals refine kR.mono ?_
  all_goals rintro r w3 ⟨rfl, o3, k3⟩
  all_goals go_wp2
  all_goals go_end0
  all_goals exact ⟨rfl, g, c, o3, HK.out.trans' k3 (fun i hi e => by
    rcases HG.out with hg | hg
    · exact .inr (hg.trans (by rw [e]))
    · have : i = g := e
      omega), HG.out, HFL.out.trans (Fld.kp k3 HNB.out)⟩
end Go.Proofs.Ytcgpjmpppajfdaa.Ws
