
/- A pile of strings: Push. -/
import Derived.Test.YtcgpjmpppajfdaaWh
import Derived.Deep.RegionWith
namespace Go.Proofs.Ytcgpjmpppajfdaa.Ws
open Go.RowKit

theorem slice_of {w : World} {S e s n : Nat} {v : Value} {xs : List Value} (h : w.ownsRow S e s v n xs) : ∃ a cc, v = .slice a n cc := by
  rcases h.2 with ⟨e, e2⟩ | ⟨G, C, _, e, _⟩
  · exact ⟨none, 0, by rw [e, e2]⟩
  · exact ⟨_, _, e⟩

theorem Pl.came {w : World} {b bx n : Nat} {lv v u : Value} {f : Nat → Wk} (h : Hp w b bx lv v n f) (q : w.cell? ⟨b, 2, none⟩ = some u) (z : w.frozen? ⟨b, 2, none⟩ = false) (m : Nat) : Pl (w.setCell ⟨b, 2, none⟩ (.int .i64 (m : Int))) b bx lv v n f m := by
  have kk : Kp (· = b) w (w.setCell ⟨b, 2, none⟩ (.int .i64 (m : Int))) := (Kp.refl (· = b) w).setCell (p := ⟨b, 2, none⟩) rfl _
  refine ⟨⟨?_, ?_, ?_, kk.cell h.bxc (fun e => h.bb e.symm), kk.row h.row (fun k e (x : k = b) => h.gb (by rw [e, x])), h.gb, h.gx, h.bb⟩, ?_, ?_⟩
  · rw [World.cell?_setCell_other _ _ _ _ (by simp)]; exact h.ah
  · rw [World.cell?_setCell_other _ _ _ _ (by simp)]; exact h.ls
  · rw [World.frozen?_setCell]; exact h.fz
  · exact World.cell?_setCell_same' _ _ _ (by rw [q]; rfl)
  · rw [World.frozen?_setCell]; exact z

set_option maxHeartbeats 2000000 in
set_option maxRecDepth 100000 in
theorem ppush_any (A : Wk → Wk → Bool) (b bx n m : Nat) (lv v : Value) (f : Nat → Wk) (x : ByteArray) (w : World) (hA : AhC lv A) (h : Pl w b bx lv v n f m) (hn : (n + 1) * 24 ≤ 140737488355328) (hm : m ≤ 1152921504606846976) :
    Calls Try.prog 45 #[.pointer (some ⟨b, 0, none⟩), iv x] w fun r w' => r = .returned (.tuple #[]) ∧ ∃ g c, Pl w' b bx lv (.slice (some ⟨g, 0, none⟩) (n + 1) c) (n + 1) (riseF A (up f n (x, (m : Int))) n) (m + 1) ∧ Kp (fun k => k = b ∨ v.ownBlock = some k) w w' ∧ (v.ownBlock = some g ∨ w.heap.size ≤ g) := by
  have hb1 : Below w.heap.size w w.drew := (Below.refl _ w).drew
  have h1 := h.below hb1
  have kP := push_any A b bx n lv v f (x, (m : Int)) _ hA h1.hp hn
  have hc0 := h.cm
  have HP : Hid (Pl w b bx lv v n f m) := h
  have HB : Hid (Below w.heap.size w w.drew) := hb1
  have H1 : Hid (Pl w.drew b bx lv v n f m) := h1
  have HM : Hid (m ≤ 1152921504606846976) := hm
  generalize riseF A (up f n (x, (m : Int))) n = F at *
  have hmb : (m : Int) ≤ 1152921504606846976 := by omega
  clear h h1 hb1 hm hn
  show Calls Try.prog 45 #[.pointer (some ⟨b, 0, none⟩), .string x] w _
  go_enter Try.func45, Try.ntmps45
  go_wp2_with fail
  go_region_with (refine kP.mono ?_; rintro r w3 ⟨rfl, g, c, o3, k3, hg, fl⟩; have q3 := (fl 2 _ (by decide) H1.out.cm H1.out.fm).1; have z3 := (fl 2 _ (by decide) H1.out.cm H1.out.fm).2; have O4 := Pl.came o3 q3 z3 (m + 1); have K4 : Kp (fun k => k = b ∨ v.ownBlock = some k) w (w3.setCell ⟨b, 2, none⟩ (.int .i64 ((m + 1 : Nat) : Int))) := ((Kp.of HB.out).trans k3).setCell (p := ⟨b, 2, none⟩) (.inl rfl) _; have G4 : v.ownBlock = some g ∨ w.heap.size ≤ g := hg.imp id (fun e => by simp at e; omega); rw [Int.natCast_add] at O4 K4; have O5 : Hid _ := O4; have K5 : Hid _ := K4; have G5 : Hid _ := G4; clear o3 k3 hg fl kP O4 K4 G4)
  all_goals go_wp2
  all_goals go_end0
  all_goals exact ⟨rfl, g, c, O5.out, K5.out, G5.out⟩
end Go.Proofs.Ytcgpjmpppajfdaa.Ws
