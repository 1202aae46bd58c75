/- Labels: copied, Get, Make of two labels. -/
import Derived.Test.YtjmninjaoemhjaaDoorDc
namespace Go.Proofs.YtjmninjaoemhjaaDoor
open Go.RowKit Go.Lib

set_option maxHeartbeats 4000000 in
theorem copied_any (x : Lb) (w : World) (h1 : x.1.size ≤ 140737488355328) (h2 : x.2.size ≤ 140737488355328) : Calls Tryd.prog 29 #[lbV x] w fun e w' => e = .returned (lbV x) ∧ Below w.heap.size w w' := by
  obtain ⟨x1, x2⟩ := x
  have K1 : Hid (∀ W, Calls Tryd.prog 35 #[.string x1] W fun e w' => e = .returned (.string x1) ∧ Below W.heap.size W w') := fun W => clone_any x1 W h1
  have K2 : Hid (∀ W, Calls Tryd.prog 35 #[.string x2] W fun e w' => e = .returned (.string x2) ∧ Below W.heap.size W w') := fun W => clone_any x2 W h2
  clear h1 h2
  have e1 : (w.alloc (lbX (x1, x2))).heap[w.heap.size]? = some (lbX (x1, x2)) := heap_alloc_new w _
  have e2 : ((w.alloc (lbX (x1, x2))).alloc (lbX (⟨#[]⟩, ⟨#[]⟩))).heap[w.heap.size + 1]? = some (lbX (⟨#[]⟩, ⟨#[]⟩)) := by have := heap_alloc_new (w.alloc (lbX (x1, x2))) (lbX (⟨#[]⟩, ⟨#[]⟩)); simpa using this
  have b1 : Below (w.alloc (lbX (x1, x2))).heap.size (w.alloc (lbX (x1, x2))) ((w.alloc (lbX (x1, x2))).alloc (lbX (⟨#[]⟩, ⟨#[]⟩))) := (Below.refl _ _).alloc (Nat.le_refl _) _
  have a0 : ((w.alloc (lbX (x1, x2))).alloc (lbX (⟨#[]⟩, ⟨#[]⟩))).cell? ⟨w.heap.size, 0, none⟩ = some (.string x1) := bcell2 b1 (by unfold World.cell?; rw [e1]; rfl)
  have a1 : ((w.alloc (lbX (x1, x2))).alloc (lbX (⟨#[]⟩, ⟨#[]⟩))).cell? ⟨w.heap.size, 1, none⟩ = some (.string x2) := bcell2 b1 (by unfold World.cell?; rw [e1]; rfl)
  have z0 : ((w.alloc (lbX (x1, x2))).alloc (lbX (⟨#[]⟩, ⟨#[]⟩))).cell? ⟨w.heap.size + 1, 0, none⟩ = some (.string ⟨#[]⟩) := by unfold World.cell?; rw [e2]; rfl
  have z1 : ((w.alloc (lbX (x1, x2))).alloc (lbX (⟨#[]⟩, ⟨#[]⟩))).cell? ⟨w.heap.size + 1, 1, none⟩ = some (.string ⟨#[]⟩) := by unfold World.cell?; rw [e2]; rfl
  have zf : ∀ o, ((w.alloc (lbX (x1, x2))).alloc (lbX (⟨#[]⟩, ⟨#[]⟩))).frozen? ⟨w.heap.size + 1, o, none⟩ = false := fun o => by unfold World.frozen?; rw [e2]; simp
  have HB : Hid (Below w.heap.size w ((w.alloc (lbX (x1, x2))).alloc (lbX (⟨#[]⟩, ⟨#[]⟩)))) := ((Below.refl _ w).alloc (Nat.le_refl _) _).alloc (by simp) _
  clear e1 e2 b1
  go_enter Tryd.func29, Tryd.ntmps29
  go_wp2_with fail
  generalize (w.alloc (lbX (x1, x2))).alloc (lbX (⟨#[]⟩, ⟨#[]⟩)) = W at *
  have HS : Hid (∀ w', Below W.heap.size W w' → w'.cell? ⟨w.heap.size, 0, none⟩ = some (.string x1) ∧ w'.cell? ⟨w.heap.size, 1, none⟩ = some (.string x2)) := fun w' b => ⟨bcell2 b a0, bcell2 b a1⟩
  have HZ : Hid (∀ w', Below W.heap.size W w' → w'.cell? ⟨w.heap.size + 1, 0, none⟩ = some (.string ⟨#[]⟩) ∧ w'.cell? ⟨w.heap.size + 1, 1, none⟩ = some (.string ⟨#[]⟩) ∧ ∀ o, w'.frozen? ⟨w.heap.size + 1, o, none⟩ = false) := fun w' b => ⟨bcell2 b z0, bcell2 b z1, fun o => (b.frozen (p := ⟨w.heap.size + 1, o, none⟩) (show w.heap.size + 1 < W.heap.size from World.block_lt_of_cell? W _ z0)).trans (zf o)⟩
  have HST : Hid (∀ w', Below W.heap.size W w' → ((w'.setCell ⟨w.heap.size + 1, 0, none⟩ (.string x1)).setCell ⟨w.heap.size + 1, 1, none⟩ (.string x2)).cell? ⟨w.heap.size, 0, none⟩ = some (.string x1) ∧ ((w'.setCell ⟨w.heap.size + 1, 0, none⟩ (.string x1)).setCell ⟨w.heap.size + 1, 1, none⟩ (.string x2)).cell? ⟨w.heap.size, 1, none⟩ = some (.string x2)) := fun w' b => by
    obtain ⟨s0, s1⟩ := HS.out w' b
    constructor
    · rw [World.cell?_setCell_other _ _ _ _ (by simp), World.cell?_setCell_other _ _ _ _ (by simp)]; exact s0
    · rw [World.cell?_setCell_other _ _ _ _ (by simp), World.cell?_setCell_other _ _ _ _ (by simp)]; exact s1
  clear z0 z1 zf
  go_region_held3 (fun w' => w'.cell? ⟨w.heap.size, 0, none⟩ = some (.string x1) ∧ w'.cell? ⟨w.heap.size, 1, none⟩ = some (.string x2)) (first | exact ⟨a0, a1⟩ | exact HS.out _ (by assumption) | exact HST.out _ (by assumption)) ((first | (go_at_call 35; go_fit (K1.out W.drew); rintro e w2 ⟨rfl, b2⟩; have b2' := undrew b2) | (go_at_call 35; go_fit (K2.out _); rintro e w3 ⟨rfl, b3⟩; have b3' : Below W.heap.size W _ := b2'.trans (b3.mono b2'.size); have zz := HZ.out _ b3'; obtain ⟨z0, z1, zf⟩ := zz)))
  have r0 : ((w3.setCell ⟨w.heap.size + 1, 0, none⟩ (.string x1)).setCell ⟨w.heap.size + 1, 1, none⟩ (.string x2)).cell? ⟨w.heap.size + 1, 0, none⟩ = some (.string x1) := by
    rw [World.cell?_setCell_other _ _ _ _ (by simp)]
    exact World.cell?_setCell_same' _ _ _ (by rw [z0]; rfl)
  have r1 : ((w3.setCell ⟨w.heap.size + 1, 0, none⟩ (.string x1)).setCell ⟨w.heap.size + 1, 1, none⟩ (.string x2)).cell? ⟨w.heap.size + 1, 1, none⟩ = some (.string x2) := World.cell?_setCell_same' _ _ _ (by rw [World.cell?_setCell_other _ _ _ _ (by simp), z1]; rfl)
  have HF : Hid (Below w.heap.size w ((w3.setCell ⟨w.heap.size + 1, 0, none⟩ (.string x1)).setCell ⟨w.heap.size + 1, 1, none⟩ (.string x2))) := by
    have bw := HB.out.trans (b3'.mono HB.out.size)
    have k : Kp (· = w.heap.size + 1) w3 ((w3.setCell ⟨w.heap.size + 1, 0, none⟩ (.string x1)).setCell ⟨w.heap.size + 1, 1, none⟩ (.string x2)) := ((Kp.refl (· = w.heap.size + 1) w3).setCell (p := ⟨w.heap.size + 1, 0, none⟩) rfl _).setCell (p := ⟨w.heap.size + 1, 1, none⟩) rfl _
    exact bw.trans (k.below bw.size (fun i hi e => by omega))
  rename_i hHeld
  clear hHeld z0 z1 zf b2 b2' b3 b3' HS HZ HST a0 a1
  generalize (w3.setCell ⟨w.heap.size + 1, 0, none⟩ (.string x1)).setCell ⟨w.heap.size + 1, 1, none⟩ (.string x2) = W4 at *
  go_wp2
  refine bodyPost_ret (v := lbV (x1, x2)) (by simp [results, Tryd.results29, go_sem, r0, r1]) rfl ⟨rfl, HF.out⟩
set_option maxHeartbeats 4000000 in
set_option maxRecDepth 100000 in
theorem valueOf2 (g c : Nat) (x y : Lb) (n : ByteArray) (w : World) (h : C4 w g x y) (hx : (x.1.toList == n.toList) = false) (hy : (y.1.toList == n.toList) = true) : Calls Tryd.prog 36 #[.slice (some ⟨g, 0, none⟩) 2 c, .string n] w fun e w' => e = .returned (.string y.2) ∧ Below w.heap.size w w' := by
  have HC : Hid (C4 w g x y) := h
  obtain ⟨x1, x2⟩ := x
  obtain ⟨y1, y2⟩ := y
  dsimp only at hx hy
  clear h
  go_enter Tryd.func36, Tryd.ntmps36
  go_wp2_with fail
  go_loopw [9] (fun t w' => (t = .int .i64 0 ∨ t = .int .i64 1) ∧ Hid (Below w.heap.size w w')) (fun t _ => 1 - (RowKit.intOf t).toNat)
  case atStart => exact ⟨.inl rfl, Below.refl _ _⟩
  case round =>
    obtain ⟨hj, HW⟩ := hrel
    obtain ⟨c0, c1, c2, c3, _⟩ := HC.out.below HW.out
    dsimp only at c0 c1 c2 c3
    rcases hj with rfl | rfl
    · have HN : Hid (Below w.heap.size w (wr.alloc (lbX (x1, x2)))) := HW.out.alloc HW.out.size _
      go_wp2
      exact ⟨⟨.inr rfl, HN⟩, by decide⟩
    · have HN : Hid (Below w.heap.size w (wr.alloc (lbX (y1, y2)))) := HW.out.alloc HW.out.size _
      go_wp2
      go_ret
      exact ⟨rfl, HN.out⟩
set_option maxHeartbeats 1000000 in
theorem get2 (g c : Nat) (x y : Lb) (n : ByteArray) (w : World) (h : C4 w g x y) (hx : (x.1.toList == n.toList) = false) (hy : (y.1.toList == n.toList) = true) (hs : y.2.size ≤ 140737488355328) : Calls Tryd.prog 12 #[.slice (some ⟨g, 0, none⟩) 2 c, .string n] w fun e w' => e = .returned (.string y.2) ∧ Below w.heap.size w w' := by
  have k1 := valueOf2 g c x y n w h hx hy
  have HK : Hid (∀ W, Calls Tryd.prog 35 #[.string y.2] W fun e w' => e = .returned (.string y.2) ∧ Below W.heap.size W w') := fun W => clone_any y.2 W hs
  clear h hx hy hs
  go_enter Tryd.func12, Tryd.ntmps12
  go_wp2_with fail
  go_fit k1
  rintro e w1 ⟨rfl, b1⟩
  have k2 := HK.out w1
  have H1 : Hid (Below w.heap.size w w1) := b1
  clear k1 b1
  go_wp2_with fail
  go_fit k2
  rintro e w2 ⟨rfl, b2⟩
  have H2 : Hid (Below w.heap.size w w2) := H1.out.trans (b2.mono H1.out.size)
  clear k2 b2
  go_wp2
  go_ret
  exact ⟨rfl, H2.out⟩
end Go.Proofs.YtjmninjaoemhjaaDoor
