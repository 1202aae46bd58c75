/- Labels: one against another. -/
import Derived.Test.YtjmninjaoemhjaaDoorCb
namespace Go.Proofs.YtjmninjaoemhjaaDoor
open Go.RowKit

set_option maxHeartbeats 4000000 in
theorem compareLabels_any (x y : Lb) (w : World) : Calls Tryd.prog 26 #[lbV x, lbV y] w fun e w' => e = .returned (.int .i64 (o2 x y)) ∧ Below w.heap.size w w' := by
  obtain ⟨x1, x2⟩ := x
  obtain ⟨y1, y2⟩ := y
  have K1 : Hid (∀ W, Calls Tryd.prog 52 #[.string x1, .string y1] W fun e w' => e = .returned (.int .i64 (od x1 y1)) ∧ w' = W) := fun W => compare_any x1 y1 W
  have K2 : Hid (∀ W, Calls Tryd.prog 52 #[.string x2, .string y2] W fun e w' => e = .returned (.int .i64 (od x2 y2)) ∧ w' = W) := fun W => compare_any x2 y2 W
  show Calls Tryd.prog 26 _ _ fun e w' => e = .returned (.int .i64 (if od x1 y1 = 0 then od x2 y2 else od x1 y1)) ∧ _
  generalize od x1 y1 = C at *
  generalize od x2 y2 = D at *
  obtain ⟨E, hE⟩ : ∃ E, E = if C = 0 then D else C := ⟨_, rfl⟩
  rw [← hE]
  have K3 : Hid (∀ (W : World) (g : Nat), g = W.heap.size → Calls Tryd.prog 51 #[.slice (some ⟨g, 0, none⟩) 2 2] (W.alloc (.cells #[.int .i64 C, .int .i64 D] 3)).drew fun e w' => e = .returned (.int .i64 E) ∧ w' = (W.alloc (.cells #[.int .i64 C, .int .i64 D] 3)).drew) := fun W g hg => by
    subst hg
    have e : ((W.alloc (.cells #[.int .i64 C, .int .i64 D] 3)).drew).heap[W.heap.size]? = some (.cells #[.int .i64 C, .int .i64 D] 3) := heap_alloc_new W _
    rw [hE]
    exact or_two _ C D _ (by unfold World.cell?; rw [e]; rfl) (by unfold World.cell?; rw [e]; rfl)
  have HB : Hid (Below w.heap.size w ((w.alloc (lbX (x1, x2))).alloc (lbX (y1, y2)))) := ((Below.refl _ w).alloc (Nat.le_refl _) _).alloc (by simp) _
  have h1 : (w.alloc (lbX (x1, x2))).heap[w.heap.size]? = some (lbX (x1, x2)) := heap_alloc_new w _
  have h2 : ((w.alloc (lbX (x1, x2))).alloc (lbX (y1, y2))).heap[w.heap.size + 1]? = some (lbX (y1, y2)) := by have := heap_alloc_new (w.alloc (lbX (x1, x2))) (lbX (y1, y2)); simpa using this
  have b1 : Below (w.alloc (lbX (x1, x2))).heap.size (w.alloc (lbX (x1, x2))) ((w.alloc (lbX (x1, x2))).alloc (lbX (y1, y2))) := (Below.refl _ _).alloc (Nat.le_refl _) _
  have c0 : ((w.alloc (lbX (x1, x2))).alloc (lbX (y1, y2))).cell? ⟨w.heap.size, 0, none⟩ = some (.string x1) := bcell2 b1 (by unfold World.cell?; rw [h1]; rfl)
  have c1 : ((w.alloc (lbX (x1, x2))).alloc (lbX (y1, y2))).cell? ⟨w.heap.size, 1, none⟩ = some (.string x2) := bcell2 b1 (by unfold World.cell?; rw [h1]; rfl)
  have d0 : ((w.alloc (lbX (x1, x2))).alloc (lbX (y1, y2))).cell? ⟨w.heap.size + 1, 0, none⟩ = some (.string y1) := by unfold World.cell?; rw [h2]; rfl
  have d1 : ((w.alloc (lbX (x1, x2))).alloc (lbX (y1, y2))).cell? ⟨w.heap.size + 1, 1, none⟩ = some (.string y2) := by unfold World.cell?; rw [h2]; rfl
  have hsz : ((w.alloc (lbX (x1, x2))).alloc (lbX (y1, y2))).heap.size = w.heap.size + 2 := by simp
  clear hE h1 h2 b1
  go_enter Tryd.func26, Tryd.ntmps26
  go_wp2_with fail
  generalize hWW : (w.alloc (lbX (x1, x2))).alloc (lbX (y1, y2)) = W at *
  have bb : Below W.heap.size W (W.alloc (.cells #[.int .i64 C, .int .i64 D] 3)).drew := ((Below.refl _ W).alloc (Nat.le_refl _) _).drew
  have HF : Hid (Below w.heap.size w (W.alloc (.cells #[.int .i64 C, .int .i64 D] 3)).drew) := HB.out.trans (bb.mono HB.out.size)
  have HS : Hid ((W.alloc (.cells #[.int .i64 C, .int .i64 D] 3)).drew.cell? ⟨w.heap.size, 0, none⟩ = some (.string x1) ∧ (W.alloc (.cells #[.int .i64 C, .int .i64 D] 3)).drew.cell? ⟨w.heap.size, 1, none⟩ = some (.string x2) ∧ (W.alloc (.cells #[.int .i64 C, .int .i64 D] 3)).drew.cell? ⟨w.heap.size + 1, 0, none⟩ = some (.string y1) ∧ (W.alloc (.cells #[.int .i64 C, .int .i64 D] 3)).drew.cell? ⟨w.heap.size + 1, 1, none⟩ = some (.string y2)) := ⟨bcell2 bb c0, bcell2 bb c1, bcell2 bb d0, bcell2 bb d1⟩
  have k3 := K3.out W W.heap.size rfl
  clear bb HB hWW hsz K3
  go_region_held3 (fun w' => w'.cell? ⟨w.heap.size, 0, none⟩ = some (.string x1) ∧ w'.cell? ⟨w.heap.size, 1, none⟩ = some (.string x2) ∧ w'.cell? ⟨w.heap.size + 1, 0, none⟩ = some (.string y1) ∧ w'.cell? ⟨w.heap.size + 1, 1, none⟩ = some (.string y2)) (first | exact ⟨c0, c1, d0, d1⟩ | exact HS.out) (first | (go_at_call 52; go_fit (K1.out _); rintro e w1 ⟨rfl, rfl⟩) | (go_at_call 52; go_fit (K2.out _); rintro e w1 ⟨rfl, rfl⟩) | (go_at_call 51; go_fit k3; rintro e w1 ⟨rfl, rfl⟩))
  go_wp2
  go_ret
  exact ⟨rfl, HF.out⟩
end Go.Proofs.YtjmninjaoemhjaaDoor
