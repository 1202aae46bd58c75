/- isNew, save. -/
import Derived.Test.YtnpgkiidpeaapaaDoorPj
import Derived.Deep.RegionHeld3
namespace Go.Proofs.YtnpgkiidpeaapaaDoor
open Go.RowKit

set_option maxHeartbeats 400000 in
set_option maxRecDepth 100000 in
theorem Gs.save {k : Cx} {W0 w : World} {tr : Pt → Bool} {st : List Fr} {sl : Nat → Int} (h : Gs k W0 w tr st sl) (i a : Nat) (h1 : 2 ≤ i) (h2 : i < k.sn) (hsn : k.sn ≤ 1000) (hN : (st.length + 1) * 16 ≤ 140737488355328) :
    Calls Tryd.prog 39 #[.pointer (some ⟨k.b, 0, none⟩), .int .i64 (i : Int), .int .i64 (a : Int)] w fun r w' => r = .returned (.tuple #[]) ∧ Gs k W0 w' tr (Sum.inr (i, sl i) :: st) (upd sl i (a : Int)) := by
  obtain ⟨_, _, c2⟩ := h.cells
  obtain ⟨_, s1, s2⟩ := h.slot i h2 0
  have kP := fun W hb => Gs.push (w := W) (h.below hb) (Sum.inr (i, sl i)) ⟨h1, h2⟩ hN
  have hi : (i : Int) < (k.sn : Int) := by omega
  have hi9 : (i : Int) ≤ 1000 := by omega
  have q1 := eq_nil31
  have v1 : IntKind.i64.wrap (-(i : Int)) = -(i : Int) := wrI _ (by omega)
  have kS : ∀ W, Below w.heap.size w W → Calls Tryd.prog 33 #[.pointer (some ⟨k.b, 5, none⟩), .agg #[.int .i64 (-(i : Int)), .int .i64 (sl i)]] W fun r w' => r = .returned (.tuple #[]) ∧ Gs k W0 w' tr (Sum.inr (i, sl i) :: st) sl := kP
  have hB0 := Below.refl w.heap.size w
  clear kP h
  go_enter Tryd.func39, Tryd.ntmps39
  go_wp2_with fail
  have kS1 := kS w.drew hB0.drew
  clear kS
  go_region_held3 (fun w' => w'.cell? ⟨k.b, 2, none⟩ = some (.slice (some ⟨k.sb, 0, none⟩) k.sn k.sp) ∧ w'.cell? ⟨k.sb, i, none⟩ = some (.int .i64 (sl i))) (first | go_keep | exact ⟨g1.cells.2.2, (g1.slot i h2 0).2.1⟩) ((go_at_call 33; go_fit kS1; rintro r w1 ⟨rfl, g1⟩))
  all_goals
    obtain ⟨_, _, c2'⟩ := g1.cells
    obtain ⟨g2, s1', s2'⟩ := g1.slot i h2 (a : Int)
    have G2 : Hid _ := g2
    clear g1 g2
    go_wp2
    go_end0
    exact ⟨rfl, G2.out⟩
end Go.Proofs.YtnpgkiidpeaapaaDoor
