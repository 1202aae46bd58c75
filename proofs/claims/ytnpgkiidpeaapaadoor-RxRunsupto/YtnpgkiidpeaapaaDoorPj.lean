/- isNew, save. -/
import Derived.Test.YtnpgkiidpeaapaaDoorPi
import Derived.Deep.RegionHeld3
namespace Go.Proofs.YtnpgkiidpeaapaaDoor
open Go.RowKit

theorem wrI (x : Int) (h : -9223372036854775808 ≤ x ∧ x ≤ 9223372036854775807) : IntKind.i64.wrap x = x := by rw [IntKind.wrap_i64]; omega
set_option maxHeartbeats 400000 in
set_option maxRecDepth 100000 in
theorem Gs.isNew {k : Cx} {W0 w : World} {tr : Pt → Bool} {st : List Fr} {sl : Nat → Int} {p : Pt} (f : Fix k W0) (h : Gs k W0 w tr st sl) (h1 : p.1 < k.n) (h2 : p.2 ≤ k.L) :
    Calls Tryd.prog 36 #[.pointer (some ⟨k.b, 0, none⟩), .int .i64 (p.1 : Int), .int .i64 (p.2 : Int)] w fun r w' => r = .returned (.bool (!(k.J p.1 && tr p))) ∧ Gs k W0 w' (mark tr p) st sl := by
  have fx := h.fix f
  obtain ⟨c0, c1, _⟩ := h.cells
  have m4 := fx.mach.m4
  have j1 := fx.mach.js p.1 h1
  have hi : (p.1 : Int) < (k.n : Int) := by omega
  have hsz := f.size_le.2
  have hs : (k.s.size : Int) ≤ 2097152 := by have := f.hs; omega
  cases hJ : k.J p.1 with
  | false =>
    have e : jtI k.J p.1 = -1 := by unfold jtI; rw [hJ]; rfl
    rw [e] at j1
    have HG : Hid (Gs k W0 w (mark tr p) st sl) := h.skip hJ
    have HGd : Hid (∀ m, Gs k W0 (w.drewN m) (mark tr p) st sl) := fun m => HG.out.below (below_drewN (Below.refl _ _) m)
    clear h fx hJ
    obtain ⟨p1, p2⟩ := p
    show Calls Tryd.prog 36 #[.pointer (some ⟨k.b, 0, none⟩), .int .i64 (p1 : Int), .int .i64 (p2 : Int)] w _
    go_enter Tryd.func36, Tryd.ntmps36
    go_wp2_with fail
    go_quiet (fail)
    go_wp2
    go_ret
    exact ⟨rfl, HGd.out _⟩
  | true =>
    have e : jtI k.J p.1 = (cj k.J p.1 : Int) := by unfold jtI; rw [hJ]; rfl
    rw [e] at j1
    have kA := fun W (hb : Below w.heap.size w W) => (h.below hb).add h1 h2 hJ
    have hlt := mkN_lt k.J k.L k.n p hJ h1 h2
    have hnn : ¬ (cj k.J p.1 : Int) < 0 := by omega
    have hnd : decide ((cj k.J p.1 : Int) < 0) = false := decide_eq_false hnn
    obtain ⟨C, hC⟩ : ∃ C, C = cj k.J p.1 := ⟨_, rfl⟩
    obtain ⟨M, hM⟩ : ∃ M, M = mkN k.J k.L p := ⟨_, rfl⟩
    rw [← hM] at kA hlt
    rw [← hC] at j1 hnn hnd
    have hMe : (M : Int) = (C : Int) * ((k.s.size : Int) + 1) + (p.2 : Int) := by
      rw [hM, hC]
      unfold mkN
      push_cast
      rfl
    have hlt' : M < k.size := hlt
    have hb : (C : Int) * ((k.s.size : Int) + 1) ≤ 20971530000 := by omega
    have hb0 : 0 ≤ (C : Int) * ((k.s.size : Int) + 1) := by
      have : 0 ≤ (p.2 : Int) := by omega
      exact Int.mul_nonneg (by omega) (by omega)
    have hp2 : (p.2 : Int) ≤ 2097152 := by have : p.2 ≤ k.s.size := h2; omega
    have HM : Hid ((C : Int) * ((k.s.size : Int) + 1) + (p.2 : Int) = (M : Int)) := hMe.symm
    have kB := kA
    have v1 : IntKind.i64.wrap ((k.s.size : Int) + 1) = (k.s.size : Int) + 1 := wrI _ (by omega)
    have v2 : IntKind.i64.wrap ((C : Int) * ((k.s.size : Int) + 1)) = (C : Int) * ((k.s.size : Int) + 1) := wrI _ (by omega)
    have v3 : IntKind.i64.wrap ((C : Int) * ((k.s.size : Int) + 1) + (p.2 : Int)) = (M : Int) := by rw [HM.out]; exact wrI _ (by omega)
    have hB0 := Below.refl w.heap.size w
    clear h fx hJ hM hMe e hlt hlt' hC kA HM
    generalize tr p = T at *
    generalize mark tr p = TR at *
    obtain ⟨p1, p2⟩ := p
    show Calls Tryd.prog 36 #[.pointer (some ⟨k.b, 0, none⟩), .int .i64 (p1 : Int), .int .i64 (p2 : Int)] w _
    go_enter Tryd.func36, Tryd.ntmps36
    go_wp2_with fail
    have kB1 := kB w.drew hB0.drew
    clear kB
    go_region_held3 (fun w' => w'.cell? ⟨k.b, 1, none⟩ = some (.string k.s)) (first | go_keep | exact g1.cells.2.1) ((go_at_call 41; go_fit kB1; rintro r w1 ⟨rfl, g1⟩))
    all_goals go_wp2
    all_goals go_ret
    all_goals exact ⟨rfl, by first | exact g1 | exact g1.below (Below.refl _ _).drew⟩
end Go.Proofs.YtnpgkiidpeaapaaDoor
