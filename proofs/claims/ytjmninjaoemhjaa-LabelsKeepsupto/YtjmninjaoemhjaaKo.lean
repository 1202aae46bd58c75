/- copied: a label whose texts lie in memory of their own. -/
import Derived.Test.YtjmninjaoemhjaaKj
import Derived.Shelf.Small.Strs
import Derived.Shelf.LaysM
import Derived.Shelf.Strconv.Clone
namespace Go.Proofs
open Go.Shelf
def Try.laysM316_ren : Go.Shelf.Ren := ⟨fun | 316 => 34 | n => n, fun | 9 => 9 | 3 => 3 | 4 => 4 | 37 => 59 | 0 => 0 | 127 => 63 | 5 => 5 | n => n, fun | n => n⟩
theorem Try.laysM316 : Go.Proofs.LaysM.n316 Try.prog Try.laysM316_ren := {
  mixed := by kernel_rfl
  f316 := Try.func34.trans (congrArg some (by kernel_rfl))
  t0 := Try.underlying0
  a0 := Try.isAgg0
  z0 := Try.sizeOf0
  v0 := Try.zeroValue0
  t3 := Try.underlying3
  a3 := Try.isAgg3
  z3 := Try.sizeOf3
  v3 := Try.zeroValue3
  t4 := Try.underlying4
  a4 := Try.isAgg4
  z4 := Try.sizeOf4
  v4 := Try.zeroValue4
  t9 := Try.underlying9
  a9 := Try.isAgg9
  z9 := Try.sizeOf9
  v9 := Try.zeroValue9
  t37 := Try.underlying59
  a37 := Try.isAgg59
  z37 := Try.sizeOf59
  v37 := Try.zeroValue59
  t127 := Try.underlying63
  a127 := Try.isAgg63
  z127 := Try.sizeOf63
  v127 := Try.zeroValue63
  t5 := Try.underlying5
  a5 := Try.isAgg5
  z5 := Try.sizeOf5
  v5 := Try.zeroValue5
  i0 := by kernel_rfl
  i3 := by kernel_rfl
  i4 := by kernel_rfl
  i5 := by kernel_rfl
  i9 := by kernel_rfl
  i37 := by kernel_rfl
  i127 := by kernel_rfl }
open Go.RowKit in
/-- internal/stringslite.Clone (what strings.Clone calls): "Clone returns a fresh copy of s.": THE SAME BYTES. Of what was there nothing has turned (a new row is laid, and frozen, where s is not empty). (LAID: no walk: one application.) -/
theorem Try.stringslite_Clone (s : ByteArray) (w : World) (hlim : s.size ≤ 281474976710656) :
    Calls Try.prog 34 #[.string s] w fun e w' => e = .returned (.string s) ∧ Below w.heap.size w w' := Any.stringslite_Clone Try.laysM316 s w hlim
end Go.Proofs
namespace Go.Proofs.Ytjmninjaoemhjaa
open Go.RowKit Go.Lib

theorem undrew {w w' : World} (h : Below w.drew.heap.size w.drew w') : Below w.heap.size w w' := ⟨h.os, h.tape, h.output, h.size, h.block⟩
theorem Kp.setCell {M : Nat → Prop} {a w : World} (h : Kp M a w) {p : Addr} (hp : M p.block) (u : Value) : Kp M a (w.setCell p u) :=
  h.trans ⟨rfl, rfl, rfl, by simp [World.setCell], fun k hk hm => Below.heap_setCell _ _ _ _ (fun e => hm (e ▸ hp))⟩
set_option maxHeartbeats 1000000 in
theorem clone_any (s : ByteArray) (w : World) (hs : s.size ≤ 140737488355328) : Calls Try.prog 26 #[.string s] w fun e w' => e = .returned (.string s) ∧ Below w.heap.size w w' := by
  have k := Try.stringslite_Clone s w (by omega)
  go_enter Try.func26, Try.ntmps26
  go_wp2_with fail
  go_fit k
  rintro e w1 ⟨rfl, b1⟩
  have H1 : Hid _ := b1
  clear k b1
  go_wp2
  go_ret
  exact ⟨rfl, H1.out⟩
set_option maxHeartbeats 4000000 in
theorem copied_any (x : Lb) (w : World) (h1 : x.1.size ≤ 140737488355328) (h2 : x.2.size ≤ 140737488355328) : Calls Try.prog 18 #[lbV x] w fun e w' => e = .returned (lbV x) ∧ Below w.heap.size w w' := by
  obtain ⟨x1, x2⟩ := x
  have K1 : Hid (∀ W, Calls Try.prog 26 #[.string x1] W fun e w' => e = .returned (.string x1) ∧ Below W.heap.size W w') := fun W => clone_any x1 W h1
  have K2 : Hid (∀ W, Calls Try.prog 26 #[.string x2] W fun e w' => e = .returned (.string x2) ∧ Below W.heap.size W w') := fun W => clone_any x2 W h2
  clear h1 h2
  have e1 : (w.alloc (lbX (x1, x2))).heap[w.heap.size]? = some (lbX (x1, x2)) := heap_alloc_new w _
  have e2 : ((w.alloc (lbX (x1, x2))).alloc (lbX (⟨#[]⟩, ⟨#[]⟩))).heap[w.heap.size + 1]? = some (lbX (⟨#[]⟩, ⟨#[]⟩)) := by have := heap_alloc_new (w.alloc (lbX (x1, x2))) (lbX (⟨#[]⟩, ⟨#[]⟩)); simpa using this
  have b1 : Below (w.alloc (lbX (x1, x2))).heap.size (w.alloc (lbX (x1, x2))) ((w.alloc (lbX (x1, x2))).alloc (lbX (⟨#[]⟩, ⟨#[]⟩))) := (Below.refl _ _).alloc (Nat.le_refl _) _
  have a0 : ((w.alloc (lbX (x1, x2))).alloc (lbX (⟨#[]⟩, ⟨#[]⟩))).cell? ⟨w.heap.size, 0, none⟩ = some (.string x1) := bcell2 b1 (by unfold World.cell?; rw [e1]; rfl)
  have a1 : ((w.alloc (lbX (x1, x2))).alloc (lbX (⟨#[]⟩, ⟨#[]⟩))).cell? ⟨w.heap.size, 1, none⟩ = some (.string x2) := bcell2 b1 (by unfold World.cell?; rw [e1]; rfl)
  have z0 : ((w.alloc (lbX (x1, x2))).alloc (lbX (⟨#[]⟩, ⟨#[]⟩))).cell? ⟨w.heap.size + 1, 0, none⟩ = some (.string ⟨#[]⟩) := by unfold World.cell?; rw [e2]; rfl
  have z1 : ((w.alloc (lbX (x1, x2))).alloc (lbX (⟨#[]⟩, ⟨#[]⟩))).cell? ⟨w.heap.size + 1, 1, none⟩ = some (.string ⟨#[]⟩) := by unfold World.cell?; rw [e2]; rfl
  have zf : ∀ o, ((w.alloc (lbX (x1, x2))).alloc (lbX (⟨#[]⟩, ⟨#[]⟩))).frozen? ⟨w.heap.size + 1, o, none⟩ = false := fun o => by unfold World.frozen?; rw [e2]; simp
  have HB : Hid (Below w.heap.size w ((w.alloc (lbX (x1, x2))).alloc (lbX (⟨#[]⟩, ⟨#[]⟩)))) := ((Below.refl _ w).alloc (Nat.le_refl _) _).alloc (by simp) _
  clear e1 e2 b1
  go_enter Try.func18, Try.ntmps18
  go_wp2_with fail
  generalize (w.alloc (lbX (x1, x2))).alloc (lbX (⟨#[]⟩, ⟨#[]⟩)) = W at *
  have HS : Hid (∀ w', Below W.heap.size W w' → w'.cell? ⟨w.heap.size, 0, none⟩ = some (.string x1) ∧ w'.cell? ⟨w.heap.size, 1, none⟩ = some (.string x2)) := fun w' b => ⟨bcell2 b a0, bcell2 b a1⟩
  have HZ : Hid (∀ w', Below W.heap.size W w' → w'.cell? ⟨w.heap.size + 1, 0, none⟩ = some (.string ⟨#[]⟩) ∧ w'.cell? ⟨w.heap.size + 1, 1, none⟩ = some (.string ⟨#[]⟩) ∧ ∀ o, w'.frozen? ⟨w.heap.size + 1, o, none⟩ = false) := fun w' b => ⟨bcell2 b z0, bcell2 b z1, fun o => (b.frozen (p := ⟨w.heap.size + 1, o, none⟩) (show w.heap.size + 1 < W.heap.size from World.block_lt_of_cell? W _ z0)).trans (zf o)⟩
  have HST : Hid (∀ w', Below W.heap.size W w' → ((w'.setCell ⟨w.heap.size + 1, 0, none⟩ (.string x1)).setCell ⟨w.heap.size + 1, 1, none⟩ (.string x2)).cell? ⟨w.heap.size, 0, none⟩ = some (.string x1) ∧ ((w'.setCell ⟨w.heap.size + 1, 0, none⟩ (.string x1)).setCell ⟨w.heap.size + 1, 1, none⟩ (.string x2)).cell? ⟨w.heap.size, 1, none⟩ = some (.string x2)) := fun w' b => by
    obtain ⟨s0, s1⟩ := HS.out w' b
    constructor
    · rw [World.cell?_setCell_other _ _ _ _ (by simp), World.cell?_setCell_other _ _ _ _ (by simp)]; exact s0
    · rw [World.cell?_setCell_other _ _ _ _ (by simp), World.cell?_setCell_other _ _ _ _ (by simp)]; exact s1
  clear z0 z1 zf
  go_region_held3 (fun w' => w'.cell? ⟨w.heap.size, 0, none⟩ = some (.string x1) ∧ w'.cell? ⟨w.heap.size, 1, none⟩ = some (.string x2)) (first | exact ⟨a0, a1⟩ | exact HS.out _ (by assumption) | exact HST.out _ (by assumption)) ((first | (go_at_call 26; go_fit (K1.out W.drew); rintro e w2 ⟨rfl, b2⟩; have b2' := undrew b2) | (go_at_call 26; go_fit (K2.out _); rintro e w3 ⟨rfl, b3⟩; have b3' : Below W.heap.size W _ := b2'.trans (b3.mono b2'.size); have zz := HZ.out _ b3'; obtain ⟨z0, z1, zf⟩ := zz)))
  have r0 : ((w3.setCell ⟨w.heap.size + 1, 0, none⟩ (.string x1)).setCell ⟨w.heap.size + 1, 1, none⟩ (.string x2)).cell? ⟨w.heap.size + 1, 0, none⟩ = some (.string x1) := by
    rw [World.cell?_setCell_other _ _ _ _ (by simp)]
    exact World.cell?_setCell_same' _ _ _ (by rw [z0]; rfl)
  have r1 : ((w3.setCell ⟨w.heap.size + 1, 0, none⟩ (.string x1)).setCell ⟨w.heap.size + 1, 1, none⟩ (.string x2)).cell? ⟨w.heap.size + 1, 1, none⟩ = some (.string x2) := World.cell?_setCell_same' _ _ _ (by rw [World.cell?_setCell_other _ _ _ _ (by simp), z1]; rfl)
  have HF : Hid (Below w.heap.size w ((w3.setCell ⟨w.heap.size + 1, 0, none⟩ (.string x1)).setCell ⟨w.heap.size + 1, 1, none⟩ (.string x2))) := by
    have bw := HB.out.trans (b3'.mono HB.out.size)
    have k : Kp (· = w.heap.size + 1) w3 ((w3.setCell ⟨w.heap.size + 1, 0, none⟩ (.string x1)).setCell ⟨w.heap.size + 1, 1, none⟩ (.string x2)) := ((Kp.refl (· = w.heap.size + 1) w3).setCell (p := ⟨w.heap.size + 1, 0, none⟩) rfl _).setCell (p := ⟨w.heap.size + 1, 1, none⟩) rfl _
    exact bw.trans (k.below bw.size (fun i hi e => by omega))
  rename_i hHeld
  clear hHeld z0 z1 zf b2 b2' b3 b3' HS HZ HST a0 a1
  generalize (w3.setCell ⟨w.heap.size + 1, 0, none⟩ (.string x1)).setCell ⟨w.heap.size + 1, 1, none⟩ (.string x2) = W4 at *
  go_wp2
  refine bodyPost_ret (v := lbV (x1, x2)) (by simp [results, Try.results18, go_sem, r0, r1]) rfl ⟨rfl, HF.out⟩
end Go.Proofs.Ytjmninjaoemhjaa
