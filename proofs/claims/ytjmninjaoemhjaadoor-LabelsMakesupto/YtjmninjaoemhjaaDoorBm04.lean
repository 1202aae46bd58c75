/- A bundle of texts. -/
import Derived.Test.YtjmninjaoemhjaaDoorBm01
import Derived.Test.YtjmninjaoemhjaaDoorBm03
/- Labels: two labels sorted. -/
namespace Go.Proofs.YtjmninjaoemhjaaDoor
open Go.RowKit Go.Lib

theorem Kp.setCell {M : Nat → Prop} {a w : World} (h : Kp M a w) {p : Addr} (hp : M p.block) (u : Value) : Kp M a (w.setCell p u) :=
  h.trans ⟨rfl, rfl, rfl, by simp [World.setCell], fun k hk hm => Below.heap_setCell _ _ _ _ (fun e => hm (e ▸ hp))⟩
theorem Kp.trans' {M N : Nat → Prop} {a b c : World} (h : Kp M a b) (k : Kp N b c) (hn : ∀ i, i < a.heap.size → N i → M i) : Kp M a c := ⟨k.os.trans h.os, k.tape.trans h.tape, k.output.trans h.output, Nat.le_trans h.size k.size, fun i hi hm => (k.block i (Nat.lt_of_lt_of_le hi h.size) (fun x => hm (hn i hi x))).trans (h.block i hi hm)⟩
set_option maxHeartbeats 1000000 in
theorem byName_any (x y : Lb) (w : World) : Calls Tryd.prog 31 #[lbV x, lbV y] w fun e w' => e = .returned (.int .i64 (od x.1 y.1)) ∧ Below w.heap.size w w' := by
  obtain ⟨x1, x2⟩ := x
  obtain ⟨y1, y2⟩ := y
  have k := compare_any x1 y1 ((w.alloc (lbX (x1, x2))).alloc (lbX (y1, y2)))
  have HB : Hid (Below w.heap.size w ((w.alloc (lbX (x1, x2))).alloc (lbX (y1, y2)))) := ((Below.refl _ w).alloc (Nat.le_refl _) _).alloc (by simp) _
  dsimp only
  generalize od x1 y1 = C at *
  go_enter Tryd.func31, Tryd.ntmps31
  go_wp2_with fail
  go_fit k
  rintro e w1 ⟨rfl, rfl⟩
  clear k
  go_wp2
  go_ret
  exact ⟨rfl, HB.out⟩
/-- Four cells of a row of two labels. -/
def C4 (w : World) (g : Nat) (x y : Lb) : Prop := w.cell? ⟨g, 0, none⟩ = some (.string x.1) ∧ w.cell? ⟨g, 1, none⟩ = some (.string x.2) ∧ w.cell? ⟨g, 2, none⟩ = some (.string y.1) ∧ w.cell? ⟨g, 3, none⟩ = some (.string y.2) ∧ ∀ o, w.frozen? ⟨g, o, none⟩ = false
theorem C4.below {w w' : World} {g : Nat} {x y : Lb} (h : C4 w g x y) (b : Below w.heap.size w w') : C4 w' g x y := by
  obtain ⟨a, b1, c, d, e⟩ := h
  have hg := World.block_lt_of_cell? w _ a
  exact ⟨bcell2 b a, bcell2 b b1, bcell2 b c, bcell2 b d, fun o => (b.frozen (p := ⟨g, o, none⟩) hg).trans (e o)⟩
theorem undrew {w w' : World} (h : Below w.drew.heap.size w.drew w') : Below w.heap.size w w' := ⟨h.os, h.tape, h.output, h.size, h.block⟩
theorem C4.drewN {w : World} {g : Nat} {x y : Lb} (h : C4 w g x y) (n : Nat) : C4 (w.drewN n) g x y := h
theorem swap4 {w : World} {g : Nat} {x y : Lb} (h : C4 w g x y) : C4 ((((w.setCell ⟨g, 2, none⟩ (.string x.1)).setCell ⟨g, 3, none⟩ (.string x.2)).setCell ⟨g, 0, none⟩ (.string y.1)).setCell ⟨g, 1, none⟩ (.string y.2)).drew g y x ∧ Kp (· = g) w ((((w.setCell ⟨g, 2, none⟩ (.string x.1)).setCell ⟨g, 3, none⟩ (.string x.2)).setCell ⟨g, 0, none⟩ (.string y.1)).setCell ⟨g, 1, none⟩ (.string y.2)).drew := by
  obtain ⟨a1, a2, a3, a4, f⟩ := h
  have k1 : C4 ((((w.setCell ⟨g, 2, none⟩ (.string x.1)).setCell ⟨g, 3, none⟩ (.string x.2)).setCell ⟨g, 0, none⟩ (.string y.1)).setCell ⟨g, 1, none⟩ (.string y.2)) g y x := by
    refine ⟨?_, ?_, ?_, ?_, fun o => ?_⟩
    · simp [World.cell?_setCell_other, World.cell?_setCell_same', a1]
    · simp [World.cell?_setCell_other, World.cell?_setCell_same', a2]
    · simp [World.cell?_setCell_other, World.cell?_setCell_same', a3]
    · simp [World.cell?_setCell_other, World.cell?_setCell_same', a4]
    · simp [World.frozen?_setCell, f]
  refine ⟨?_, ?_⟩
  · generalize ((((w.setCell ⟨g, 2, none⟩ (.string x.1)).setCell ⟨g, 3, none⟩ (.string x.2)).setCell ⟨g, 0, none⟩ (.string y.1)).setCell ⟨g, 1, none⟩ (.string y.2)) = W at k1 ⊢
    exact ⟨k1.1, k1.2.1, k1.2.2.1, k1.2.2.2.1, k1.2.2.2.2⟩
  · have k : Kp (· = g) w ((((w.setCell ⟨g, 2, none⟩ (.string x.1)).setCell ⟨g, 3, none⟩ (.string x.2)).setCell ⟨g, 0, none⟩ (.string y.1)).setCell ⟨g, 1, none⟩ (.string y.2)) := ((((Kp.refl (· = g) w).setCell (p := ⟨g, 2, none⟩) rfl _).setCell (p := ⟨g, 3, none⟩) rfl _).setCell (p := ⟨g, 0, none⟩) rfl _).setCell (p := ⟨g, 1, none⟩) rfl _
    generalize ((((w.setCell ⟨g, 2, none⟩ (.string x.1)).setCell ⟨g, 3, none⟩ (.string x.2)).setCell ⟨g, 0, none⟩ (.string y.1)).setCell ⟨g, 1, none⟩ (.string y.2)) = W at k ⊢
    exact ⟨k.os, k.tape, k.output, k.size, k.block⟩
set_option maxHeartbeats 4000000 in
set_option maxRecDepth 100000 in
theorem insertion2 (g c : Nat) (x y : Lb) (w : World) (h : C4 w g x y) (hxy : od y.1 x.1 = -1) : Calls Tryd.prog 74 #[.slice (some ⟨g, 0, none⟩) 2 c, .int .i64 0, .int .i64 2, .func (.func 31) #[] #[]] w fun e w' => e = .returned (.tuple #[]) ∧ C4 w' g y x ∧ Kp (· = g) w w' := by
  have HC : Hid (C4 w g x y) := h
  have kb := byName_any y x w.drew
  rw [hxy] at kb
  obtain ⟨x1, x2⟩ := x
  obtain ⟨y1, y2⟩ := y
  have c0 : w.cell? ⟨g, 0, none⟩ = some (.string x1) := h.1
  have c1 : w.cell? ⟨g, 1, none⟩ = some (.string x2) := h.2.1
  have c2 : w.cell? ⟨g, 2, none⟩ = some (.string y1) := h.2.2.1
  have c3 : w.cell? ⟨g, 3, none⟩ = some (.string y2) := h.2.2.2.1
  have h00 : IntKind.i64.wrap 0 = 0 := by decide
  clear h hxy
  go_enter Tryd.func74, Tryd.ntmps74
  go_wp2_with fail
  go_loopw [8] (fun t w' => (t = .int .i64 1 ∧ w' = w) ∨ (t = .int .i64 2 ∧ Hid (C4 w' g (y1, y2) (x1, x2) ∧ Kp (· = g) w w'))) (fun t _ => 2 - (RowKit.intOf t).toNat)
  case atStart => exact .inl ⟨rfl, rfl⟩
  case round =>
    rcases hrel with ⟨rfl, rfl⟩ | ⟨rfl, HF⟩
    · go_wp2_with fail
      go_loopw [9] (fun t w' => (t = .int .i64 1 ∧ w' = wr) ∨ (t = .int .i64 0 ∧ Hid (C4 w' g (y1, y2) (x1, x2) ∧ Kp (· = g) wr w'))) (fun t _ => (RowKit.intOf t).toNat)
      case atStart => exact .inl ⟨rfl, rfl⟩
      case round =>
        rcases hrel with ⟨rfl, rfl⟩ | ⟨rfl, HF⟩
        · have HK : Hid (∀ w', Below wr.drew.heap.size wr.drew w' → C4 w' g (x1, x2) (y1, y2)) := fun w' b => HC.out.below (undrew b)
          have HK4 : Hid (∀ w', Below wr.drew.heap.size wr.drew w' → w'.cell? ⟨g, 0, none⟩ = some (.string x1) ∧ w'.cell? ⟨g, 1, none⟩ = some (.string x2) ∧ w'.cell? ⟨g, 2, none⟩ = some (.string y1) ∧ w'.cell? ⟨g, 3, none⟩ = some (.string y2)) := fun w' b => by
            obtain ⟨a1, a2, a3, a4, _⟩ := HK.out w' b
            exact ⟨a1, a2, a3, a4⟩
          go_wp2_with fail
          go_region_held3 (fun w' => w'.cell? ⟨g, 0, none⟩ = some (.string x1) ∧ w'.cell? ⟨g, 1, none⟩ = some (.string x2) ∧ w'.cell? ⟨g, 2, none⟩ = some (.string y1) ∧ w'.cell? ⟨g, 3, none⟩ = some (.string y2)) (first | exact ⟨c0, c1, c2, c3⟩ | exact HK4.out _ (by assumption)) ((go_at_call 31; go_fit kb; rintro e w3 ⟨rfl, b3⟩))
          have HK3 : Hid (C4 w3 g (x1, x2) (y1, y2)) := HK.out w3 b3
          have HB3 : Hid (Below wr.heap.size wr w3) := undrew b3
          clear c0 c1 c2 c3 kb b3 HK HK4
          obtain ⟨c0, c1, c2, c3, ff⟩ := HK3.out
          dsimp only at c0 c1 c2 c3
          go_wp2_with fail
          go_region
          have HSW : Hid (C4 ((((w3.setCell ⟨g, 2, none⟩ (.string x1)).setCell ⟨g, 3, none⟩ (.string x2)).setCell ⟨g, 0, none⟩ (.string y1)).setCell ⟨g, 1, none⟩ (.string y2)).drew g (y1, y2) (x1, x2) ∧ Kp (· = g) wr ((((w3.setCell ⟨g, 2, none⟩ (.string x1)).setCell ⟨g, 3, none⟩ (.string x2)).setCell ⟨g, 0, none⟩ (.string y1)).setCell ⟨g, 1, none⟩ (.string y2)).drew) := by
            have h := swap4 HK3.out
            exact ⟨h.1, (Kp.of HB3.out).trans h.2⟩
          clear c0 c1 c2 c3 ff HK3
          go_wp2
          exact ⟨.inr ⟨rfl, HSW⟩, by decide⟩
        · have HFN : Hid (∀ n, C4 (wr.drewN n) g (y1, y2) (x1, x2) ∧ Kp (· = g) _ (wr.drewN n)) := fun n => ⟨HF.out.1.drewN n, ⟨HF.out.2.os, HF.out.2.tape, HF.out.2.output, HF.out.2.size, HF.out.2.block⟩⟩
          go_wp2_with fail
          go_quiet (fail)
          go_wp2
          exact ⟨.inr ⟨rfl, HFN.out _⟩, by decide⟩
    · go_wp2
      go_end0
      exact ⟨rfl, HF.out⟩
set_option maxHeartbeats 4000000 in
set_option maxRecDepth 100000 in
theorem pdq2 (g c : Nat) (l : Int) (x y : Lb) (w : World) (h : C4 w g x y) (hxy : od y.1 x.1 = -1) : Calls Tryd.prog 56 #[.slice (some ⟨g, 0, none⟩) 2 c, .int .i64 0, .int .i64 2, .int .i64 l, .func (.func 31) #[] #[]] w fun e w' => e = .returned (.tuple #[]) ∧ C4 w' g y x ∧ Kp (· = g) w w' := by
  have k := insertion2 g c x y w h hxy
  clear h hxy
  go_enter Tryd.func56, Tryd.ntmps56
  go_wp2_with fail
  go_loopw [1, 2] (fun a b w' => a = .int .i64 0 ∧ b = .int .i64 2 ∧ w' = w) (fun _ _ _ => 0)
  case atStart => exact ⟨rfl, rfl, rfl⟩
  case round =>
    obtain ⟨rfl, rfl, rfl⟩ := hrel
    go_wp2_with fail
    go_fit k
    rintro e w1 ⟨rfl, h1, h2⟩
    have HF : Hid (C4 w1 g y x ∧ Kp (· = g) wr w1) := ⟨h1, h2⟩
    clear k h1 h2
    go_wp2
    refine bodyPost_ret (v := .tuple #[]) (by simp [results, Tryd.results56]) rfl ⟨rfl, HF.out⟩
set_option maxHeartbeats 4000000 in
theorem sort2 (g c : Nat) (x y : Lb) (w : World) (h : C4 w g x y) (hxy : od y.1 x.1 = -1) : Calls Tryd.prog 30 #[.slice (some ⟨g, 0, none⟩) 2 c, .func (.func 31) #[] #[]] w fun e w' => e = .returned (.tuple #[]) ∧ C4 w' g y x ∧ Kp (· = g) w w' := by
  have k1 := Tryd.bits_Len 2 w (by decide) (by decide)
  have k2 := pdq2 g c (Lib.bitLen (2 : Int).toNat) x y w h hxy
  clear h hxy
  go_enter Tryd.func30, Tryd.ntmps30
  go_wp2_with fail
  go_fit k1
  rintro e w1 ⟨rfl, rfl⟩
  clear k1
  go_wp2_with fail
  go_fit k2
  rintro e w1 ⟨rfl, h1, h2⟩
  have HF : Hid (C4 w1 g y x ∧ Kp (· = g) _ w1) := ⟨h1, h2⟩
  clear k2 h1 h2
  go_wp2
  go_end0
  exact ⟨rfl, HF.out⟩
end Go.Proofs.YtjmninjaoemhjaaDoor
/- Labels: copied, Get, Make of two labels. -/
namespace Go.Proofs.YtjmninjaoemhjaaDoor
open Go.RowKit Go.Lib

set_option maxHeartbeats 4000000 in
theorem copied_any (x : Lb) (w : World) (h1 : x.1.size ≤ 140737488355328) (h2 : x.2.size ≤ 140737488355328) : Calls Tryd.prog 29 #[lbV x] w fun e w' => e = .returned (lbV x) ∧ Below w.heap.size w w' := by
  obtain ⟨x1, x2⟩ := x
  have K1 : Hid (∀ W, Calls Tryd.prog 35 #[.string x1] W fun e w' => e = .returned (.string x1) ∧ Below W.heap.size W w') := fun W => clone_any x1 W h1
  have K2 : Hid (∀ W, Calls Tryd.prog 35 #[.string x2] W fun e w' => e = .returned (.string x2) ∧ Below W.heap.size W w') := fun W => clone_any x2 W h2
  clear h1 h2
  have e1 : (w.alloc (lbX (x1, x2))).heap[w.heap.size]? = some (lbX (x1, x2)) := heap_alloc_new w _
  have e2 : ((w.alloc (lbX (x1, x2))).alloc (lbX (⟨#[]⟩, ⟨#[]⟩))).heap[w.heap.size + 1]? = some (lbX (⟨#[]⟩, ⟨#[]⟩)) := by have := heap_alloc_new (w.alloc (lbX (x1, x2))) (lbX (⟨#[]⟩, ⟨#[]⟩)); simpa using this
  have b1 : Below (w.alloc (lbX (x1, x2))).heap.size (w.alloc (lbX (x1, x2))) ((w.alloc (lbX (x1, x2))).alloc (lbX (⟨#[]⟩, ⟨#[]⟩))) := (Below.refl _ _).alloc (Nat.le_refl _) _
  have a0 : ((w.alloc (lbX (x1, x2))).alloc (lbX (⟨#[]⟩, ⟨#[]⟩))).cell? ⟨w.heap.size, 0, none⟩ = some (.string x1) := bcell2 b1 (by unfold World.cell?; rw [e1]; rfl)
  have a1 : ((w.alloc (lbX (x1, x2))).alloc (lbX (⟨#[]⟩, ⟨#[]⟩))).cell? ⟨w.heap.size, 1, none⟩ = some (.string x2) := bcell2 b1 (by unfold World.cell?; rw [e1]; rfl)
  have z0 : ((w.alloc (lbX (x1, x2))).alloc (lbX (⟨#[]⟩, ⟨#[]⟩))).cell? ⟨w.heap.size + 1, 0, none⟩ = some (.string ⟨#[]⟩) := by unfold World.cell?; rw [e2]; rfl
  have z1 : ((w.alloc (lbX (x1, x2))).alloc (lbX (⟨#[]⟩, ⟨#[]⟩))).cell? ⟨w.heap.size + 1, 1, none⟩ = some (.string ⟨#[]⟩) := by unfold World.cell?; rw [e2]; rfl
  have zf : ∀ o, ((w.alloc (lbX (x1, x2))).alloc (lbX (⟨#[]⟩, ⟨#[]⟩))).frozen? ⟨w.heap.size + 1, o, none⟩ = false := fun o => by unfold World.frozen?; rw [e2]; simp
  have HB : Hid (Below w.heap.size w ((w.alloc (lbX (x1, x2))).alloc (lbX (⟨#[]⟩, ⟨#[]⟩)))) := ((Below.refl _ w).alloc (Nat.le_refl _) _).alloc (by simp) _
  clear e1 e2 b1
  go_enter Tryd.func29, Tryd.ntmps29
  go_wp2_with fail
  generalize (w.alloc (lbX (x1, x2))).alloc (lbX (⟨#[]⟩, ⟨#[]⟩)) = W at *
  have HS : Hid (∀ w', Below W.heap.size W w' → w'.cell? ⟨w.heap.size, 0, none⟩ = some (.string x1) ∧ w'.cell? ⟨w.heap.size, 1, none⟩ = some (.string x2)) := fun w' b => ⟨bcell2 b a0, bcell2 b a1⟩
  have HZ : Hid (∀ w', Below W.heap.size W w' → w'.cell? ⟨w.heap.size + 1, 0, none⟩ = some (.string ⟨#[]⟩) ∧ w'.cell? ⟨w.heap.size + 1, 1, none⟩ = some (.string ⟨#[]⟩) ∧ ∀ o, w'.frozen? ⟨w.heap.size + 1, o, none⟩ = false) := fun w' b => ⟨bcell2 b z0, bcell2 b z1, fun o => (b.frozen (p := ⟨w.heap.size + 1, o, none⟩) (show w.heap.size + 1 < W.heap.size from World.block_lt_of_cell? W _ z0)).trans (zf o)⟩
  have HST : Hid (∀ w', Below W.heap.size W w' → ((w'.setCell ⟨w.heap.size + 1, 0, none⟩ (.string x1)).setCell ⟨w.heap.size + 1, 1, none⟩ (.string x2)).cell? ⟨w.heap.size, 0, none⟩ = some (.string x1) ∧ ((w'.setCell ⟨w.heap.size + 1, 0, none⟩ (.string x1)).setCell ⟨w.heap.size + 1, 1, none⟩ (.string x2)).cell? ⟨w.heap.size, 1, none⟩ = some (.string x2)) := fun w' b => by
    obtain ⟨s0, s1⟩ := HS.out w' b
    constructor
    · rw [World.cell?_setCell_other _ _ _ _ (by simp), World.cell?_setCell_other _ _ _ _ (by simp)]; exact s0
    · rw [World.cell?_setCell_other _ _ _ _ (by simp), World.cell?_setCell_other _ _ _ _ (by simp)]; exact s1
  clear z0 z1 zf
  go_region_held3 (fun w' => w'.cell? ⟨w.heap.size, 0, none⟩ = some (.string x1) ∧ w'.cell? ⟨w.heap.size, 1, none⟩ = some (.string x2)) (first | exact ⟨a0, a1⟩ | exact HS.out _ (by assumption) | exact HST.out _ (by assumption)) ((first | (go_at_call 35; go_fit (K1.out W.drew); rintro e w2 ⟨rfl, b2⟩; have b2' := undrew b2) | (go_at_call 35; go_fit (K2.out _); rintro e w3 ⟨rfl, b3⟩; have b3' : Below W.heap.size W _ := b2'.trans (b3.mono b2'.size); have zz := HZ.out _ b3'; obtain ⟨z0, z1, zf⟩ := zz)))
  have r0 : ((w3.setCell ⟨w.heap.size + 1, 0, none⟩ (.string x1)).setCell ⟨w.heap.size + 1, 1, none⟩ (.string x2)).cell? ⟨w.heap.size + 1, 0, none⟩ = some (.string x1) := by
    rw [World.cell?_setCell_other _ _ _ _ (by simp)]
    exact World.cell?_setCell_same' _ _ _ (by rw [z0]; rfl)
  have r1 : ((w3.setCell ⟨w.heap.size + 1, 0, none⟩ (.string x1)).setCell ⟨w.heap.size + 1, 1, none⟩ (.string x2)).cell? ⟨w.heap.size + 1, 1, none⟩ = some (.string x2) := World.cell?_setCell_same' _ _ _ (by rw [World.cell?_setCell_other _ _ _ _ (by simp), z1]; rfl)
  have HF : Hid (Below w.heap.size w ((w3.setCell ⟨w.heap.size + 1, 0, none⟩ (.string x1)).setCell ⟨w.heap.size + 1, 1, none⟩ (.string x2))) := by
    have bw := HB.out.trans (b3'.mono HB.out.size)
    have k : Kp (· = w.heap.size + 1) w3 ((w3.setCell ⟨w.heap.size + 1, 0, none⟩ (.string x1)).setCell ⟨w.heap.size + 1, 1, none⟩ (.string x2)) := ((Kp.refl (· = w.heap.size + 1) w3).setCell (p := ⟨w.heap.size + 1, 0, none⟩) rfl _).setCell (p := ⟨w.heap.size + 1, 1, none⟩) rfl _
    exact bw.trans (k.below bw.size (fun i hi e => by omega))
  rename_i hHeld
  clear hHeld z0 z1 zf b2 b2' b3 b3' HS HZ HST a0 a1
  generalize (w3.setCell ⟨w.heap.size + 1, 0, none⟩ (.string x1)).setCell ⟨w.heap.size + 1, 1, none⟩ (.string x2) = W4 at *
  go_wp2
  refine bodyPost_ret (v := lbV (x1, x2)) (by simp [results, Tryd.results29, go_sem, r0, r1]) rfl ⟨rfl, HF.out⟩
set_option maxHeartbeats 4000000 in
set_option maxRecDepth 100000 in
theorem valueOf2 (g c : Nat) (x y : Lb) (n : ByteArray) (w : World) (h : C4 w g x y) (hx : (x.1.toList == n.toList) = false) (hy : (y.1.toList == n.toList) = true) : Calls Tryd.prog 36 #[.slice (some ⟨g, 0, none⟩) 2 c, .string n] w fun e w' => e = .returned (.string y.2) ∧ Below w.heap.size w w' := by
  have HC : Hid (C4 w g x y) := h
  obtain ⟨x1, x2⟩ := x
  obtain ⟨y1, y2⟩ := y
  dsimp only at hx hy
  clear h
  go_enter Tryd.func36, Tryd.ntmps36
  go_wp2_with fail
  go_loopw [9] (fun t w' => (t = .int .i64 0 ∨ t = .int .i64 1) ∧ Hid (Below w.heap.size w w')) (fun t _ => 1 - (RowKit.intOf t).toNat)
  case atStart => exact ⟨.inl rfl, Below.refl _ _⟩
  case round =>
    obtain ⟨hj, HW⟩ := hrel
    obtain ⟨c0, c1, c2, c3, _⟩ := HC.out.below HW.out
    dsimp only at c0 c1 c2 c3
    rcases hj with rfl | rfl
    · have HN : Hid (Below w.heap.size w (wr.alloc (lbX (x1, x2)))) := HW.out.alloc HW.out.size _
      go_wp2
      exact ⟨⟨.inr rfl, HN⟩, by decide⟩
    · have HN : Hid (Below w.heap.size w (wr.alloc (lbX (y1, y2)))) := HW.out.alloc HW.out.size _
      go_wp2
      go_ret
      exact ⟨rfl, HN.out⟩
set_option maxHeartbeats 1000000 in
theorem get2 (g c : Nat) (x y : Lb) (n : ByteArray) (w : World) (h : C4 w g x y) (hx : (x.1.toList == n.toList) = false) (hy : (y.1.toList == n.toList) = true) (hs : y.2.size ≤ 140737488355328) : Calls Tryd.prog 12 #[.slice (some ⟨g, 0, none⟩) 2 c, .string n] w fun e w' => e = .returned (.string y.2) ∧ Below w.heap.size w w' := by
  have k1 := valueOf2 g c x y n w h hx hy
  have HK : Hid (∀ W, Calls Tryd.prog 35 #[.string y.2] W fun e w' => e = .returned (.string y.2) ∧ Below W.heap.size W w') := fun W => clone_any y.2 W hs
  clear h hx hy hs
  go_enter Tryd.func12, Tryd.ntmps12
  go_wp2_with fail
  go_fit k1
  rintro e w1 ⟨rfl, b1⟩
  have k2 := HK.out w1
  have H1 : Hid (Below w.heap.size w w1) := b1
  clear k1 b1
  go_wp2_with fail
  go_fit k2
  rintro e w2 ⟨rfl, b2⟩
  have H2 : Hid (Below w.heap.size w w2) := H1.out.trans (b2.mono H1.out.size)
  clear k2 b2
  go_wp2
  go_ret
  exact ⟨rfl, H2.out⟩
end Go.Proofs.YtjmninjaoemhjaaDoor
/- Labels: names of any kind; the value of a name in any list. -/
namespace Go.Proofs.YtjmninjaoemhjaaDoor
open Go.RowKit Go.Lib

/-- A sign that a name may begin with; a digit; a further sign. -/
def fiB (c : Int) : Bool := decide (97 ≤ c) && decide (c ≤ 122) || decide (65 ≤ c) && decide (c ≤ 90) || decide (c = 95)
def dgB (c : Int) : Bool := decide (48 ≤ c) && decide (c ≤ 57)
def laB (c : Int) : Bool := fiB c || dgB c
set_option maxHeartbeats 1000000 in
theorem isFirst_any (c : Int) (w : World) : Calls Tryd.prog 54 #[.int .u8 c] w fun e w' => e = .returned (.bool (fiB c)) ∧ w' = w := by
  obtain ⟨b, hb⟩ : ∃ b, fiB c = b := ⟨_, rfl⟩
  have HB : Hid (fiB c = b) := hb
  rw [hb]
  clear hb
  have h6 : (c == 95) = decide (c = 95) := rfl
  by_cases h1 : 97 ≤ c <;> by_cases h2 : c ≤ 122 <;> by_cases h3 : 65 ≤ c <;> by_cases h4 : c ≤ 90 <;> by_cases h5 : c = 95 <;> first
    | omega
    | (simp only [fiB, h1, h2, h3, h4, h5, decide_true, decide_false, Bool.and_true, Bool.and_false, Bool.or_true, Bool.or_false] at HB h6
       go_enter Tryd.func54, Tryd.ntmps54
       go_wp2
       go_ret
       refine ⟨?_, rfl⟩
       rw [← HB.out]
       first | rfl | simp [h6] | simp [h5])
set_option maxHeartbeats 1000000 in
theorem isDigit_any (c : Int) (w : World) : Calls Tryd.prog 72 #[.int .u8 c] w fun e w' => e = .returned (.bool (dgB c)) ∧ w' = w := by
  obtain ⟨b, hb⟩ : ∃ b, dgB c = b := ⟨_, rfl⟩
  have HB : Hid (dgB c = b) := hb
  rw [hb]
  clear hb
  by_cases h1 : 48 ≤ c <;> by_cases h2 : c ≤ 57 <;> first
    | omega
    | (simp only [dgB, h1, h2, decide_true, decide_false, Bool.and_true, Bool.and_false] at HB
       go_enter Tryd.func72, Tryd.ntmps72
       go_wp2
       go_ret
       refine ⟨?_, rfl⟩
       rw [← HB.out]
       first | rfl | simp)
set_option maxHeartbeats 1000000 in
theorem isLater_any (c : Int) (w : World) : Calls Tryd.prog 53 #[.int .u8 c] w fun e w' => e = .returned (.bool (laB c)) ∧ w' = w := by
  have k1 := isFirst_any c w
  have k2 := isDigit_any c w
  obtain ⟨b, hb⟩ : ∃ b, laB c = b := ⟨_, rfl⟩
  have HB : Hid (laB c = b) := hb
  rw [hb]
  clear hb
  unfold laB at HB
  generalize fiB c = f at *
  generalize dgB c = d at *
  cases f
  · go_enter Tryd.func53, Tryd.ntmps53
    go_wp2_with fail
    go_fit k1
    rintro e w1 ⟨rfl, rfl⟩
    go_wp2_with fail
    go_fit k2
    rintro e w1 ⟨rfl, rfl⟩
    go_wp2
    go_ret
    exact ⟨by rw [← HB.out]; rfl, rfl⟩
  · go_enter Tryd.func53, Tryd.ntmps53
    go_wp2_with fail
    go_fit k1
    rintro e w1 ⟨rfl, rfl⟩
    go_wp2
    go_ret
    exact ⟨by rw [← HB.out]; rfl, rfl⟩
/-- The sign at a place. -/
def bt (s : ByteArray) (i : Nat) : Int := ((s.get! i).toNat : Int)
theorem get!_in (s : ByteArray) (k : Nat) (h : k < s.size) : s.get! k = s[k]'h := by
  cases s with
  | mk d => exact getElem!_pos d k h
/-- All signs from a place on are further ones. -/
def lbF (s : ByteArray) : Nat → Nat → Bool
  | 0, _ => true
  | n + 1, i => laB (bt s i) && lbF s n (i + 1)
/-- A label's name. -/
def lbN (s : ByteArray) : Bool := lbF s s.size 0 && (decide (0 < s.size) && fiB (bt s 0))
theorem nil_iff (s : ByteArray) : s.toList = [] ↔ s.size = 0 := by
  rw [Lib.toList_data]
  obtain ⟨d⟩ := s
  show d.toList = [] ↔ d.size = 0
  simp
set_option maxHeartbeats 4000000 in
set_option maxRecDepth 100000 in
theorem isLabel_any (s : ByteArray) (w : World) (hs : s.size ≤ 140737488355328) : Calls Tryd.prog 27 #[.string s] w fun e w' => e = .returned (.bool (lbN s)) ∧ w' = w := by
  obtain ⟨b, hb⟩ : ∃ b, lbN s = b := ⟨_, rfl⟩
  have HB : Hid (lbN s = b) := hb
  rw [hb]
  clear hb
  have k1 : Hid (∀ c W, Calls Tryd.prog 53 #[.int .u8 c] W fun e w' => e = .returned (.bool (laB c)) ∧ w' = W) := fun c W => isLater_any c W
  have k2 := isFirst_any (bt s 0) w
  have HNE : Hid (s.toList = [] ↔ s.size = 0) := nil_iff s
  have hsi : (s.size : Int) ≤ 140737488355328 := by omega
  go_enter Tryd.func27, Tryd.ntmps27
  go_wp2_with fail
  go_loopw [6] (fun t w' => ∃ i f : Nat, t = .int .i64 (i : Nat) ∧ i + f = s.size ∧ Hid (lbF s s.size 0 = lbF s f i) ∧ w' = w) (fun t _ => s.size - (RowKit.intOf t).toNat)
  case atStart => exact ⟨0, s.size, rfl, by omega, rfl, rfl⟩
  case round =>
    obtain ⟨i, f, rfl, hif, hv, rfl⟩ := hrel
    by_cases hlt : i < s.size
    · have hii : (i : Int) < (s.size : Int) := by omega
      obtain ⟨g, rfl⟩ : ∃ g, f = g + 1 := ⟨f - 1, by omega⟩
      have K := k1.out (bt s i) wr
      have HV : Hid (lbF s s.size 0 = (laB (bt s i) && lbF s g (i + 1))) := hv
      clear hv
      generalize hla : laB (bt s i) = q at *
      clear hla
      have e0 : bt s i = ((s[i]'hlt).toNat : Int) := by unfold bt; rw [get!_in s i hlt]
      rw [e0] at K
      clear e0
      go_wp2_with fail
      go_fit K
      rintro e w1 ⟨rfl, rfl⟩
      cases q
      · have HE : Hid (b = false) := by
          have := HB.out
          unfold lbN at this
          rw [HV.out] at this
          exact (this.symm).trans (by simp)
        go_wp2
        go_ret
        exact ⟨by rw [HE.out]; rfl, rfl⟩
      · have HE : Hid (lbF s s.size 0 = lbF s g (i + 1)) := HV.out.trans (by simp)
        go_wp2
        exact ⟨⟨i + 1, g, by go_num, by omega, HE, trivial⟩, by simp [RowKit.intOf]; omega⟩
    · have hii : ¬ (i : Int) < (s.size : Int) := by omega
      obtain rfl : f = 0 := by omega
      have HE : Hid (b = (decide (0 < s.size) && fiB (bt s 0))) := by
        have := HB.out
        unfold lbN at this
        rw [hv.out] at this
        exact this.symm
      clear hv
      by_cases h0 : s.size = 0
      · have hne : s.toList = [] := HNE.out.2 h0
        have HE2 : Hid (b = false) := HE.out.trans (by simp [h0])
        clear h0
        go_wp2
        go_ret
        exact ⟨by rw [HE2.out]; rfl, rfl⟩
      · have hne : ¬ s.toList = [] := fun h => h0 (HNE.out.1 h)
        have hem : s.toList.isEmpty = false := by cases h : s.toList <;> simp_all
        have h0p : 0 < s.size := by omega
        have h0i : (0 : Int) < (s.size : Int) := by omega
        have HE2 : Hid (b = fiB (bt s 0)) := HE.out.trans (by simp [h0p])
        clear h0
        have e0 : bt s 0 = ((s[0]'h0p).toNat : Int) := by unfold bt; rw [get!_in s 0 h0p]
        rw [e0] at k2 HE2
        clear e0
        go_wp2_with fail
        go_fit k2
        rintro e w1 ⟨rfl, rfl⟩
        go_wp2
        go_ret
        exact ⟨by rw [HE2.out]; rfl, rfl⟩
end Go.Proofs.YtjmninjaoemhjaaDoor
