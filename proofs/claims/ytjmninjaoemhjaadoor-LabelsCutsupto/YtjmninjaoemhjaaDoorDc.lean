/- Labels: two labels sorted. -/
import Derived.Test.YtjmninjaoemhjaaDoorDb
import Derived.Test.YtjmninjaoemhjaaDoorCf
namespace Go.Proofs.YtjmninjaoemhjaaDoor
open Go.RowKit Go.Lib

theorem Kp.setCell {M : Nat → Prop} {a w : World} (h : Kp M a w) {p : Addr} (hp : M p.block) (u : Value) : Kp M a (w.setCell p u) :=
  h.trans ⟨rfl, rfl, rfl, by simp [World.setCell], fun k hk hm => Below.heap_setCell _ _ _ _ (fun e => hm (e ▸ hp))⟩
theorem Kp.trans' {M N : Nat → Prop} {a b c : World} (h : Kp M a b) (k : Kp N b c) (hn : ∀ i, i < a.heap.size → N i → M i) : Kp M a c := ⟨k.os.trans h.os, k.tape.trans h.tape, k.output.trans h.output, Nat.le_trans h.size k.size, fun i hi hm => (k.block i (Nat.lt_of_lt_of_le hi h.size) (fun x => hm (hn i hi x))).trans (h.block i hi hm)⟩
set_option maxHeartbeats 1000000 in
theorem byName_any (x y : Lb) (w : World) : Calls Tryd.prog 31 #[lbV x, lbV y] w fun e w' => e = .returned (.int .i64 (od x.1 y.1)) ∧ Below w.heap.size w w' := by
  obtain ⟨x1, x2⟩ := x
  obtain ⟨y1, y2⟩ := y
  have k := compare_any x1 y1 ((w.alloc (lbX (x1, x2))).alloc (lbX (y1, y2)))
  have HB : Hid (Below w.heap.size w ((w.alloc (lbX (x1, x2))).alloc (lbX (y1, y2)))) := ((Below.refl _ w).alloc (Nat.le_refl _) _).alloc (by simp) _
  dsimp only
  generalize od x1 y1 = C at *
  go_enter Tryd.func31, Tryd.ntmps31
  go_wp2_with fail
  go_fit k
  rintro e w1 ⟨rfl, rfl⟩
  clear k
  go_wp2
  go_ret
  exact ⟨rfl, HB.out⟩
/-- Four cells of a row of two labels. -/
def C4 (w : World) (g : Nat) (x y : Lb) : Prop := w.cell? ⟨g, 0, none⟩ = some (.string x.1) ∧ w.cell? ⟨g, 1, none⟩ = some (.string x.2) ∧ w.cell? ⟨g, 2, none⟩ = some (.string y.1) ∧ w.cell? ⟨g, 3, none⟩ = some (.string y.2) ∧ ∀ o, w.frozen? ⟨g, o, none⟩ = false
theorem C4.below {w w' : World} {g : Nat} {x y : Lb} (h : C4 w g x y) (b : Below w.heap.size w w') : C4 w' g x y := by
  obtain ⟨a, b1, c, d, e⟩ := h
  have hg := World.block_lt_of_cell? w _ a
  exact ⟨bcell2 b a, bcell2 b b1, bcell2 b c, bcell2 b d, fun o => (b.frozen (p := ⟨g, o, none⟩) hg).trans (e o)⟩
theorem undrew {w w' : World} (h : Below w.drew.heap.size w.drew w') : Below w.heap.size w w' := ⟨h.os, h.tape, h.output, h.size, h.block⟩
theorem C4.drewN {w : World} {g : Nat} {x y : Lb} (h : C4 w g x y) (n : Nat) : C4 (w.drewN n) g x y := h
theorem swap4 {w : World} {g : Nat} {x y : Lb} (h : C4 w g x y) : C4 ((((w.setCell ⟨g, 2, none⟩ (.string x.1)).setCell ⟨g, 3, none⟩ (.string x.2)).setCell ⟨g, 0, none⟩ (.string y.1)).setCell ⟨g, 1, none⟩ (.string y.2)).drew g y x ∧ Kp (· = g) w ((((w.setCell ⟨g, 2, none⟩ (.string x.1)).setCell ⟨g, 3, none⟩ (.string x.2)).setCell ⟨g, 0, none⟩ (.string y.1)).setCell ⟨g, 1, none⟩ (.string y.2)).drew := by
  obtain ⟨a1, a2, a3, a4, f⟩ := h
  have k1 : C4 ((((w.setCell ⟨g, 2, none⟩ (.string x.1)).setCell ⟨g, 3, none⟩ (.string x.2)).setCell ⟨g, 0, none⟩ (.string y.1)).setCell ⟨g, 1, none⟩ (.string y.2)) g y x := by
    refine ⟨?_, ?_, ?_, ?_, fun o => ?_⟩
    · simp [World.cell?_setCell_other, World.cell?_setCell_same', a1]
    · simp [World.cell?_setCell_other, World.cell?_setCell_same', a2]
    · simp [World.cell?_setCell_other, World.cell?_setCell_same', a3]
    · simp [World.cell?_setCell_other, World.cell?_setCell_same', a4]
    · simp [World.frozen?_setCell, f]
  refine ⟨?_, ?_⟩
  · generalize ((((w.setCell ⟨g, 2, none⟩ (.string x.1)).setCell ⟨g, 3, none⟩ (.string x.2)).setCell ⟨g, 0, none⟩ (.string y.1)).setCell ⟨g, 1, none⟩ (.string y.2)) = W at k1 ⊢
    exact ⟨k1.1, k1.2.1, k1.2.2.1, k1.2.2.2.1, k1.2.2.2.2⟩
  · have k : Kp (· = g) w ((((w.setCell ⟨g, 2, none⟩ (.string x.1)).setCell ⟨g, 3, none⟩ (.string x.2)).setCell ⟨g, 0, none⟩ (.string y.1)).setCell ⟨g, 1, none⟩ (.string y.2)) := ((((Kp.refl (· = g) w).setCell (p := ⟨g, 2, none⟩) rfl _).setCell (p := ⟨g, 3, none⟩) rfl _).setCell (p := ⟨g, 0, none⟩) rfl _).setCell (p := ⟨g, 1, none⟩) rfl _
    generalize ((((w.setCell ⟨g, 2, none⟩ (.string x.1)).setCell ⟨g, 3, none⟩ (.string x.2)).setCell ⟨g, 0, none⟩ (.string y.1)).setCell ⟨g, 1, none⟩ (.string y.2)) = W at k ⊢
    exact ⟨k.os, k.tape, k.output, k.size, k.block⟩
set_option maxHeartbeats 4000000 in
set_option maxRecDepth 100000 in
theorem insertion2 (g c : Nat) (x y : Lb) (w : World) (h : C4 w g x y) (hxy : od y.1 x.1 = -1) : Calls Tryd.prog 74 #[.slice (some ⟨g, 0, none⟩) 2 c, .int .i64 0, .int .i64 2, .func (.func 31) #[] #[]] w fun e w' => e = .returned (.tuple #[]) ∧ C4 w' g y x ∧ Kp (· = g) w w' := by
  have HC : Hid (C4 w g x y) := h
  have kb := byName_any y x w.drew
  rw [hxy] at kb
  obtain ⟨x1, x2⟩ := x
  obtain ⟨y1, y2⟩ := y
  have c0 : w.cell? ⟨g, 0, none⟩ = some (.string x1) := h.1
  have c1 : w.cell? ⟨g, 1, none⟩ = some (.string x2) := h.2.1
  have c2 : w.cell? ⟨g, 2, none⟩ = some (.string y1) := h.2.2.1
  have c3 : w.cell? ⟨g, 3, none⟩ = some (.string y2) := h.2.2.2.1
  have h00 : IntKind.i64.wrap 0 = 0 := by decide
  clear h hxy
  go_enter Tryd.func74, Tryd.ntmps74
  go_wp2_with fail
  go_loopw [8] (fun t w' => (t = .int .i64 1 ∧ w' = w) ∨ (t = .int .i64 2 ∧ Hid (C4 w' g (y1, y2) (x1, x2) ∧ Kp (· = g) w w'))) (fun t _ => 2 - (RowKit.intOf t).toNat)
  case atStart => exact .inl ⟨rfl, rfl⟩
  case round =>
    rcases hrel with ⟨rfl, rfl⟩ | ⟨rfl, HF⟩
    · go_wp2_with fail
      go_loopw [9] (fun t w' => (t = .int .i64 1 ∧ w' = wr) ∨ (t = .int .i64 0 ∧ Hid (C4 w' g (y1, y2) (x1, x2) ∧ Kp (· = g) wr w'))) (fun t _ => (RowKit.intOf t).toNat)
      case atStart => exact .inl ⟨rfl, rfl⟩
      case round =>
        rcases hrel with ⟨rfl, rfl⟩ | ⟨rfl, HF⟩
        · have HK : Hid (∀ w', Below wr.drew.heap.size wr.drew w' → C4 w' g (x1, x2) (y1, y2)) := fun w' b => HC.out.below (undrew b)
          have HK4 : Hid (∀ w', Below wr.drew.heap.size wr.drew w' → w'.cell? ⟨g, 0, none⟩ = some (.string x1) ∧ w'.cell? ⟨g, 1, none⟩ = some (.string x2) ∧ w'.cell? ⟨g, 2, none⟩ = some (.string y1) ∧ w'.cell? ⟨g, 3, none⟩ = some (.string y2)) := fun w' b => by
            obtain ⟨a1, a2, a3, a4, _⟩ := HK.out w' b
            exact ⟨a1, a2, a3, a4⟩
          go_wp2_with fail
          go_region_held3 (fun w' => w'.cell? ⟨g, 0, none⟩ = some (.string x1) ∧ w'.cell? ⟨g, 1, none⟩ = some (.string x2) ∧ w'.cell? ⟨g, 2, none⟩ = some (.string y1) ∧ w'.cell? ⟨g, 3, none⟩ = some (.string y2)) (first | exact ⟨c0, c1, c2, c3⟩ | exact HK4.out _ (by assumption)) ((go_at_call 31; go_fit kb; rintro e w3 ⟨rfl, b3⟩))
          have HK3 : Hid (C4 w3 g (x1, x2) (y1, y2)) := HK.out w3 b3
          have HB3 : Hid (Below wr.heap.size wr w3) := undrew b3
          clear c0 c1 c2 c3 kb b3 HK HK4
          obtain ⟨c0, c1, c2, c3, ff⟩ := HK3.out
          dsimp only at c0 c1 c2 c3
          go_wp2_with fail
          go_region
          have HSW : Hid (C4 ((((w3.setCell ⟨g, 2, none⟩ (.string x1)).setCell ⟨g, 3, none⟩ (.string x2)).setCell ⟨g, 0, none⟩ (.string y1)).setCell ⟨g, 1, none⟩ (.string y2)).drew g (y1, y2) (x1, x2) ∧ Kp (· = g) wr ((((w3.setCell ⟨g, 2, none⟩ (.string x1)).setCell ⟨g, 3, none⟩ (.string x2)).setCell ⟨g, 0, none⟩ (.string y1)).setCell ⟨g, 1, none⟩ (.string y2)).drew) := by
            have h := swap4 HK3.out
            exact ⟨h.1, (Kp.of HB3.out).trans h.2⟩
          clear c0 c1 c2 c3 ff HK3
          go_wp2
          exact ⟨.inr ⟨rfl, HSW⟩, by decide⟩
        · have HFN : Hid (∀ n, C4 (wr.drewN n) g (y1, y2) (x1, x2) ∧ Kp (· = g) _ (wr.drewN n)) := fun n => ⟨HF.out.1.drewN n, ⟨HF.out.2.os, HF.out.2.tape, HF.out.2.output, HF.out.2.size, HF.out.2.block⟩⟩
          go_wp2_with fail
          go_quiet (fail)
          go_wp2
          exact ⟨.inr ⟨rfl, HFN.out _⟩, by decide⟩
    · go_wp2
      go_end0
      exact ⟨rfl, HF.out⟩
set_option maxHeartbeats 4000000 in
set_option maxRecDepth 100000 in
theorem pdq2 (g c : Nat) (l : Int) (x y : Lb) (w : World) (h : C4 w g x y) (hxy : od y.1 x.1 = -1) : Calls Tryd.prog 56 #[.slice (some ⟨g, 0, none⟩) 2 c, .int .i64 0, .int .i64 2, .int .i64 l, .func (.func 31) #[] #[]] w fun e w' => e = .returned (.tuple #[]) ∧ C4 w' g y x ∧ Kp (· = g) w w' := by
  have k := insertion2 g c x y w h hxy
  clear h hxy
  go_enter Tryd.func56, Tryd.ntmps56
  go_wp2_with fail
  go_loopw [1, 2] (fun a b w' => a = .int .i64 0 ∧ b = .int .i64 2 ∧ w' = w) (fun _ _ _ => 0)
  case atStart => exact ⟨rfl, rfl, rfl⟩
  case round =>
    obtain ⟨rfl, rfl, rfl⟩ := hrel
    go_wp2_with fail
    go_fit k
    rintro e w1 ⟨rfl, h1, h2⟩
    have HF : Hid (C4 w1 g y x ∧ Kp (· = g) wr w1) := ⟨h1, h2⟩
    clear k h1 h2
    go_wp2
    refine bodyPost_ret (v := .tuple #[]) (by simp [results, Tryd.results56]) rfl ⟨rfl, HF.out⟩
set_option maxHeartbeats 4000000 in
theorem sort2 (g c : Nat) (x y : Lb) (w : World) (h : C4 w g x y) (hxy : od y.1 x.1 = -1) : Calls Tryd.prog 30 #[.slice (some ⟨g, 0, none⟩) 2 c, .func (.func 31) #[] #[]] w fun e w' => e = .returned (.tuple #[]) ∧ C4 w' g y x ∧ Kp (· = g) w w' := by
  have k1 := Tryd.bits_Len 2 w (by decide) (by decide)
  have k2 := pdq2 g c (Lib.bitLen (2 : Int).toNat) x y w h hxy
  clear h hxy
  go_enter Tryd.func30, Tryd.ntmps30
  go_wp2_with fail
  go_fit k1
  rintro e w1 ⟨rfl, rfl⟩
  clear k1
  go_wp2_with fail
  go_fit k2
  rintro e w1 ⟨rfl, h1, h2⟩
  have HF : Hid (C4 w1 g y x ∧ Kp (· = g) _ w1) := ⟨h1, h2⟩
  clear k2 h1 h2
  go_wp2
  go_end0
  exact ⟨rfl, HF.out⟩
end Go.Proofs.YtjmninjaoemhjaaDoor
