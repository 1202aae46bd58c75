/- A pile: Pop, Peek. -/
import Derived.Test.YtcgpjmpppajfdaaHh
import Derived.Laws.ResultCell
namespace Go.Proofs.Ytcgpjmpppajfdaa
open Go.RowKit

theorem infIs : (Try.prog.info? 24).map (·.size) = some 2 := by kernel_rfl
theorem results_it {fn : Func} {p u : Tmp} (h : fn.results = #[.cell p 24, .tmp u]) (tmps : Array Value) (w : World) (B : Nat) (x y : Int) (hp : tmps.getD p undef = .pointer (some ⟨B, 0, none⟩)) (hg : w.heap[B]? = some (.cells #[.int .i64 x, .int .i64 y] 24)) :
    (results fn tmps).run Try.prog w = .ok (.tuple #[.agg #[.int .i64 x, .int .i64 y], tmps.getD u undef]) w := by
  have hp' : tmps[p]?.getD undef = .pointer (some ⟨B, 0, none⟩) := by simpa using hp
  rw [results_cell_tmp h]
  simp [hp', asAddr, run_loadVar_row w B 24 24 #[.int .i64 x, .int .i64 y] (0, 0) _ hg Try.underlying24 rfl infIs]

abbrev iX (x : It) : Obj := .cells #[.int .i64 x.1, .int .i64 x.2] 24

theorem field_rk (x y z : Int) (w : World) : (Instr.field 78 (.agg #[.int .i64 x, .int .i64 y, .int .i64 z]) 0).run Try.prog w = .ok (.agg #[.int .i64 x, .int .i64 y]) w := by kernel_rfl
theorem ppop_none (b bx m : Nat) (lv v : Value) (f : Nat → Rk) (w : World) (h : Pl w b bx lv v 0 f m) :
    Calls Try.prog 14 #[.pointer (some ⟨b, 0, none⟩)] w fun r w' => r = .returned (.tuple #[iv (0, 0), .bool false]) ∧ Below w.heap.size w w' := by
  have h1 := h.below (((Below.refl _ w).alloc (Nat.le_refl _) (iX (0, 0))))
  have kL := len_any b bx 0 m lv v f _ h1
  have HG : Hid (((w.alloc (iX (0, 0))).alloc (iX (0, 0))).heap[w.heap.size]? = some (.cells #[.int .i64 0, .int .i64 0] 24)) := (Below.heap_alloc _ _ _ (by simp)).trans (heap_alloc_new w _)
  have HB : Hid (Below w.heap.size w ((w.alloc (iX (0, 0))).alloc (iX (0, 0)))) := ((Below.refl _ w).alloc (Nat.le_refl _) _).alloc (by simp) _
  clear h h1
  go_enter Try.func14, Try.ntmps14
  go_wp2_with fail
  refine kL.mono ?_
  rintro r w2 ⟨rfl, rfl⟩
  go_wp2
  refine bodyPost_ret (results_it rfl _ _ w.heap.size 0 0 rfl HG.out) rfl ?_
  exact ⟨rfl, HB.out⟩

set_option maxHeartbeats 1000000 in
set_option maxRecDepth 100000 in
theorem ppop_some (A : Rk → Rk → Bool) (b bx g c p m : Nat) (lv : Value) (f : Nat → Rk) (w : World) (hA : AhC lv A) (h : Pl w b bx lv (.slice (some ⟨g, 0, none⟩) (p + 1) c) (p + 1) f m) (hn : p + 1 ≤ 1152921504606846976) :
    Calls Try.prog 14 #[.pointer (some ⟨b, 0, none⟩)] w fun r w' => r = .returned (.tuple #[iv (f 0).1, .bool true]) ∧ Pl w' b bx lv (.slice (some ⟨g, 0, none⟩) p c) p (sinkF A p (up f 0 (f p)) 0) m ∧ Kp (fun k => k = b ∨ k = g) w w' := by
  have hb1 : Below w.heap.size w (w.alloc (iX (0, 0))) := ((Below.refl _ w).alloc (Nat.le_refl _) (iX (0, 0)))
  have h1 := h.below hb1
  have kL := len_any b bx (p + 1) m lv _ f _ h1
  have kP := pop_any A b bx g c p lv f _ hA h1.hp hn
  obtain ⟨B, hB⟩ : ∃ B, B = w.heap.size := ⟨_, rfl⟩
  have hbl : b < w.heap.size := World.block_lt_of_cell? w _ h.cm
  have hgl : g < w.heap.size := Rr.lt (show Rr w g c (p + 1) f from h.hp.row)
  have hxl : bx < w.heap.size := World.block_lt_of_cell? w _ h.hp.bxc
  obtain ⟨⟨⟨xk, xi⟩, xr⟩, hx⟩ : ∃ x, f 0 = x := ⟨_, rfl⟩
  have HS : Hid (∀ w3, Kp (fun k => k = b ∨ k = g) (w.alloc (iX (0, 0))) w3 → Fld b (w.alloc (iX (0, 0))) w3 → Hp w3 b bx lv (.slice (some ⟨g, 0, none⟩) p c) p (sinkF A p (up f 0 (f p)) 0) →
      (w3.heap[B]? = some (.cells #[.int .i64 0, .int .i64 0] 24)) ∧ Pl ((w3.setCell ⟨B, 0, none⟩ (.int .i64 xk)).setCell ⟨B, 1, none⟩ (.int .i64 xi)) b bx lv (.slice (some ⟨g, 0, none⟩) p c) p (sinkF A p (up f 0 (f p)) 0) m ∧ Kp (fun k => k = b ∨ k = g) w ((w3.setCell ⟨B, 0, none⟩ (.int .i64 xk)).setCell ⟨B, 1, none⟩ (.int .i64 xi))) := fun w3 k3 fl o3 => by
    have e0 : w3.heap[B]? = some (.cells #[.int .i64 0, .int .i64 0] 24) := by
      rw [hB, k3.block w.heap.size (by simp) (fun (e : w.heap.size = b ∨ w.heap.size = g) => by omega)]
      exact heap_alloc_new w _
    obtain ⟨q3, z3⟩ := fl 2 _ (by decide) h1.cm h1.fm
    have k6 : Kp (· = B) w3 ((w3.setCell ⟨B, 0, none⟩ (.int .i64 xk)).setCell ⟨B, 1, none⟩ (.int .i64 xi)) := ((Kp.refl (· = B) w3).setCell (p := ⟨B, 0, none⟩) rfl _).setCell (p := ⟨B, 1, none⟩) rfl _
    exact ⟨e0, (Pl.mk o3 q3 z3).kp k6 (fun (e : b = B) => by omega) (fun (e : bx = B) => by omega) (fun j e (x : j = B) => by have e' : g = j := Option.some.inj e; omega), ((Kp.of hb1).trans k3).trans' k6 (fun i hi (e : i = B) => by omega)⟩
  rw [hx] at kP ⊢
  dsimp only at kP ⊢
  generalize sinkF A p (up f 0 (f p)) 0 = FF at *
  have HBB : Hid (B = w.heap.size) := hB
  clear h h1 hb1 hx hB
  go_enter Try.func14, Try.ntmps14
  go_wp2_with fail
  refine kL.mono ?_
  rintro r w2 ⟨rfl, rfl⟩
  go_wp2_with fail
  refine kP.mono ?_
  rintro r w3 ⟨er, o3, k3, fl⟩
  have er : r = .returned (.agg #[.int .i64 xk, .int .i64 xi, .int .i64 xr]) := er
  subst er
  have hfd := field_rk
  obtain ⟨e0, o4, k4⟩ := HS.out w3 k3 fl o3
  have E0 : Hid _ := e0
  have c0 : w3.cell? ⟨B, 0, none⟩ = some (.int .i64 0) := by unfold World.cell?; rw [e0]; rfl
  have c1 : w3.cell? ⟨B, 1, none⟩ = some (.int .i64 0) := by unfold World.cell?; rw [e0]; rfl
  have z0 : w3.frozen? ⟨B, 0, none⟩ = false := by unfold World.frozen?; rw [e0]; rfl
  have z1 : w3.frozen? ⟨B, 1, none⟩ = false := by unfold World.frozen?; rw [e0]; rfl
  have O4 : Hid _ := o4
  have K4 : Hid _ := k4
  clear o3 k3 fl e0 o4 k4 HS kP kL
  rw [← HBB.out]
  have HG6 : Hid (((w3.setCell ⟨B, 0, none⟩ (.int .i64 xk)).setCell ⟨B, 1, none⟩ (.int .i64 xi)).heap[B]? = some (.cells #[.int .i64 xk, .int .i64 xi] 24)) := heap_setCell_same _ B 1 _ 24 _ (heap_setCell_same _ B 0 _ 24 _ E0)
  go_wp2
  refine bodyPost_ret (results_it rfl _ _ B xk xi rfl HG6.out) rfl ?_
  exact ⟨rfl, O4.out, K4.out⟩

theorem peek_none (b bx m : Nat) (lv v : Value) (f : Nat → Rk) (w : World) (h : Pl w b bx lv v 0 f m) :
    Calls Try.prog 17 #[.pointer (some ⟨b, 0, none⟩)] w fun r w' => r = .returned (.tuple #[iv (0, 0), .bool false]) ∧ Below w.heap.size w w' := by
  have h1 := h.below (((Below.refl _ w).alloc (Nat.le_refl _) (iX (0, 0))))
  have kL := len_any b bx 0 m lv v f _ h1
  have HG : Hid (((w.alloc (iX (0, 0))).alloc (iX (0, 0))).heap[w.heap.size]? = some (.cells #[.int .i64 0, .int .i64 0] 24)) := (Below.heap_alloc _ _ _ (by simp)).trans (heap_alloc_new w _)
  have HB : Hid (Below w.heap.size w ((w.alloc (iX (0, 0))).alloc (iX (0, 0)))) := ((Below.refl _ w).alloc (Nat.le_refl _) _).alloc (by simp) _
  clear h h1
  go_enter Try.func17, Try.ntmps17
  go_wp2_with fail
  refine kL.mono ?_
  rintro r w2 ⟨rfl, rfl⟩
  go_wp2
  refine bodyPost_ret (results_it rfl _ _ w.heap.size 0 0 rfl HG.out) rfl ?_
  exact ⟨rfl, HB.out⟩

set_option maxHeartbeats 1000000 in
set_option maxRecDepth 100000 in
theorem peek_some (b bx g c p m : Nat) (lv : Value) (f : Nat → Rk) (w : World) (h : Pl w b bx lv (.slice (some ⟨g, 0, none⟩) (p + 1) c) (p + 1) f m) (hn : p + 1 ≤ 1152921504606846976) :
    Calls Try.prog 17 #[.pointer (some ⟨b, 0, none⟩)] w fun r w' => r = .returned (.tuple #[iv (f 0).1, .bool true]) ∧ Below w.heap.size w w' := by
  have hb1 : Below w.heap.size w (w.alloc (iX (0, 0))) := ((Below.refl _ w).alloc (Nat.le_refl _) (iX (0, 0)))
  have h1 := h.below hb1
  have kL := len_any b bx (p + 1) m lv _ f _ h1
  have r1 : Rr (w.alloc (iX (0, 0))) g c (p + 1) f := h1.hp.row
  have cl := h1.hp.ls
  have a0 := r1.c0 0 (by omega)
  have a1 := r1.c1 0 (by omega)
  simp only [Nat.zero_mul, Nat.zero_add] at a0 a1
  obtain ⟨⟨⟨xk, xi⟩, xr⟩, hx⟩ : ∃ x, f 0 = x := ⟨_, rfl⟩
  rw [hx] at a0 a1 ⊢
  dsimp only at a0 a1 ⊢
  have HG : Hid ((w.alloc (.cells #[.int .i64 xk, .int .i64 xi] 24)).heap[w.heap.size]? = some (.cells #[.int .i64 xk, .int .i64 xi] 24)) := heap_alloc_new w _
  have HB : Hid (Below w.heap.size w (w.alloc (.cells #[.int .i64 xk, .int .i64 xi] 24))) := (Below.refl _ w).alloc (Nat.le_refl _) _
  clear h h1 hb1 hx r1
  go_enter Try.func17, Try.ntmps17
  go_wp2_with fail
  refine kL.mono ?_
  rintro r w2 ⟨rfl, rfl⟩
  go_wp2
  refine bodyPost_ret (results_it rfl _ _ w.heap.size xk xi rfl HG.out) rfl ?_
  exact ⟨rfl, HB.out⟩
end Go.Proofs.Ytcgpjmpppajfdaa
