
/- pop, replace. -/
import Derived.Test.YtcgpjmpppajfdaaYe
import Derived.Laws.Rows
namespace Go.Proofs.Ytcgpjmpppajfdaa.Ws.Li
open Go.RowKit

theorem Rr.shrink {w : World} {g c n m : Nat} {f : Nat → Lk} (h : Rr w g c n f) (hm : m ≤ n) : Rr w g c m f := by
  refine ⟨rc_len f m, ?_⟩
  rcases h.2 with ⟨h0, _⟩ | ⟨g', cap, cur, hv, hB, hg, h1, h2, h3, h4⟩
  · cases h0
  · cases hv
    refine .inr ⟨g, c, cur, rfl, hB, hg, Nat.le_trans hm h1, h2, h3, ?_⟩
    rw [← rc_take f n m hm, ← h4, List.take_take]
    congr 1
    omega

theorem infRs : (Try.prog.info? 104).map (·.size) = some 2 := by kernel_rfl
theorem results_rk {fn : Func} {p : Tmp} (h : fn.results = #[.cell p 104]) (tmps : Array Value) (w : World) (B : Nat) (a : Option Addr) (m k : Nat) (z : Int) (hp : tmps.getD p undef = .pointer (some ⟨B, 0, none⟩)) (hg : w.heap[B]? = some (.cells #[.slice a m k, .int .i64 z] 104)) :
    (results fn tmps).run Try.prog w = .ok (.agg #[.slice a m k, .int .i64 z]) w := results_cell_row h tmps w B 104 #[.slice a m k, .int .i64 z] (0, 0) _ hp hg Try.underlying104 rfl infRs
abbrev z0L : Lk := ((none, 0, 0, fun _ => ⟨#[]⟩), 0)
/-- clear of the last thing. -/
theorem clear_one (w : World) (g c o : Nat) (ty : TypeId) (h0 : (w.cell? ⟨g, o, none⟩).isSome = true) (h1 : (w.cell? ⟨g, o + 1, none⟩).isSome = true) (hf : ∀ j, w.frozen? ⟨g, j, none⟩ = false) :
    (Builtin.clear_ #[99] ty #[.slice (some ⟨g, o, none⟩) 1 c]).run Try.prog w = .ok (.tuple #[]) ((w.setCell ⟨g, o, none⟩ (.slice none 0 0)).setCell ⟨g, o + 1, none⟩ (.int .i64 0)) := by
  have hst := run_storeCells_cells (P := Try.prog) g o [.slice none 0 0, .int .i64 0] 0 w (fun j hj => by
    have : j = 0 ∨ j = 1 := by simp at hj; omega
    rcases this with rfl | rfl
    · exact h0
    · exact h1) (fun j _ => hf _) (by intro u hu; simp at hu; rcases hu with rfl | rfl <;> rfl)
  have hz : ∀ w, (zeroValue 104).run Try.prog w = .ok (.agg #[.slice none 0 0, .int .i64 0]) w := fun w => by
    obtain ⟨i0, hi, hz0, hz1, hz2⟩ := info_parts infR
    simp [zeroValue, typeInfo, hi, hz0]
  have hzc : (Builtin.zeroCells (Value.agg #[.slice none 0 0, .int .i64 0]).cells 1).toList = [.slice none 0 0, .int .i64 0] := by kernel_rfl
  simp [Builtin.clear_, run_underlying Try.underlying99, hz, hzc, hst]
  rfl

set_option maxHeartbeats 2000000 in
set_option maxRecDepth 100000 in
theorem pop_any (A : Lk → Lk → Bool) (b bx g c p : Nat) (lv : Ev) (f : Nat → Lk) (w : World) (hA : AhC lv A) (h : Hp w b bx lv (.slice (some ⟨g, 0, none⟩) (p + 1) c) (p + 1) f) (hn : p + 1 ≤ 1152921504606846976) :
    Calls Try.prog 54 #[.pointer (some ⟨b, 0, none⟩)] w fun r w' => r = .returned (rv (f 0)) ∧ Hp w' b bx lv (.slice (some ⟨g, 0, none⟩) p c) p (sinkF A p (up f 0 (f p)) 0) ∧ Kp (fun k => k = b ∨ k = g) w w' ∧ Fld b w w' := by
  have r : Rr w g c (p + 1) f := h.row
  have cl := h.ls
  have a0 := r.c0 0 (by omega)
  have a1 := r.c1 0 (by omega)
  simp only [Nat.zero_mul, Nat.zero_add] at a0 a1
  have HH : Hid (Hp w b bx lv (.slice (some ⟨g, 0, none⟩) (p + 1) c) (p + 1) f) := h
  have HA : Hid (AhC lv A) := hA
  obtain ⟨⟨⟨xa, xn, xc, xf⟩, xr⟩, hx⟩ : ∃ x, f 0 = x := ⟨_, rfl⟩
  rw [hx] at a0 a1 ⊢
  dsimp only at a0 a1 ⊢
  have hbl : b < w.heap.size := World.block_lt_of_cell? w _ cl
  have hgl : g < w.heap.size := r.lt
  have hbg : b ≠ g := fun e => h.gb (by rw [e]; rfl)
  have z1 := cell_al (rX z0L) cl
  have y0 := cell_al (rX z0L) a0
  have y1 := cell_al (rX z0L) a1
  have z2 := cell_al (rX z0L) z1
  have x0 := cell_al (rX z0L) y0
  have x1 := cell_al (rX z0L) y1
  obtain ⟨W1, hW1⟩ : ∃ W1, W1 = ((w.alloc (.cells #[.slice none 0 0, .int .i64 0] 104)).alloc (.cells #[.slice xa xn xc, .int .i64 xr] 104)).drew := ⟨_, rfl⟩
  have hb1 : Below w.heap.size w W1 := by rw [hW1]; exact (((Below.refl _ w).alloc (Nat.le_refl _) _).alloc (by simp) _).drew
  have h1 := h.below hb1
  have m0 : ∀ j u, (r3 z0L)[j]? = some u → W1.cell? ⟨w.heap.size, j, none⟩ = some u ∧ W1.frozen? ⟨w.heap.size, j, none⟩ = false := fun j u hj => by
    rw [hW1]
    have e : (w.alloc (rX z0L)).cell? ⟨w.heap.size, j, none⟩ = some u := rX_cell w z0L j u hj
    refine ⟨cell_al _ e, ?_⟩
    show ((w.alloc (rX z0L)).alloc (rX ((xa, xn, xc, xf), xr))).frozen? _ = false
    unfold World.frozen?
    rw [show ((w.alloc (rX z0L)).alloc (rX ((xa, xn, xc, xf), xr))).heap[w.heap.size]? = some (rX z0L) from (Below.heap_alloc _ _ _ (by simp)).trans (heap_alloc_new w _)]
    rfl
  have m1 : ∀ j u, (r3 ((xa, xn, xc, xf), xr))[j]? = some u → W1.cell? ⟨w.heap.size + 1, j, none⟩ = some u := fun j u hj => by
    rw [hW1]
    have e := rX_cell (w.alloc (rX z0L)) ((xa, xn, xc, xf), xr) j u hj
    rw [World.size_alloc] at e
    exact e
  have HW1 : Hid (W1 = ((w.alloc (.cells #[.slice none 0 0, .int .i64 0] 104)).alloc (.cells #[.slice xa xn xc, .int .i64 xr] 104)).drew) := hW1
  have hs1 : w.heap.size + 1 < W1.heap.size := World.block_lt_of_cell? W1 _ (m1 0 _ rfl)
  obtain ⟨B, hB⟩ : ∃ B, B = w.heap.size := ⟨_, rfl⟩
  -- the exchange
  obtain ⟨⟨⟨pa, pn, pc, pf⟩, pr⟩, hp⟩ : ∃ x, f p = x := ⟨_, rfl⟩
  have r1 : Rr W1 g c (p + 1) f := h1.row
  have d0 := r1.c0 p (by omega)
  have d1 := r1.c1 p (by omega)
  rw [hp] at d0 d1
  dsimp only at d0 d1
  obtain ⟨W2, hW2⟩ : ∃ W2, W2 = ((W1.setCell ⟨g, 0, none⟩ (.slice pa pn pc)).setCell ⟨g, 1, none⟩ (.int .i64 pr)).drew := ⟨_, rfl⟩
  have hpc : p + 1 ≤ c := by
    rcases h.row.2 with ⟨h0, _⟩ | ⟨g', cap, cur, hv, hB, hg, h1, _⟩
    · cases h0
    · cases hv
      exact h1
  have e2 : W2 = (seW W1 g 0 ((pa, pn, pc, pf), pr)).drew := by rw [hW2]; rfl
  have k2 : Kp (· = g) W1 W2 := by rw [e2]; exact (seW_kp (M := (· = g)) W1 g 0 _ rfl).drew
  have r2 : Rr W2 g c (p + 1) (up f 0 (f p)) := by rw [e2, hp]; exact Rr.drew (r1.set 0 (by omega) ((pa, pn, pc, pf), pr))
  have h2 := h1.rowed k2 r2 (lok_up h1.lok (h1.lok p (by omega)))
  -- clear
  obtain ⟨W3, hW3⟩ : ∃ W3, W3 = seW W2 g p z0L := ⟨_, rfl⟩
  have hcl : ∀ c' ty, (Builtin.clear_ #[99] ty #[.slice (some ⟨g, p * 2, none⟩) 1 c']).run Try.prog W2 = .ok (.tuple #[]) W3 := fun c' ty => by
    rw [hW3]
    exact clear_one W2 g c' (p * 2) ty (by rw [r2.c0 p (by omega)]; rfl) (by rw [r2.c1 p (by omega)]; rfl) (fun j => r2.froz j)
  have k3 : Kp (· = g) W2 W3 := by rw [hW3]; exact seW_kp (M := (· = g)) W2 g p _ rfl
  have r3' : Rr W3 g c (p + 1) (up (up f 0 (f p)) p z0L) := by rw [hW3]; exact r2.set p (by omega) z0L
  have r3s : Rr W3 g c p (up f 0 (f p)) := (r3'.shrink (by omega)).congr fun j hj => up_other _ _ _ _ (by omega)
  have q3 := k3.cell h2.ls (fun e => hbg e)
  have f3 := k3.frozen h2.ls h2.fz (fun e => hbg e)
  -- the shorter list
  obtain ⟨W4, hW4⟩ : ∃ W4, W4 = W3.setCell ⟨b, 1, none⟩ (.slice (some ⟨g, 0, none⟩) p c) := ⟨_, rfl⟩
  have k4 : Kp (· = b) W3 W4 := by rw [hW4]; exact (Kp.refl (· = b) W3).setCell (p := ⟨b, 1, none⟩) rfl _
  have h4 : Hp W4 b bx lv (.slice (some ⟨g, 0, none⟩) p c) p (up f 0 (f p)) := by
    refine ⟨?_, ?_, ?_, (h2.bxc.kp k3 (fun j hj (e : j = g) => by have := h.gx g rfl; omega)).kp k4 (fun j hj (e : j = b) => by have := h.bb; omega), k4.row r3s (fun k e => by cases e; exact fun e => hbg e.symm), h.gb, h.gx, h.bb, fun j hj => h2.lok j (by omega)⟩
    · rw [hW4, World.cell?_setCell_other _ _ _ _ (by simp)]
      exact k3.cell h2.ah (fun e => hbg e)
    · rw [hW4]; exact World.cell?_setCell_same' _ _ _ (by rw [q3]; rfl)
    · rw [hW4, World.frozen?_setCell]; exact f3
  have kall : Kp (fun k => k = b ∨ k = g) W1 W4 := ((k2.trans k3).mono (fun _ _ e => .inr e)).trans (k4.mono (fun _ _ e => .inl e))
  have HFL : Hid (Fld b w W4) := ((Fld.kp (Kp.of (M := fun _ => False) hb1) id).trans (Fld.kp (k2.trans k3) (fun e => hbg e))).trans (by rw [hW4]; exact Fld.set _)
  have kS := sink_any A b bx g c p lv (up f 0 (f p)) W4 hA h4 (by omega)
  have HF : Hid (∀ W5, Kp (· = g) W4 W5 → Kp (fun k => k = b ∨ k = g) W1 W5) := fun W5 k5 => kall.trans (k5.mono (fun _ _ e => .inr e))
  have HK1 : Hid (Kp (fun k => k = b ∨ k = g) w W1) := Kp.of hb1
  have hB1 : B ≠ b ∧ B ≠ g ∧ B + 1 ≠ b ∧ B + 1 ≠ g := by rw [hB]; omega
  have HM : Hid (∀ W5, Kp (fun k => k = b ∨ k = g) W1 W5 → ((∀ j u, (r3 z0L)[j]? = some u → W5.cell? ⟨B, j, none⟩ = some u ∧ W5.frozen? ⟨B, j, none⟩ = false) ∧ (∀ j u, (r3 ((xa, xn, xc, xf), xr))[j]? = some u → W5.cell? ⟨B + 1, j, none⟩ = some u))) := fun W5 k5 => by
    rw [hB]
    exact ⟨fun j u hj => ⟨k5.cell (m0 j u hj).1 (fun (e : w.heap.size = b ∨ w.heap.size = g) => by omega), k5.frozen (m0 j u hj).1 (m0 j u hj).2 (fun (e : w.heap.size = b ∨ w.heap.size = g) => by omega)⟩, fun j u hj => k5.cell (m1 j u hj) (fun (e : w.heap.size + 1 = b ∨ w.heap.size + 1 = g) => by omega)⟩
  have HM2 : Hid (∀ W5, Kp (fun k => k = b ∨ k = g) W1 W5 → W5.heap[B]? = some (.cells #[.slice none 0 0, .int .i64 0] 104)) := fun W5 k5 => by
    rw [hB, k5.block w.heap.size (by omega) (fun (e : w.heap.size = b ∨ w.heap.size = g) => by omega), hW1]
    exact (Below.heap_alloc _ _ _ (by simp)).trans (heap_alloc_new w _)
  have HB : Hid (w.heap.size ≤ B) := Nat.le_of_eq hB.symm
  have hc2 := h2.ls
  have hcl1 := h1.ls
  have fz1 := r1.froz 0
  have fz2 := r1.froz 1
  have b0 := r1.c0 0 (by omega)
  have b1 := r1.c1 0 (by omega)
  simp only [Nat.zero_mul, Nat.zero_add] at b0 b1
  rw [hx] at b0 b1
  dsimp only at b0 b1
  clear h hA r hx hp hb1 h1 m0 m1 hs1 r1 e2 k2 r2 h2 k3 r3' r3s k4 h4 kall hW1 hW3
  have HW2 : Hid (W2 = ((W1.setCell ⟨g, 0, none⟩ (.slice pa pn pc)).setCell ⟨g, 1, none⟩ (.int .i64 pr)).drew) := hW2
  have HW4 : Hid (W4 = W3.setCell ⟨b, 1, none⟩ (.slice (some ⟨g, 0, none⟩) p c)) := hW4
  have HBB : Hid (B = w.heap.size) := hB
  generalize sinkF A p (up f 0 (f p)) 0 = FF at *
  clear hW2 hW4 hB
  go_enter Try.func54, Try.ntmps54
  go_wp2_with fail
  go_region
  rw [← HW1.out, ← HBB.out]
  clear a0 a1 y0 y1 x0 x1 z1 z2 cl
  go_wp2_with fail
  go_region
  rw [← HW2.out]
  go_wp2_with fail
  rw [← HW4.out]
  refine kS.mono ?_
  rintro r W5 ⟨rfl, o5, k5⟩
  have K5 := HF.out W5 k5
  obtain ⟨m0, m1⟩ := HM.out W5 K5
  have M2 := HM2.out W5 K5
  have O5 : Hid _ := o5
  have KK : Hid (Kp (fun k => k = b ∨ k = g) w W5) := HK1.out.trans K5
  have c0 := (m0 0 _ rfl).1
  have c1 := (m0 1 _ rfl).1
  have z0 := (m0 0 _ rfl).2
  have z1 := (m0 1 _ rfl).2
  have n0 := m1 0 _ rfl
  have n1 := m1 1 _ rfl
  clear m0 m1 K5 o5 kS hcl q3 f3 d0 d1 b0 b1 hcl1 hc2
  obtain ⟨W6, hW6⟩ : ∃ W6, W6 = (W5.setCell ⟨B, 0, none⟩ (.slice xa xn xc)).setCell ⟨B, 1, none⟩ (.int .i64 xr) := ⟨_, rfl⟩
  have FL5 := HFL.out.trans (Fld.kp k5 (fun e => hbg e))
  have HO6 : Hid (Hp W6 b bx lv (.slice (some ⟨g, 0, none⟩) p c) p FF ∧ Kp (fun k => k = b ∨ k = g) w W6 ∧ Fld b w W6) := by
    have k6 : Kp (· = B) W5 W6 := by rw [hW6]; exact ((Kp.refl (· = B) W5).setCell (p := ⟨B, 0, none⟩) rfl _).setCell (p := ⟨B, 1, none⟩) rfl _
    refine ⟨O5.out.kp k6 (fun (e : b = B) => hB1.1 e.symm) (fun j hj (e : j = B) => ?_) (fun j e (x : j = B) => hB1.2.1 ?_), KK.out.trans' k6 (fun i hi (e : i = B) => ?_), FL5.trans (Fld.kp k6 (fun (e : b = B) => hB1.1 e.symm))⟩
    · have := HH.out.bxc.2.size
      have := HB.out
      omega
    · exact x.symm.trans (Option.some.inj e).symm
    · have := HB.out
      omega
  have HG6 : Hid (W6.heap[B]? = some (.cells #[.slice xa xn xc, .int .i64 xr] 104)) := by
    show _ = _
    rw [hW6]
    exact heap_setCell_same _ B 1 _ 104 _ (heap_setCell_same _ B 0 _ 104 _ M2)
  have HW6 : Hid (W6 = (W5.setCell ⟨B, 0, none⟩ (.slice xa xn xc)).setCell ⟨B, 1, none⟩ (.int .i64 xr)) := hW6
  clear hW6 M2 FL5 k5
  go_wp2
  rw [← HW6.out]
  refine bodyPost_ret (results_rk rfl _ _ B xa xn xc xr rfl HG6.out) rfl ?_
  exact ⟨rfl, HO6.out⟩
set_option maxHeartbeats 2000000 in
set_option maxRecDepth 100000 in
theorem replace_any (A : Lk → Lk → Bool) (b bx g c p : Nat) (lv : Ev) (f : Nat → Lk) (x : Lk) (w : World) (hA : AhC lv A) (hlx : Lok lv.1 x) (h : Hp w b bx lv (.slice (some ⟨g, 0, none⟩) (p + 1) c) (p + 1) f) (hn : p + 1 ≤ 1152921504606846976) :
    Calls Try.prog 53 #[.pointer (some ⟨b, 0, none⟩), rv x] w fun r w' => r = .returned (.tuple #[]) ∧ Hp w' b bx lv (.slice (some ⟨g, 0, none⟩) (p + 1) c) (p + 1) (sinkF A (p + 1) (up f 0 x) 0) ∧ Kp (· = g) w w' := by
  obtain ⟨W1, hW1⟩ : ∃ W1, W1 = w.alloc (rX x) := ⟨_, rfl⟩
  have b1 : Below w.heap.size w W1 := by rw [hW1]; exact (Below.refl _ w).alloc (Nat.le_refl _) _
  have h1 := h.below b1
  have r1 : Rr W1 g c (p + 1) f := h1.row
  obtain ⟨W2, hW2⟩ : ∃ W2, W2 = (seW W1 g 0 x).drew := ⟨_, rfl⟩
  have k2 : Kp (· = g) W1 W2 := by rw [hW2]; exact (seW_kp (M := (· = g)) W1 g 0 x rfl).drew
  have r2 : Rr W2 g c (p + 1) (up f 0 x) := by rw [hW2]; exact Rr.drew (r1.set 0 (by omega) x)
  have h2 := h1.rowed k2 r2 (lok_up h1.lok hlx)
  have kS := sink_any A b bx g c (p + 1) lv (up f 0 x) W2 hA h2 hn
  have KK : Hid (Kp (· = g) w W2) := (Kp.of b1).trans k2
  have cl := h.ls
  have a0 := (show Rr w g c (p + 1) f from h.row).c0 0 (by omega)
  have a1 := (show Rr w g c (p + 1) f from h.row).c1 0 (by omega)
  simp only [Nat.zero_mul, Nat.zero_add] at a0 a1
  have cl1 := cell_al (rX x) cl
  have y0 := cell_al (rX x) a0
  have y1 := cell_al (rX x) a1
  have f0 : (w.alloc (rX x)).frozen? ⟨g, 0, none⟩ = false := by rw [← hW1]; exact r1.froz 0
  have f1 : (w.alloc (rX x)).frozen? ⟨g, 1, none⟩ = false := by rw [← hW1]; exact r1.froz 1
  generalize sinkF A (p + 1) (up f 0 x) 0 = FF at *
  obtain ⟨⟨xa, xn, xc, xf⟩, xr⟩ := x
  have e2 : (((w.alloc (.cells #[.slice xa xn xc, .int .i64 xr] 104)).setCell ⟨g, 0, none⟩ (.slice xa xn xc)).setCell ⟨g, 1, none⟩ (.int .i64 xr)).drew = W2 := by rw [hW2, hW1]; rfl
  have E2 : Hid _ := e2
  clear h h1 r1 k2 r2 h2 hW1 hW2 b1 hA e2
  show Calls Try.prog 53 #[.pointer (some ⟨b, 0, none⟩), .agg #[.slice xa xn xc, .int .i64 xr]] w _
  go_enter Try.func53, Try.ntmps53
  go_wp2_with fail
  go_region
  rw [E2.out]
  go_wp2_with fail
  refine kS.mono ?_
  rintro r W5 ⟨rfl, o5, k5⟩
  have O5 : Hid _ := o5
  have K5 : Hid (Kp (· = g) w W5) := KK.out.trans k5
  clear o5 k5 kS
  go_wp2
  go_end0
  exact ⟨rfl, O5.out, K5.out⟩
end Go.Proofs.Ytcgpjmpppajfdaa.Ws.Li
