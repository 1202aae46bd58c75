
/- put: a list in new memory, with marked room behind it; whole. -/
import Derived.Test.YtcgpjmpppajfdaaKf
import Derived.Laws.CopyOwn
namespace Go.Proofs.Ytcgpjmpppajfdaa
open Go.RowKit

theorem wpList_copy_run {P : Program} {ops : Array Oper} {rest : List Oper} {o : Oper} {a : Act} {w w' : World} {v' : Value} {Q : Exit → Act → World → Prop} (hw : Region.wanted o (yielded ops a.tmps) = true) (s x : Operand) (t tx : TypeId)
    (ho : o.op = .call { callee := .builtin .copy, args := #[s, x], argTypes := #[t, tx] }) (vs vx : Value) (hs : a.eval s = vs) (hx : a.eval x = vx)
    (hr : (Builtin.copy_ #[t, tx] o.type #[vs, vx]).run P w = .ok v' w') (h : wpList P ops Q rest (a.put o.dst v') w') : wpList P ops Q (o :: rest) a w := by
  unfold wpList
  rw [if_pos hw]
  left
  unfold Oper.wp execOp
  simp only [ho, resolve, invoke, builtin, Sem.run_bind, Sem.run_pure, Result.andThen_ok, List.map_toArray, List.map_cons, List.map_nil, hs, hx, hr]
  exact h
set_option maxRecDepth 100000 in
/-- A copy of things to the beginning of a row. -/
theorem copy_i (w : World) (S g L c n : Nat) (f xs : Nat → It) (a : Option Addr) (ca : Nat) (ty : TypeId) (o : Ir w S (.slice (some ⟨g, 0, none⟩) L c) L f) (hn : n ≤ L) (hx : Iml w a xs n) :
    ∃ w', (Builtin.copy_ #[22, 22] ty #[.slice (some ⟨g, 0, none⟩) L c, .slice a n ca]).run Try.prog w = .ok (goInt n) w' ∧ Ir w' S (.slice (some ⟨g, 0, none⟩) L c) L (fun j => if j < n then xs j else f j) ∧ w.grownBy w' (some g) := by
  obtain ⟨i0, hi, hz0, hz1, hz2⟩ := info_parts infI
  have hcs : ∀ ad, a = some ad → ∀ j v, (ic xs n)[j]? = some v → w.cell? (ad.add j) = some v := fun ad e j v hj => by
    rcases hx with h | ⟨g2, o2, e2, _, hat⟩
    · subst h; simp [ic] at hj
    · rw [e] at e2
      cases e2
      have hjl : j < n * 2 := by
        have := (List.getElem?_eq_some_iff.1 hj).1
        rwa [ic_len] at this
      rw [Go.WideShapes.add_plain]
      have e3 : j = (j / 2) * 2 + j % 2 := by omega
      rw [e3] at hj ⊢
      rw [ic_get xs n (j / 2) (j % 2) (by omega) (by omega)] at hj
      obtain ⟨q0, q1⟩ := hat (j / 2) (by omega)
      have : j % 2 = 0 ∨ j % 2 = 1 := by omega
      rcases this with h | h
      · rw [h] at hj ⊢
        simp [i2] at hj
        rw [← hj, Nat.add_zero]
        exact q0
      · rw [h] at hj ⊢
        simp [i2] at hj
        rw [← hj, ← Nat.add_assoc]
        exact q1
  rcases o.2 with ⟨h0, _⟩ | ⟨g', cap, cur, hv, hb, hgg, h1, h2, h3, h4⟩
  · cases h0
  · cases hv
    have hmin : Nat.min n L = n := Nat.min_eq_left hn
    have hfin : ∀ w', w' = w.setRow g (ic xs n ++ cur.toList.drop (n * 2)).toArray → Ir w' S (.slice (some ⟨g, 0, none⟩) L c) L (fun j => if j < n then xs j else f j) ∧ w.grownBy w' (some g) := fun w' e => by
      subst e
      refine ⟨⟨ic_len _ _, .inr ⟨g, c, _, rfl, hb, setRow_heap w g cur _ 24 _ hgg, h1, h2, ?_, ?_⟩⟩, ⟨rfl, rfl, rfl, by simp, fun k _ hk => setRow_other w g k _ (fun e => hk (by simp [e]))⟩⟩
      · simp only [List.size_toArray, List.length_append, ic_len, List.length_drop, Array.length_toList]
        have : n * 2 ≤ cur.size := by rw [h3]; omega
        omega
      · have e1 : ic (fun j => if j < n then xs j else f j) L = ic xs n ++ (ic f L).drop (n * 2) := by
          have hLn : L = n + (L - n) := by omega
          rw [hLn, ic_app, ic_app, ic_congr (fun j => if j < n then xs j else f j) xs n (fun j hj => if_pos hj), ic_congr (fun j => if n + j < n then xs (n + j) else f (n + j)) (fun j => f (n + j)) (L - n) (fun j _ => if_neg (by omega))]
          rw [List.drop_append_of_le_length (by rw [ic_len]; exact Nat.le_refl _), List.drop_of_length_le (by rw [ic_len]; exact Nat.le_refl _), List.nil_append]
        rw [e1, ← h4]
        rw [List.take_append, ic_len, List.take_of_length_le (by rw [ic_len]; omega)]
        congr 1
        rw [List.drop_take]
    cases a with
    | none =>
      have h0 : n = 0 := by
        rcases hx with h | ⟨_, _, e, _⟩
        · exact h
        · cases e
      subst h0
      refine ⟨w, ?_, ?_⟩
      · simp [Builtin.copy_, run_underlying Try.underlying22, Builtin.lenOf, Builtin.firstCells, sizeOf, typeInfo, hi, storeCells]
      · exact ⟨Ir.congr o (fun j _ => (if_neg (by omega)).symm), ⟨rfl, rfl, rfl, Nat.le_refl _, fun _ _ _ => rfl⟩⟩
    | some ad =>
      have hl := run_loadCells_list (P := Try.prog) w ad (ic xs n) (hcs ad rfl)
      have hst := run_storeCells_at Try.prog g 0 24 (ic xs n) 0 cur w hgg (by rw [ic_len, h3]; omega) (ic_one xs n)
      rw [ic_len] at hl hst
      refine ⟨_, ?_, hfin _ rfl⟩
      simp [Builtin.copy_, run_underlying Try.underlying22, Builtin.lenOf, Builtin.firstCells, sizeOf, typeInfo, hi, hz1, hmin, hl]
      have hst' : (storeCells ⟨g, 0, none⟩ (ic xs n)).run Try.prog w = .ok () (w.setRow g (ic xs n ++ cur.toList.drop (n * 2)).toArray) := by simpa using hst
      rw [hst']
      rfl
/-- A list as put lays it. -/
def pf (xs : Nat → It) (n j : Nat) : It := if j < n then xs j else (-7, -7)
set_option maxHeartbeats 2000000 in
set_option maxRecDepth 100000 in
theorem put_any (a : Option Addr) (c n : Nat) (xs : Nat → It) (w : World) (hf : Iml w a xs n) (hn : n ≤ 1099511627776) :
    Calls Try.prog 35 #[.slice a n c] w fun r w' => r = .returned (.tuple #[.slice (some ⟨w.heap.size, 0, none⟩) n (n + 40), .slice (some ⟨w.heap.size, 0, none⟩) (n + 40) (n + 40)]) ∧ Ir w' w.heap.size (.slice (some ⟨w.heap.size, 0, none⟩) (n + 40) (n + 40)) (n + 40) (pf xs n) ∧ Below w.heap.size w w' := by
  obtain ⟨w1, r1, o1, b1⟩ := make_i w w.heap.size (n + 40) (Nat.le_refl _) (by omega)
  obtain ⟨w2, r2, o2, g2⟩ := copy_i w1 w.heap.size w.heap.size (n + 40) (n + 40) n (fun _ => (0, 0)) xs a c 3 o1 (by omega) (hf.below b1)
  have b2 : Below w.heap.size w w2 := b1.grown g2 b1.size (fun k e => by cases e; exact Nat.le_refl _)
  obtain ⟨G, hG⟩ : ∃ G, G = w.heap.size := ⟨_, rfl⟩
  have HG : Hid (G = w.heap.size) := hG
  rw [← hG] at r1 r2 o2 b2 ⊢
  have r1 : (Instr.makeSlice 22 (.int .i64 ((n : Int) + 40)) (.int .i64 ((n : Int) + 40))).run Try.prog w = .ok (.slice (some ⟨G, 0, none⟩) (n + 40) (n + 40)) w1 := by
    rw [show (n : Int) + 40 = ((n + 40 : Nat) : Int) by omega]
    exact r1
  have hb2 : Hid (Below G w w2) := b2
  have O2 : Hid (Ir w2 G (.slice (some ⟨G, 0, none⟩) (n + 40) (n + 40)) (n + 40) (fun j => if j < n then xs j else (if j < n then (-7, -7) else (0, 0)))) := by
    refine Ir.congr o2 (fun j _ => ?_)
    by_cases h : j < n
    · simp [h]
    · simp [h]
  have hni : (n : Int) ≤ 1099511627776 := by omega
  have hnc : (n : Int) ≤ (n : Int) + 40 := by omega
  have r2' : (Builtin.copy_ #[22, 22] 3 #[.slice (some ⟨G, 0, none⟩) (n + 40) (n + 40), .slice a n c]).run Try.prog w1 = .ok (.int .i64 (n : Int)) w2 := r2
  clear hf o1 b1 o2 g2 b2 hG r2
  go_enter Try.func35, Try.ntmps35
  go_wp2_with (at_builtin; refine wpList_copy_run rfl (.tmp 9) (.tmp 10) 22 22 rfl _ _ rfl rfl r2' ?_)
  clear r1 r2'
  go_loopw [4] (fun ivv w' => ∃ i : Nat, ivv = .int .i64 (i : Int) ∧ n ≤ i ∧ i ≤ n + 40 ∧ Hid (Ir w' G (.slice (some ⟨G, 0, none⟩) (n + 40) (n + 40)) (n + 40) (fun j => if j < n then xs j else (if j < i then (-7, -7) else (0, 0)))) ∧ Hid (Below G w w')) (fun ivv _ => n + 40 - (RowKit.intOf ivv).toNat)
  case atStart => exact ⟨n, rfl, by omega, by omega, O2, hb2⟩
  case round =>
    obtain ⟨i, rfl, hi0, hi, ho, hb⟩ := hrel
    by_cases hlt : i < n + 40
    · have hii : (i : Int) < (n : Int) + 40 := by omega
      have oa : Ir (wr.alloc (.cells #[.int .i64 (-7), .int .i64 (-7)] 24)) G _ _ _ := World.ownsRow.alloc ho.out _
      obtain ⟨z0, z1, z2, z3⟩ := Ir.cells oa i hlt
      have os := Ir.congr (Ir.set oa i hlt (-7, -7)) (g := fun j => if j < n then xs j else (if j < i + 1 then (-7, -7) else (0, 0))) (fun j _ => by
        by_cases hj : j = i
        · subst hj; rw [up_same, if_neg (by omega), if_pos (by omega)]
        · rw [up_other _ _ _ _ hj]
          by_cases h : j < n
          · rw [if_pos h, if_pos h]
          · rw [if_neg h, if_neg h]
            by_cases h2 : j < i
            · rw [if_pos h2, if_pos (by omega)]
            · rw [if_neg h2, if_neg (by omega)])
      have HO : Hid _ := os
      have hGw : G ≤ wr.heap.size := by rw [HG.out]; exact (HG.out ▸ hb.out).size
      have HB : Hid (Below G w _) := ((hb.out.alloc hGw (.cells #[.int .i64 (-7), .int .i64 (-7)] 24)).setCell (p := ⟨G, i * 2, none⟩) (Nat.le_refl _) (.int .i64 (-7))).setCell (p := ⟨G, i * 2 + 1, none⟩) (Nat.le_refl _) (.int .i64 (-7))
      generalize ((if i < n then xs i else (if i < i then ((-7 : Int), (-7 : Int)) else (0, 0))) : It).1 = y0 at *
      generalize ((if i < n then xs i else (if i < i then ((-7 : Int), (-7 : Int)) else (0, 0))) : It).2 = y1 at *
      clear oa os ho hb
      go_wp2_with fail
      go_fit (it_exact _ _ _)
      rintro r w3 ⟨rfl, rfl⟩
      go_wp2
      exact ⟨⟨i + 1, by go_num, by omega, by omega, HO, HB⟩, by simp [RowKit.intOf]; omega⟩
    · have hin : i = n + 40 := by omega
      subst hin
      have hii : ¬ ((n + 40 : Nat) : Int) < (n : Int) + 40 := by omega
      have HO : Hid (Ir wr G (.slice (some ⟨G, 0, none⟩) (n + 40) (n + 40)) (n + 40) (pf xs n)) := Ir.congr ho.out (fun j hj => by
        unfold pf
        by_cases h : j < n
        · rw [if_pos h, if_pos h]
        · rw [if_neg h, if_neg h, if_pos hj])
      clear ho
      go_wp2
      go_ret2
      exact ⟨rfl, HO.out, hb.out⟩
set_option maxHeartbeats 2000000 in
set_option maxRecDepth 100000 in
theorem whole_true (g : Nat) (a : Option Addr) (c cc n : Nat) (xs : Nat → It) (w : World) (hp : Iml w (some ⟨g, 0, none⟩) (pf xs n) (n + 40)) (hf : Iml w a xs n) (hc : n + 40 ≤ cc) (hn : n ≤ 1099511627776) :
    Calls Try.prog 39 #[.slice (some ⟨g, 0, none⟩) (n + 40) cc, .slice a n c] w fun r w' => r = .returned (.bool true) ∧ Below w.heap.size w w' := by
  have hN := ne_it
  have hpn : Iml w (some ⟨g, 0, none⟩) xs n := by
    rcases hp with h | ⟨g', o', e, hg, hat⟩
    · omega
    · cases e
      exact .inr ⟨g, 0, rfl, hg, fun j hj => by have := hat j (by omega); unfold pf at this; rw [if_pos hj] at this; exact this⟩
  have hpm : ∀ j, j < 40 → w.cell? ⟨g, (n + j) * 2, none⟩ = some (.int .i64 (-7)) ∧ w.cell? ⟨g, (n + j) * 2 + 1, none⟩ = some (.int .i64 (-7)) := fun j hj => by
    obtain ⟨g', o', e, h0, h1⟩ := hp.at (n + j) (by omega)
    cases e
    unfold pf at h0 h1
    rw [if_neg (by omega), Nat.zero_add] at h0 h1
    exact ⟨h0, h1⟩
  have HPM : Hid _ := hpm
  have kS := same_true (some ⟨g, 0, none⟩) a cc c n xs w hpn hf (by omega)
  have hci : (n : Int) + 40 ≤ cc := by omega
  have hni : (n : Int) ≤ 1099511627776 := by omega
  have hn1 : (n : Int) ≤ (n : Int) + 40 := by omega
  have hn2 : (n : Int) ≤ cc := by omega
  obtain ⟨G, hG⟩ : ∃ G, G = w.heap.size := ⟨_, rfl⟩
  have HG : Hid (G = w.heap.size) := hG
  rw [← hG] at kS ⊢
  clear hp hf hpn hpm hG
  go_enter Try.func39, Try.ntmps39
  go_wp2_with fail
  go_fit kS
  rintro r w1 ⟨rfl, b1⟩
  have B1 : Hid (Below G w w1) := b1
  clear b1 kS
  have hl40 : n + 40 - n = 40 := by omega
  go_wp2
  go_loopw [19] (fun ivv w' => ∃ i : Nat, ivv = .int .i64 (i : Int) ∧ i ≤ 40 ∧ Hid (Below G w w')) (fun ivv _ => 40 - (RowKit.intOf ivv).toNat)
  case atStart => exact ⟨0, rfl, by omega, B1⟩
  case round =>
    obtain ⟨i, rfl, hi, hb⟩ := hrel
    by_cases hlt : i < 40
    · have hii : (i : Int) < 40 := by omega
      have hb' : Below w.heap.size w wr := HG.out ▸ hb.out
      obtain ⟨x0, x1⟩ := HPM.out i hlt
      have e0 := bcellK hb' x0
      have e1 := bcellK hb' x1
      rw [Nat.add_mul] at e0 e1
      have hGw : G ≤ wr.heap.size := by rw [HG.out]; exact hb'.size
      obtain ⟨W2, hW2⟩ : ∃ W2, W2 = wr.alloc (.cells #[.int .i64 (-7), .int .i64 (-7)] 24) := ⟨_, rfl⟩
      have ew : W2.heap[wr.heap.size]? = some (.cells #[.int .i64 (-7), .int .i64 (-7)] 24) := by rw [hW2]; exact heap_alloc_new wr _
      have y0 : W2.cell? ⟨wr.heap.size, 0, none⟩ = some (.int .i64 (-7)) := by unfold World.cell?; rw [ew]; rfl
      have y1 : W2.cell? ⟨wr.heap.size, 1, none⟩ = some (.int .i64 (-7)) := by unfold World.cell?; rw [ew]; rfl
      have f0 := fun d os => cell_regrown y0 d os
      have f1 := fun d os => cell_regrown y1 d os
      have HB2 : Hid (Below G w W2) := by rw [hW2]; exact hb.out.alloc hGw _
      have cO := fun d os => Calls.regrown_of (it_any (-7) (-7) (Go.Sort.grow (redrawn W2 d) os))
      have HE : Hid (W2 = _) := hW2
      have heq : eqB ((-7 : Int), (-7 : Int)) (-7, -7) = true := rfl
      clear x0 x1 hb hb' ew hW2
      go_wp2_with fail
      rw [← HE.out]
      refine wp_region_quiet_below (by kernel_rfl) (by kernel_rfl) ?_
      repeat (first | quiet_step (fail) | quiet_step (exact cO _ _))
      refine wpQuiet_nil ?_
      intro _ hw'
      obtain ⟨⟨dq, osq⟩, hw''⟩ := hw'
      subst hw''
      have HB3 : Hid (Below G w (Go.Sort.grow (redrawn W2 dq) osq)) := HB2.out.trans ((below_regrown W2 dq osq).mono (by rw [HG.out]; exact (HG.out ▸ HB2.out).size))
      clear y0 y1 f0 f1 cO HE
      generalize Go.Sort.grow (redrawn W2 dq) osq = W4 at *
      go_wp2
      exact ⟨⟨i + 1, by go_num, by omega, HB3⟩, by simp [RowKit.intOf]; omega⟩
    · have hii : ¬ (i : Int) < 40 := by omega
      go_wp2
      go_ret
      exact ⟨rfl, hb.out⟩
end Go.Proofs.Ytcgpjmpppajfdaa
