/- Labels: Make of two labels. -/
import Derived.Test.YtjmninjaoemhjaaDoorDd
import Derived.Carry
import Derived.WideMake
namespace Go.Proofs.YtjmninjaoemhjaaDoor
open Go.RowKit Go.Lib

abbrev lB : Lb := (⟨#[98]⟩, ⟨#[50]⟩)
abbrev lA : Lb := (⟨#[97]⟩, ⟨#[49]⟩)
abbrev mE (k : ByteArray) (b : Nat) : MapEntry := { key := .string k, val := .agg #[], born := b }
def upM (w : World) (r : Nat) (o : Obj) : World := { w with heap := w.heap.setIfInBounds r o }
theorem upM_kp (w : World) (r : Nat) (o : Obj) : Kp (· = r) w (upM w r o) := ⟨rfl, rfl, rfl, by simp [upM], fun k _ hm => by
  show (w.heap.setIfInBounds r o)[k]? = w.heap[k]?
  rw [Array.getElem?_setIfInBounds_ne (fun e => hm e.symm)]⟩
theorem upM_at {w : World} {r : Nat} {o p : Obj} (h : w.heap[r]? = some p) : (upM w r o).heap[r]? = some o := by
  show (w.heap.setIfInBounds r o)[r]? = some o
  rw [Array.getElem?_setIfInBounds_self_of_lt (Array.getElem?_eq_some_iff.1 h).1]
theorem mk_run (n : Int) (w : World) : (Instr.makeMap 61 (some (.int .i64 n))).run Tryd.prog w = .ok (.map (some w.heap.size)) (w.alloc (.map #[] 0)) := by
  simp [Instr.makeMap, run_underlying Tryd.underlying61, asInt, asIntOf, Result.andThen]
theorem look_run {w : World} {r clock : Nat} {es : Array MapEntry} {k : ByteArray} (hb : w.heap[r]? = some (.map es clock)) (hf : Instr.findNow .string (.string k) es.toList 0 = some none) :
    (Instr.lookup 61 (.map (some r)) (.string k) true).run Tryd.prog w = .ok (.tuple #[.agg #[], .bool false]) w := by
  have hc : ∀ b, (Instr.checkKey b 10000 9 (.string k)).run Tryd.prog w = .ok () w := fun b => MapKept.run_checkKey (k := .string k) Tryd.underlying9 (by simp [MapKept.IsKey]) b 9999
  simp [Instr.lookup, run_underlying Tryd.underlying61, MapKept.run_getObj_map hb, hc, MapKept.run_findKey Tryd.underlying9 hf, Tryd.zeroValue62, Result.andThen]
theorem upd_run {w : World} {r clock : Nat} {es : Array MapEntry} {k : ByteArray} (hb : w.heap[r]? = some (.map es clock)) (hf : Instr.findNow .string (.string k) es.toList 0 = some none) :
    (Instr.mapUpdate 61 (.map (some r)) (.string k) (.agg #[])).run Tryd.prog w = .ok () (upM w r (.map (es.push (mE k clock)) (clock + 1))) := by
  have hc : (Instr.checkKey false 10000 9 (.string k)).run Tryd.prog w = .ok () w := MapKept.run_checkKey (k := .string k) Tryd.underlying9 (by simp [MapKept.IsKey]) false 9999
  simp [Instr.mapUpdate, run_underlying Tryd.underlying61, MapKept.run_getObj_map hb, hc, MapKept.run_findKey Tryd.underlying9 hf, MapKept.run_setObj_map _ hb, Result.andThen]
  rfl
/-- An append whose run is known. -/
theorem wpList_append_run {P : Program} {ops : Array Oper} {rest : List Oper} {o : Oper} {a : Act} {w w' : World} {v' : Value} {Q : Exit → Act → World → Prop} (hw : Region.wanted o (yielded ops a.tmps) = true) (s x : Operand) (t tx : TypeId)
    (ho : o.op = .call { callee := .builtin .append, args := #[s, x], argTypes := #[t, tx] }) (vs vx : Value) (hs : a.eval s = vs) (hx : a.eval x = vx)
    (hr : (Builtin.append_ #[t, tx] o.type #[vs, vx]).run P w = .ok v' w') (h : wpList P ops Q rest (a.put o.dst v') w') : wpList P ops Q (o :: rest) a w := by
  unfold wpList
  rw [if_pos hw]
  left
  unfold Oper.wp execOp
  simp only [ho, resolve, invoke, builtin, Sem.run_bind, Sem.run_pure, Result.andThen_ok, List.map_toArray, List.map_cons, List.map_nil, hs, hx, hr]
  exact h
/-- One label behind a row of one's own. -/
theorem ap_lb (w : World) (S : Nat) (v : Value) (n : Nat) (xs : List Value) (x : Lb) (hS : S ≤ w.heap.size) (hn : (n + 1) * 32 ≤ 140737488355328) (o : w.ownsRow S 26 2 v n xs) :
    ∃ g c w', (Builtin.append_ #[22, 22] 22 #[v, .slice (some ⟨w.heap.size, 0, none⟩) 1 1]).run Tryd.prog (w.alloc (lbX x)) = .ok (.slice (some ⟨g, 0, none⟩) (n + 1) c) w' ∧ w'.ownsRow S 26 2 (.slice (some ⟨g, 0, none⟩) (n + 1) c) (n + 1) (xs ++ l2 x) ∧ Kp (fun k => v.ownBlock = some k) w w' := by
  obtain ⟨i0, hi, hz0, hz1, hz2⟩ := info_parts infL
  have o0 := World.ownsRow.alloc o (lbX x)
  have e : (w.alloc (lbX x)).heap[w.heap.size]? = some (lbX x) := heap_alloc_new w _
  obtain ⟨v', w', r, o', g, _, _⟩ := run_append_own_at (P := Tryd.prog) (w.alloc (lbX x)) S 22 22 26 i0 _ 2 32 Tryd.underlying22 hi hz0 hz1 hz2 rfl (by decide) _ n xs o0 ⟨w.heap.size, 0, none⟩ 1 1 (l2 x) (by rfl)
    (fun j u hj => by
      rw [Go.WideShapes.add_plain, Nat.zero_add]
      unfold World.cell?
      rw [e]
      simpa [l2] using hj) (by intro u hu; simp [l2] at hu; rcases hu with rfl | rfl <;> rfl) (by unfold maxLen; omega) hn (by simp; omega)
  rcases o'.2 with ⟨_, h0⟩ | ⟨G, C, cur, rfl, _⟩
  · omega
  · exact ⟨G, C, w', r, o', ((Kp.refl _ w).trans (Kp.of ((Below.refl _ w).alloc (Nat.le_refl _) _))).grown g (fun k hk _ => hk)⟩
/-- Under way. -/
def Sx (w w' : World) (es : Array MapEntry) (clk : Nat) (v : Value) (n : Nat) (xs : List Value) : Prop :=
  w'.heap[w.heap.size]? = some (.map es clk) ∧ w'.ownsRow (w.heap.size + 1) 26 2 v n xs ∧ Below w.heap.size w w'
theorem Sx.lt {w w' : World} {es : Array MapEntry} {clk : Nat} {v : Value} {n : Nat} {xs : List Value} (h : Sx w w' es clk v n xs) : w.heap.size < w'.heap.size := (Array.getElem?_eq_some_iff.1 h.1).1
theorem Sx.below {w w' w2 : World} {es : Array MapEntry} {clk : Nat} {v : Value} {n : Nat} {xs : List Value} (h : Sx w w' es clk v n xs) (b : Below w'.heap.size w' w2) : Sx w w2 es clk v n xs :=
  ⟨(b.block _ h.lt).trans h.1, (Kp.of (M := fun _ => False) b).row h.2.1 (fun _ _ => id), h.2.2.trans (b.mono h.2.2.size)⟩
theorem Sx.upd {w w' : World} {es : Array MapEntry} {clk : Nat} {v : Value} {n : Nat} {xs : List Value} (h : Sx w w' es clk v n xs) (es' : Array MapEntry) (c : Nat) : Sx w (upM w' w.heap.size (.map es' c)) es' c v n xs :=
  ⟨upM_at h.1, (upM_kp w' w.heap.size _).row h.2.1 (fun k e e' => by have := (own_bd h.2.1 k e).1; omega), h.2.2.trans ((upM_kp w' w.heap.size _).below h.2.2.size (fun k hk e => by omega))⟩
def xI (i : Nat) : Lb := if i = 0 then lB else lA
def esI : Nat → Array MapEntry
  | 0 => #[]
  | 1 => #[mE ⟨#[98]⟩ 0]
  | _ => #[mE ⟨#[98]⟩ 0, mE ⟨#[97]⟩ 1]
theorem esI_step (i : Nat) (h : i < 2) : (esI i).push (mE (xI i).1 i) = esI (i + 1) ∧ Instr.findNow .string (.string (xI i).1) (esI i).toList 0 = some none := by
  match i, h with
  | 0, _ => exact ⟨rfl, rfl⟩
  | 1, _ => exact ⟨rfl, rfl⟩
  | i + 2, h => omega
theorem xI_ok (i : Nat) : (∀ W, Calls Tryd.prog 27 #[.string (xI i).1] W fun e w' => e = .returned (.bool true) ∧ w' = W) ∧ (∀ W, Calls Tryd.prog 28 #[.string (xI i).2] W fun e w' => e = .returned (.bool true) ∧ Below W.heap.size W w') ∧ ((xI i).2.toList.isEmpty) = false ∧ (xI i).1.size = 1 ∧ (xI i).2.size = 1 := by
  unfold xI
  split
  · exact ⟨fun W => isLabel_1 98 W (by decide) (by decide), fun W => valid_1 50 W (by decide), by rw [Lib.toList_data]; rfl, rfl, rfl⟩
  · exact ⟨fun W => isLabel_1 97 W (by decide) (by decide), fun W => valid_1 49 W (by decide), by rw [Lib.toList_data]; rfl, rfl, rfl⟩
theorem pair_at {w : World} {B i : Nat} (h : C4 w B lB lA) (hi : i < 2) : w.cell? ⟨B, i * 2, none⟩ = some (.string (xI i).1) ∧ w.cell? ⟨B, i * 2 + 1, none⟩ = some (.string (xI i).2) := by
  match i, hi with
  | 0, _ => exact ⟨h.1, h.2.1⟩
  | 1, _ => exact ⟨h.2.2.1, h.2.2.2.1⟩
  | i + 2, hi => omega
set_option maxHeartbeats 8000000 in
set_option maxRecDepth 100000 in
theorem make2 (B c : Nat) (w : World) (h : C4 w B lB lA) : Calls Tryd.prog 10 #[.slice (some ⟨B, 0, none⟩) 2 c] w fun e w' => ∃ G d, e = .returned (.tuple #[.slice (some ⟨G, 0, none⟩) 2 d, .int .i64 0]) ∧ C4 w' G lA lB ∧ Below w.heap.size w w' := by
  have hmm := mk_run 2
  have HC : Hid (C4 w B lB lA) := h
  have HS0 : Hid (Sx w (w.alloc (.map #[] 0)) (esI 0) 0 (.slice none 0 0) 0 (lc xI 0)) := ⟨heap_alloc_new w _, World.ownsRow_nil _ _ _ _, (Below.refl _ w).alloc (Nat.le_refl _) _⟩
  clear h
  go_enter Tryd.func10, Tryd.ntmps10
  go_wp2_with fail
  clear hmm
  go_loopw [5, 15] (fun v t w' => ∃ (i : Nat) (a : Option Addr) (d : Nat), t = .int .i64 (i : Int) ∧ v = .slice a i d ∧ i ≤ 2 ∧ Hid (Sx w w' (esI i) i (.slice a i d) i (lc xI i))) (fun _ t _ => 2 - (RowKit.intOf t).toNat)
  case atStart => exact ⟨0, none, 0, rfl, rfl, by omega, HS0⟩
  case round =>
    obtain ⟨i, a, d, rfl, rfl, hi, HS⟩ := hrel
    by_cases hlt : i < 2
    · have hii : (i : Int) < 2 := by omega
      have hb0 : 0 ≤ (i : Int) ∧ (i : Int) < 2 := by omega
      obtain ⟨q0, q1⟩ := pair_at HC.out hlt
      have p0 := bcell2 HS.out.2.2 q0
      have p1 := bcell2 HS.out.2.2 q1
      obtain ⟨es1, es2⟩ := esI_step i hlt
      obtain ⟨k27, k28, hne, hz1, hz2⟩ := xI_ok i
      obtain ⟨x, hx⟩ : ∃ x, x = xI i := ⟨_, rfl⟩
      rw [← hx] at p0 p1 es1 es2 k27 k28 hne hz1 hz2
      have HX : Hid (lc xI (i + 1) = lc xI i ++ l2 x) := by unfold Hid; rw [lc_succ, hx]
      obtain ⟨x1, x2⟩ := x
      dsimp only at p0 p1 es1 es2 k27 k28 hne hz1 hz2
      have S1 := HS.out.below ((Below.refl _ wr).alloc (Nat.le_refl _) (lbX (x1, x2)))
      have hlk := look_run S1.1 es2
      have K27 : Hid (∀ W, Calls Tryd.prog 27 #[.string x1] W fun e w' => e = .returned (.bool true) ∧ w' = W) := k27
      have K28 : Hid (∀ W, Calls Tryd.prog 28 #[.string x2] W fun e w' => e = .returned (.bool true) ∧ Below W.heap.size W w') := k28
      have HE : Hid ((esI i).push (mE x1 i) = esI (i + 1) ∧ Instr.findNow .string (.string x1) (esI i).toList 0 = some none) := ⟨es1, es2⟩
      have HZ : Hid (x1.size = 1 ∧ x2.size = 1) := ⟨hz1, hz2⟩
      clear q0 q1 es1 es2 k27 k28 hz1 hz2 hx
      go_wp2_with fail
      go_fit (K27.out _)
      rintro e w2 ⟨rfl, rfl⟩
      have S2 := S1.below ((Below.refl _ (wr.alloc (lbX (x1, x2)))).alloc (Nat.le_refl _) (.cells #[] 62))
      have ba : Below wr.heap.size wr (wr.alloc (lbX (x1, x2))) := (Below.refl _ wr).alloc (Nat.le_refl _) _
      have e1 : (wr.alloc (lbX (x1, x2))).heap[wr.heap.size]? = some (lbX (x1, x2)) := heap_alloc_new wr _
      have hlx : wr.heap.size < (wr.alloc (lbX (x1, x2))).heap.size := by simp
      have HBX : Hid (∀ w', Below ((wr.alloc (lbX (x1, x2))).alloc (.cells #[] 62)).heap.size ((wr.alloc (lbX (x1, x2))).alloc (.cells #[] 62)) w' → w'.cell? ⟨wr.heap.size, 0, none⟩ = some (.string x1) ∧ w'.cell? ⟨wr.heap.size, 1, none⟩ = some (.string x2)) := fun w' b => by
        have b2 : Below (wr.alloc (lbX (x1, x2))).heap.size (wr.alloc (lbX (x1, x2))) ((wr.alloc (lbX (x1, x2))).alloc (.cells #[] 62)) := (Below.refl _ _).alloc (Nat.le_refl _) _
        have b3 := b2.trans (b.mono b2.size)
        exact ⟨bcell2 b3 (by unfold World.cell?; rw [e1]; rfl), bcell2 b3 (by unfold World.cell?; rw [e1]; rfl)⟩
      have HMl : Hid (w.heap.size < wr.heap.size) := HS.out.lt
      clear hlk p0 p1 e1 S1
      go_wp2_with fail
      go_fit (K28.out _)
      rintro e w3 ⟨rfl, b3⟩
      have S3 := S2.below b3
      obtain ⟨c0, c1⟩ := HBX.out w3 b3
      have hup := upd_run S3.1 HE.out.2
      rw [HE.out.1] at hup
      have S4 := S3.upd (esI (i + 1)) (i + 1)
      have kp4 := upM_kp w3 w.heap.size (.map (esI (i + 1)) (i + 1))
      have hne4 : ¬ wr.heap.size = w.heap.size := by have := HMl.out; omega
      have d0 : (upM w3 w.heap.size (.map (esI (i + 1)) (i + 1))).cell? ⟨wr.heap.size, 0, none⟩ = some (.string x1) := by
        rw [World.cell?_of_block (w := w3) (kp4.block wr.heap.size (World.block_lt_of_cell? w3 _ c0) hne4)]; exact c0
      have d1 : (upM w3 w.heap.size (.map (esI (i + 1)) (i + 1))).cell? ⟨wr.heap.size, 1, none⟩ = some (.string x2) := by
        rw [World.cell?_of_block (w := w3) (kp4.block wr.heap.size (World.block_lt_of_cell? w3 _ c0) hne4)]; exact c1
      have HS4 : Hid (Sx w (upM w3 w.heap.size (.map (esI (i + 1)) (i + 1))) (esI (i + 1)) (i + 1) (.slice a i d) i (lc xI i)) := S4
      clear S2 S3 S4 b3 ba hlx HBX kp4 HE hne4
      generalize upM w3 w.heap.size (.map (esI (i + 1)) (i + 1)) = W4 at *
      have k29 := copied_any (x1, x2) W4 (by show x1.size ≤ _; have := HZ.out.1; omega) (by show x2.size ≤ _; have := HZ.out.2; omega)
      go_wp2_with fail
      go_fit k29
      rintro e w5 ⟨rfl, b5⟩
      have S5 := HS4.out.below b5
      obtain ⟨G, cc, w6, r, o6, kp6⟩ := ap_lb w5 (w.heap.size + 1) (.slice a i d) i (lc xI i) (x1, x2) (by have := S5.lt; omega) (by omega) S5.2.1
      have HS6 : Hid (Sx w w6 (esI (i + 1)) (i + 1) (.slice (some ⟨G, 0, none⟩) (i + 1) cc) (i + 1) (lc xI (i + 1))) := by
        have hbd := own_bd S5.2.1
        refine ⟨(kp6.block _ S5.lt (fun e => by have := (hbd _ e).1; omega)).trans S5.1, ?_, S5.2.2.trans (kp6.below S5.2.2.size (fun k hk e => by have := (hbd k e).1; omega))⟩
        rw [HX.out]
        exact o6
      clear k29 b5 S5 o6 kp6 c0 c1 d0 d1 HS4 HS hup
      go_wp2_with (at_builtin; refine wpList_append_run rfl (.tmp 44) (.tmp 47) 22 22 rfl _ _ rfl rfl r ?_)
      exact ⟨⟨i + 1, _, _, by go_num, rfl, by omega, HS6⟩, by simp [RowKit.intOf]; omega⟩
    · have hii : ¬ (i : Int) < 2 := by omega
      obtain rfl : i = 2 := by omega
      obtain ⟨sm, so, sb⟩ := HS.out
      rcases so.2 with ⟨_, h0⟩ | ⟨G, cap, cur, e, hG, hh, _⟩
      · omega
      · cases e
        have hc4 : C4 wr G lB lA := by
          have q : ∀ k u, (lc xI 2)[k]? = some u → k < 4 → wr.cell? ⟨G, k, none⟩ = some u := fun k u hk hl => by
            have := World.ownsRow.cellAt so k (by omega)
            rw [this]
            exact hk
          exact ⟨q 0 _ rfl (by omega), q 1 _ rfl (by omega), q 2 _ rfl (by omega), q 3 _ rfl (by omega), fun o => by unfold World.frozen?; rw [hh]; simp⟩
        have ks := sort2 G d lB lA wr hc4 rfl
        have HB : Hid (∀ w', Kp (· = G) wr w' → Below w.heap.size w w') := fun w' k => sb.trans (k.below sb.size (fun i hi e => by omega))
        clear sm so sb hh hc4 HS
        go_wp2_with fail
        go_fit ks
        rintro e w7 ⟨rfl, h7, k7⟩
        have HF : Hid (C4 w7 G lA lB ∧ Below w.heap.size w w7) := ⟨h7, HB.out w7 k7⟩
        clear ks h7 k7 HB
        go_wp2
        go_ret2
        exact ⟨G, d, rfl, HF.out⟩
end Go.Proofs.YtjmninjaoemhjaaDoor
