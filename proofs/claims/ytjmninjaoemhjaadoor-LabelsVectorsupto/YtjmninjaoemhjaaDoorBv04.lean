/- A bundle of texts. -/
import Derived.Test.YtjmninjaoemhjaaDoorBv03
import Derived.Carry
import Derived.WideMake
import Derived.Test.YtjmninjaoemhjaaDoorBv01
/- Labels: Make of two labels. -/
namespace Go.Proofs.YtjmninjaoemhjaaDoor
open Go.RowKit Go.Lib

abbrev lB : Lb := (⟨#[98]⟩, ⟨#[50]⟩)
abbrev lA : Lb := (⟨#[97]⟩, ⟨#[49]⟩)
abbrev mE (k : ByteArray) (b : Nat) : MapEntry := { key := .string k, val := .agg #[], born := b }
def upM (w : World) (r : Nat) (o : Obj) : World := { w with heap := w.heap.setIfInBounds r o }
theorem upM_kp (w : World) (r : Nat) (o : Obj) : Kp (· = r) w (upM w r o) := ⟨rfl, rfl, rfl, by simp [upM], fun k _ hm => by
  show (w.heap.setIfInBounds r o)[k]? = w.heap[k]?
  rw [Array.getElem?_setIfInBounds_ne (fun e => hm e.symm)]⟩
theorem upM_at {w : World} {r : Nat} {o p : Obj} (h : w.heap[r]? = some p) : (upM w r o).heap[r]? = some o := by
  show (w.heap.setIfInBounds r o)[r]? = some o
  rw [Array.getElem?_setIfInBounds_self_of_lt (Array.getElem?_eq_some_iff.1 h).1]
theorem mk_run (n : Int) (w : World) : (Instr.makeMap 61 (some (.int .i64 n))).run Tryd.prog w = .ok (.map (some w.heap.size)) (w.alloc (.map #[] 0)) := by
  simp [Instr.makeMap, run_underlying Tryd.underlying61, asInt, asIntOf, Result.andThen]
theorem look_run {w : World} {r clock : Nat} {es : Array MapEntry} {k : ByteArray} (hb : w.heap[r]? = some (.map es clock)) (hf : Instr.findNow .string (.string k) es.toList 0 = some none) :
    (Instr.lookup 61 (.map (some r)) (.string k) true).run Tryd.prog w = .ok (.tuple #[.agg #[], .bool false]) w := by
  have hc : ∀ b, (Instr.checkKey b 10000 9 (.string k)).run Tryd.prog w = .ok () w := fun b => MapKept.run_checkKey (k := .string k) Tryd.underlying9 (by simp [MapKept.IsKey]) b 9999
  simp [Instr.lookup, run_underlying Tryd.underlying61, MapKept.run_getObj_map hb, hc, MapKept.run_findKey Tryd.underlying9 hf, Tryd.zeroValue62, Result.andThen]
theorem upd_run {w : World} {r clock : Nat} {es : Array MapEntry} {k : ByteArray} (hb : w.heap[r]? = some (.map es clock)) (hf : Instr.findNow .string (.string k) es.toList 0 = some none) :
    (Instr.mapUpdate 61 (.map (some r)) (.string k) (.agg #[])).run Tryd.prog w = .ok () (upM w r (.map (es.push (mE k clock)) (clock + 1))) := by
  have hc : (Instr.checkKey false 10000 9 (.string k)).run Tryd.prog w = .ok () w := MapKept.run_checkKey (k := .string k) Tryd.underlying9 (by simp [MapKept.IsKey]) false 9999
  simp [Instr.mapUpdate, run_underlying Tryd.underlying61, MapKept.run_getObj_map hb, hc, MapKept.run_findKey Tryd.underlying9 hf, MapKept.run_setObj_map _ hb, Result.andThen]
  rfl
/-- An append whose run is known. -/
theorem wpList_append_run {P : Program} {ops : Array Oper} {rest : List Oper} {o : Oper} {a : Act} {w w' : World} {v' : Value} {Q : Exit → Act → World → Prop} (hw : Region.wanted o (yielded ops a.tmps) = true) (s x : Operand) (t tx : TypeId)
    (ho : o.op = .call { callee := .builtin .append, args := #[s, x], argTypes := #[t, tx] }) (vs vx : Value) (hs : a.eval s = vs) (hx : a.eval x = vx)
    (hr : (Builtin.append_ #[t, tx] o.type #[vs, vx]).run P w = .ok v' w') (h : wpList P ops Q rest (a.put o.dst v') w') : wpList P ops Q (o :: rest) a w := by
  unfold wpList
  rw [if_pos hw]
  left
  unfold Oper.wp execOp
  simp only [ho, resolve, invoke, builtin, Sem.run_bind, Sem.run_pure, Result.andThen_ok, List.map_toArray, List.map_cons, List.map_nil, hs, hx, hr]
  exact h
/-- One label behind a row of one's own. -/
theorem ap_lb (w : World) (S : Nat) (v : Value) (n : Nat) (xs : List Value) (x : Lb) (hS : S ≤ w.heap.size) (hn : (n + 1) * 32 ≤ 140737488355328) (o : w.ownsRow S 26 2 v n xs) :
    ∃ g c w', (Builtin.append_ #[22, 22] 22 #[v, .slice (some ⟨w.heap.size, 0, none⟩) 1 1]).run Tryd.prog (w.alloc (lbX x)) = .ok (.slice (some ⟨g, 0, none⟩) (n + 1) c) w' ∧ w'.ownsRow S 26 2 (.slice (some ⟨g, 0, none⟩) (n + 1) c) (n + 1) (xs ++ l2 x) ∧ Kp (fun k => v.ownBlock = some k) w w' := by
  obtain ⟨i0, hi, hz0, hz1, hz2⟩ := info_parts infL
  have o0 := World.ownsRow.alloc o (lbX x)
  have e : (w.alloc (lbX x)).heap[w.heap.size]? = some (lbX x) := heap_alloc_new w _
  obtain ⟨v', w', r, o', g, _, _⟩ := run_append_own_at (P := Tryd.prog) (w.alloc (lbX x)) S 22 22 26 i0 _ 2 32 Tryd.underlying22 hi hz0 hz1 hz2 rfl (by decide) _ n xs o0 ⟨w.heap.size, 0, none⟩ 1 1 (l2 x) (by rfl)
    (fun j u hj => by
      rw [Go.WideShapes.add_plain, Nat.zero_add]
      unfold World.cell?
      rw [e]
      simpa [l2] using hj) (by intro u hu; simp [l2] at hu; rcases hu with rfl | rfl <;> rfl) (by unfold maxLen; omega) hn (by simp; omega)
  rcases o'.2 with ⟨_, h0⟩ | ⟨G, C, cur, rfl, _⟩
  · omega
  · exact ⟨G, C, w', r, o', ((Kp.refl _ w).trans (Kp.of ((Below.refl _ w).alloc (Nat.le_refl _) _))).grown g (fun k hk _ => hk)⟩
/-- Under way. -/
def Sx (w w' : World) (es : Array MapEntry) (clk : Nat) (v : Value) (n : Nat) (xs : List Value) : Prop :=
  w'.heap[w.heap.size]? = some (.map es clk) ∧ w'.ownsRow (w.heap.size + 1) 26 2 v n xs ∧ Below w.heap.size w w'
theorem Sx.lt {w w' : World} {es : Array MapEntry} {clk : Nat} {v : Value} {n : Nat} {xs : List Value} (h : Sx w w' es clk v n xs) : w.heap.size < w'.heap.size := (Array.getElem?_eq_some_iff.1 h.1).1
theorem Sx.below {w w' w2 : World} {es : Array MapEntry} {clk : Nat} {v : Value} {n : Nat} {xs : List Value} (h : Sx w w' es clk v n xs) (b : Below w'.heap.size w' w2) : Sx w w2 es clk v n xs :=
  ⟨(b.block _ h.lt).trans h.1, (Kp.of (M := fun _ => False) b).row h.2.1 (fun _ _ => id), h.2.2.trans (b.mono h.2.2.size)⟩
theorem Sx.upd {w w' : World} {es : Array MapEntry} {clk : Nat} {v : Value} {n : Nat} {xs : List Value} (h : Sx w w' es clk v n xs) (es' : Array MapEntry) (c : Nat) : Sx w (upM w' w.heap.size (.map es' c)) es' c v n xs :=
  ⟨upM_at h.1, (upM_kp w' w.heap.size _).row h.2.1 (fun k e e' => by have := (own_bd h.2.1 k e).1; omega), h.2.2.trans ((upM_kp w' w.heap.size _).below h.2.2.size (fun k hk e => by omega))⟩
def xI (i : Nat) : Lb := if i = 0 then lB else lA
def esI : Nat → Array MapEntry
  | 0 => #[]
  | 1 => #[mE ⟨#[98]⟩ 0]
  | _ => #[mE ⟨#[98]⟩ 0, mE ⟨#[97]⟩ 1]
theorem esI_step (i : Nat) (h : i < 2) : (esI i).push (mE (xI i).1 i) = esI (i + 1) ∧ Instr.findNow .string (.string (xI i).1) (esI i).toList 0 = some none := by
  match i, h with
  | 0, _ => exact ⟨rfl, rfl⟩
  | 1, _ => exact ⟨rfl, rfl⟩
  | i + 2, h => omega
theorem xI_ok (i : Nat) : (∀ W, Calls Tryd.prog 27 #[.string (xI i).1] W fun e w' => e = .returned (.bool true) ∧ w' = W) ∧ (∀ W, Calls Tryd.prog 28 #[.string (xI i).2] W fun e w' => e = .returned (.bool true) ∧ Below W.heap.size W w') ∧ ((xI i).2.toList.isEmpty) = false ∧ (xI i).1.size = 1 ∧ (xI i).2.size = 1 := by
  unfold xI
  split
  · exact ⟨fun W => isLabel_1 98 W (by decide) (by decide), fun W => valid_1 50 W (by decide), by rw [Lib.toList_data]; rfl, rfl, rfl⟩
  · exact ⟨fun W => isLabel_1 97 W (by decide) (by decide), fun W => valid_1 49 W (by decide), by rw [Lib.toList_data]; rfl, rfl, rfl⟩
theorem pair_at {w : World} {B i : Nat} (h : C4 w B lB lA) (hi : i < 2) : w.cell? ⟨B, i * 2, none⟩ = some (.string (xI i).1) ∧ w.cell? ⟨B, i * 2 + 1, none⟩ = some (.string (xI i).2) := by
  match i, hi with
  | 0, _ => exact ⟨h.1, h.2.1⟩
  | 1, _ => exact ⟨h.2.2.1, h.2.2.2.1⟩
  | i + 2, hi => omega
set_option maxHeartbeats 8000000 in
set_option maxRecDepth 100000 in
theorem make2 (B c : Nat) (w : World) (h : C4 w B lB lA) : Calls Tryd.prog 10 #[.slice (some ⟨B, 0, none⟩) 2 c] w fun e w' => ∃ G d, e = .returned (.tuple #[.slice (some ⟨G, 0, none⟩) 2 d, .int .i64 0]) ∧ C4 w' G lA lB ∧ Below w.heap.size w w' := by
  have hmm := mk_run 2
  have HC : Hid (C4 w B lB lA) := h
  have HS0 : Hid (Sx w (w.alloc (.map #[] 0)) (esI 0) 0 (.slice none 0 0) 0 (lc xI 0)) := ⟨heap_alloc_new w _, World.ownsRow_nil _ _ _ _, (Below.refl _ w).alloc (Nat.le_refl _) _⟩
  clear h
  go_enter Tryd.func10, Tryd.ntmps10
  go_wp2_with fail
  clear hmm
  go_loopw [5, 15] (fun v t w' => ∃ (i : Nat) (a : Option Addr) (d : Nat), t = .int .i64 (i : Int) ∧ v = .slice a i d ∧ i ≤ 2 ∧ Hid (Sx w w' (esI i) i (.slice a i d) i (lc xI i))) (fun _ t _ => 2 - (RowKit.intOf t).toNat)
  case atStart => exact ⟨0, none, 0, rfl, rfl, by omega, HS0⟩
  case round =>
    obtain ⟨i, a, d, rfl, rfl, hi, HS⟩ := hrel
    by_cases hlt : i < 2
    · have hii : (i : Int) < 2 := by omega
      have hb0 : 0 ≤ (i : Int) ∧ (i : Int) < 2 := by omega
      obtain ⟨q0, q1⟩ := pair_at HC.out hlt
      have p0 := bcell2 HS.out.2.2 q0
      have p1 := bcell2 HS.out.2.2 q1
      obtain ⟨es1, es2⟩ := esI_step i hlt
      obtain ⟨k27, k28, hne, hz1, hz2⟩ := xI_ok i
      obtain ⟨x, hx⟩ : ∃ x, x = xI i := ⟨_, rfl⟩
      rw [← hx] at p0 p1 es1 es2 k27 k28 hne hz1 hz2
      have HX : Hid (lc xI (i + 1) = lc xI i ++ l2 x) := by unfold Hid; rw [lc_succ, hx]
      obtain ⟨x1, x2⟩ := x
      dsimp only at p0 p1 es1 es2 k27 k28 hne hz1 hz2
      have S1 := HS.out.below ((Below.refl _ wr).alloc (Nat.le_refl _) (lbX (x1, x2)))
      have hlk := look_run S1.1 es2
      have K27 : Hid (∀ W, Calls Tryd.prog 27 #[.string x1] W fun e w' => e = .returned (.bool true) ∧ w' = W) := k27
      have K28 : Hid (∀ W, Calls Tryd.prog 28 #[.string x2] W fun e w' => e = .returned (.bool true) ∧ Below W.heap.size W w') := k28
      have HE : Hid ((esI i).push (mE x1 i) = esI (i + 1) ∧ Instr.findNow .string (.string x1) (esI i).toList 0 = some none) := ⟨es1, es2⟩
      have HZ : Hid (x1.size = 1 ∧ x2.size = 1) := ⟨hz1, hz2⟩
      clear q0 q1 es1 es2 k27 k28 hz1 hz2 hx
      go_wp2_with fail
      go_fit (K27.out _)
      rintro e w2 ⟨rfl, rfl⟩
      have S2 := S1.below ((Below.refl _ (wr.alloc (lbX (x1, x2)))).alloc (Nat.le_refl _) (.cells #[] 62))
      have ba : Below wr.heap.size wr (wr.alloc (lbX (x1, x2))) := (Below.refl _ wr).alloc (Nat.le_refl _) _
      have e1 : (wr.alloc (lbX (x1, x2))).heap[wr.heap.size]? = some (lbX (x1, x2)) := heap_alloc_new wr _
      have hlx : wr.heap.size < (wr.alloc (lbX (x1, x2))).heap.size := by simp
      have HBX : Hid (∀ w', Below ((wr.alloc (lbX (x1, x2))).alloc (.cells #[] 62)).heap.size ((wr.alloc (lbX (x1, x2))).alloc (.cells #[] 62)) w' → w'.cell? ⟨wr.heap.size, 0, none⟩ = some (.string x1) ∧ w'.cell? ⟨wr.heap.size, 1, none⟩ = some (.string x2)) := fun w' b => by
        have b2 : Below (wr.alloc (lbX (x1, x2))).heap.size (wr.alloc (lbX (x1, x2))) ((wr.alloc (lbX (x1, x2))).alloc (.cells #[] 62)) := (Below.refl _ _).alloc (Nat.le_refl _) _
        have b3 := b2.trans (b.mono b2.size)
        exact ⟨bcell2 b3 (by unfold World.cell?; rw [e1]; rfl), bcell2 b3 (by unfold World.cell?; rw [e1]; rfl)⟩
      have HMl : Hid (w.heap.size < wr.heap.size) := HS.out.lt
      clear hlk p0 p1 e1 S1
      go_wp2_with fail
      go_fit (K28.out _)
      rintro e w3 ⟨rfl, b3⟩
      have S3 := S2.below b3
      obtain ⟨c0, c1⟩ := HBX.out w3 b3
      have hup := upd_run S3.1 HE.out.2
      rw [HE.out.1] at hup
      have S4 := S3.upd (esI (i + 1)) (i + 1)
      have kp4 := upM_kp w3 w.heap.size (.map (esI (i + 1)) (i + 1))
      have hne4 : ¬ wr.heap.size = w.heap.size := by have := HMl.out; omega
      have d0 : (upM w3 w.heap.size (.map (esI (i + 1)) (i + 1))).cell? ⟨wr.heap.size, 0, none⟩ = some (.string x1) := by
        rw [World.cell?_of_block (w := w3) (kp4.block wr.heap.size (World.block_lt_of_cell? w3 _ c0) hne4)]; exact c0
      have d1 : (upM w3 w.heap.size (.map (esI (i + 1)) (i + 1))).cell? ⟨wr.heap.size, 1, none⟩ = some (.string x2) := by
        rw [World.cell?_of_block (w := w3) (kp4.block wr.heap.size (World.block_lt_of_cell? w3 _ c0) hne4)]; exact c1
      have HS4 : Hid (Sx w (upM w3 w.heap.size (.map (esI (i + 1)) (i + 1))) (esI (i + 1)) (i + 1) (.slice a i d) i (lc xI i)) := S4
      clear S2 S3 S4 b3 ba hlx HBX kp4 HE hne4
      generalize upM w3 w.heap.size (.map (esI (i + 1)) (i + 1)) = W4 at *
      have k29 := copied_any (x1, x2) W4 (by show x1.size ≤ _; have := HZ.out.1; omega) (by show x2.size ≤ _; have := HZ.out.2; omega)
      go_wp2_with fail
      go_fit k29
      rintro e w5 ⟨rfl, b5⟩
      have S5 := HS4.out.below b5
      obtain ⟨G, cc, w6, r, o6, kp6⟩ := ap_lb w5 (w.heap.size + 1) (.slice a i d) i (lc xI i) (x1, x2) (by have := S5.lt; omega) (by omega) S5.2.1
      have HS6 : Hid (Sx w w6 (esI (i + 1)) (i + 1) (.slice (some ⟨G, 0, none⟩) (i + 1) cc) (i + 1) (lc xI (i + 1))) := by
        have hbd := own_bd S5.2.1
        refine ⟨(kp6.block _ S5.lt (fun e => by have := (hbd _ e).1; omega)).trans S5.1, ?_, S5.2.2.trans (kp6.below S5.2.2.size (fun k hk e => by have := (hbd k e).1; omega))⟩
        rw [HX.out]
        exact o6
      clear k29 b5 S5 o6 kp6 c0 c1 d0 d1 HS4 HS hup
      go_wp2_with (at_builtin; refine wpList_append_run rfl (.tmp 44) (.tmp 47) 22 22 rfl _ _ rfl rfl r ?_)
      exact ⟨⟨i + 1, _, _, by go_num, rfl, by omega, HS6⟩, by simp [RowKit.intOf]; omega⟩
    · have hii : ¬ (i : Int) < 2 := by omega
      obtain rfl : i = 2 := by omega
      obtain ⟨sm, so, sb⟩ := HS.out
      rcases so.2 with ⟨_, h0⟩ | ⟨G, cap, cur, e, hG, hh, _⟩
      · omega
      · cases e
        have hc4 : C4 wr G lB lA := by
          have q : ∀ k u, (lc xI 2)[k]? = some u → k < 4 → wr.cell? ⟨G, k, none⟩ = some u := fun k u hk hl => by
            have := World.ownsRow.cellAt so k (by omega)
            rw [this]
            exact hk
          exact ⟨q 0 _ rfl (by omega), q 1 _ rfl (by omega), q 2 _ rfl (by omega), q 3 _ rfl (by omega), fun o => by unfold World.frozen?; rw [hh]; simp⟩
        have ks := sort2 G d lB lA wr hc4 rfl
        have HB : Hid (∀ w', Kp (· = G) wr w' → Below w.heap.size w w') := fun w' k => sb.trans (k.below sb.size (fun i hi e => by omega))
        clear sm so sb hh hc4 HS
        go_wp2_with fail
        go_fit ks
        rintro e w7 ⟨rfl, h7, k7⟩
        have HF : Hid (C4 w7 G lA lB ∧ Below w.heap.size w w7) := ⟨h7, HB.out w7 k7⟩
        clear ks h7 k7 HB
        go_wp2
        go_ret2
        exact ⟨G, d, rfl, HF.out⟩
end Go.Proofs.YtjmninjaoemhjaaDoor
/- Labels: Make of any pairs, over any contract of the sort. -/
namespace Go.Proofs.YtjmninjaoemhjaaDoor
open Go.RowKit Go.Lib

def lcL (ls : List Lb) : List Value := ls.flatMap l2
/-- The labels with a value. -/
def sel (f : Nat → Lb) : Nat → List Lb
  | 0 => []
  | n + 1 => sel f n ++ (if (f n).2.toList.isEmpty then [] else [f n])
theorem sel_len (f : Nat → Lb) : ∀ n, (sel f n).length ≤ n
  | 0 => Nat.le_refl _
  | n + 1 => by
    have := sel_len f n
    unfold sel
    rw [List.length_append]
    split
    · simp; omega
    · simp; omega
/-- The names told so far. -/
def esN (f : Nat → Lb) : Nat → Array MapEntry
  | 0 => #[]
  | n + 1 => (esN f n).push (mE (f n).1 n)
theorem same_str (a b : ByteArray) : Instr.sameNow .string (.string a) (.string b) = some (a == b) := rfl
theorem find_app (k : ByteArray) : ∀ (l : List MapEntry) (e : MapEntry) (i : Nat), Instr.findNow .string (.string k) l i = some none → Instr.sameNow .string (.string k) e.key = some false → Instr.findNow .string (.string k) (l ++ [e]) i = some none
  | [], e, i, _, h => by
    show (match Instr.sameNow .string (.string k) e.key with | some true => some (some (i, e.val)) | some false => Instr.findNow .string (.string k) [] (i + 1) | none => none) = _
    rw [h]
    rfl
  | x :: l, e, i, h0, h => by
    unfold Instr.findNow at h0
    show (match Instr.sameNow .string (.string k) x.key with | some true => some (some (i, x.val)) | some false => Instr.findNow .string (.string k) (l ++ [e]) (i + 1) | none => none) = _
    split at h0
    · cases h0
    · rename_i hx
      rw [hx]
      exact find_app k l e (i + 1) h0 h
    · cases h0
theorem find_hit (k : ByteArray) (P : MapEntry → Prop) (hP : ∀ e, P e → ∃ b, Instr.sameNow .string (.string k) e.key = some b ∧ e.val = .agg #[]) : ∀ (l : List MapEntry) (i : Nat), (∀ e ∈ l, P e) → Instr.findNow .string (.string k) l i = some none ∨ ∃ j, Instr.findNow .string (.string k) l i = some (some (j, .agg #[]))
  | [], _, _ => .inl rfl
  | x :: l, i, h => by
    obtain ⟨b, hb, hv⟩ := hP x (h x (by simp))
    unfold Instr.findNow
    rw [hb]
    cases b
    · exact find_hit k P hP l (i + 1) (fun e he => h e (by simp [he]))
    · exact .inr ⟨i, by rw [hv]⟩
theorem find_eq (k : ByteArray) : ∀ (l : List MapEntry) (i : Nat), Instr.findNow .string (.string k) l i = some none → ∀ e ∈ l, Instr.sameNow .string (.string k) e.key = some false
  | x :: l, i, h, e, he => by
    unfold Instr.findNow at h
    split at h
    · cases h
    · rename_i hx
      rcases List.mem_cons.1 he with rfl | he
      · exact hx
      · exact find_eq k l (i + 1) h e he
    · cases h
theorem esN_mem (f : Nat → Lb) : ∀ n e, e ∈ (esN f n).toList → ∃ j, j < n ∧ e = mE (f j).1 j
  | n + 1, e, h => by
    unfold esN at h
    rw [Array.toList_push] at h
    rcases List.mem_append.1 h with h | h
    · obtain ⟨j, hj, he⟩ := esN_mem f n e h
      exact ⟨j, by omega, he⟩
    · exact ⟨n, by omega, by simpa using h⟩
theorem esN_has (f : Nat → Lb) : ∀ n j, j < n → mE (f j).1 j ∈ (esN f n).toList
  | n + 1, j, h => by
    unfold esN
    rw [Array.toList_push]
    rcases Nat.lt_or_ge j n with h1 | h1
    · exact List.mem_append.2 (.inl (esN_has f n j h1))
    · obtain rfl : j = n := by omega
      simp
/-- A name is found just where it was told. -/
theorem seen (f : Nat → Lb) (n : Nat) (k : ByteArray) : (Instr.findNow .string (.string k) (esN f n).toList 0 = some none ∧ ∀ j, j < n → (k == (f j).1) = false) ∨ ∃ j, Instr.findNow .string (.string k) (esN f n).toList 0 = some (some (j, .agg #[])) := by
  rcases find_hit k (fun e => ∃ j, j < n ∧ e = mE (f j).1 j) (fun e he => by obtain ⟨j, _, rfl⟩ := he; exact ⟨_, same_str k (f j).1, rfl⟩) (esN f n).toList 0 (esN_mem f n) with h | h
  · refine .inl ⟨h, fun j hj => ?_⟩
    have := find_eq k _ 0 h _ (esN_has f n j hj)
    rw [same_str] at this
    exact Option.some.inj this
  · exact .inr h
theorem look_yes {w : World} {r clock j : Nat} {es : Array MapEntry} {k : ByteArray} (hb : w.heap[r]? = some (.map es clock)) (hf : Instr.findNow .string (.string k) es.toList 0 = some (some (j, .agg #[]))) :
    (Instr.lookup 61 (.map (some r)) (.string k) true).run Tryd.prog w = .ok (.tuple #[.agg #[], .bool true]) w := by
  have hc : ∀ b, (Instr.checkKey b 10000 9 (.string k)).run Tryd.prog w = .ok () w := fun b => MapKept.run_checkKey (k := .string k) Tryd.underlying9 (by simp [MapKept.IsKey]) b 9999
  simp [Instr.lookup, run_underlying Tryd.underlying61, MapKept.run_getObj_map hb, hc, MapKept.run_findKey Tryd.underlying9 hf, Result.andThen]
/-- What is known of the pairs ahead of a place. -/
def Gd (f : Nat → Lb) (n : Nat) : Prop := ∀ j, j < n → lbN (f j).1 = true ∧ vld (f j).2 (f j).2.size 0 = true ∧ ∀ k, k < j → ((f j).1 == (f k).1) = false
/-- What is wanted of the sort. -/
def SortC : Prop := ∀ (W : World) (S : Nat) (v : Value) (ks : List Lb), ks.length ≤ 1099511627776 → W.ownsRow S 26 2 v ks.length (lcL ks) → Calls Tryd.prog 30 #[v, .func (.func 31) #[] #[]] W fun e W' => e = .returned (.tuple #[]) ∧ ∃ ks' : List Lb, ks'.Perm ks ∧ ks'.Pairwise (fun x y => Op.bytesLess y.1.toList x.1.toList = false) ∧ W'.ownsRow S 26 2 v ks'.length (lcL ks') ∧ Kp (fun b => v.ownBlock = some b) W W'
/-- What Make answers. -/
def MkR (f : Nat → Lb) (n : Nat) (w : World) (e : Ending) (w' : World) : Prop := ∃ v E, e = .returned (.tuple #[v, .int .i64 E]) ∧ Below w.heap.size w w' ∧ ((E ≠ 0 ∧ v = .slice none 0 0) ∨ (E = 0 ∧ Gd f n ∧ ∃ ks : List Lb, ks.Perm (sel f n) ∧ ks.Pairwise (fun x y => Op.bytesLess y.1.toList x.1.toList = false) ∧ w'.ownsRow (w.heap.size + 1) 26 2 v ks.length (lcL ks)))
end Go.Proofs.YtjmninjaoemhjaaDoor
/- Labels: the order of lists is an order. -/
namespace Go.Proofs.YtjmninjaoemhjaaDoor
open Go.RowKit

/-- What an order answers. -/
structure Od {α : Type} (c : α → α → Int) : Prop where
  rng : ∀ x y, c x y = -1 ∨ c x y = 0 ∨ c x y = 1
  anti : ∀ x y, c y x = - c x y
  eq : ∀ x y, c x y = 0 ↔ x = y
  lt : ∀ x y z, c x y ≤ 0 → c y z ≤ 0 → c x z ≤ 0
/-- Lists, by the first difference. -/
def lx {α : Type} (c : α → α → Int) : List α → List α → Int
  | [], [] => 0
  | [], _ :: _ => -1
  | _ :: _, [] => 1
  | x :: l, y :: m => if c x y = 0 then lx c l m else c x y
theorem lx_rng {α : Type} {c : α → α → Int} (h : Od c) : ∀ x y, lx c x y = -1 ∨ lx c x y = 0 ∨ lx c x y = 1
  | [], [] => .inr (.inl rfl)
  | [], _ :: _ => .inl rfl
  | _ :: _, [] => .inr (.inr rfl)
  | x :: l, y :: m => by
    unfold lx
    split
    · exact lx_rng h l m
    · exact h.rng x y
theorem lx_anti {α : Type} {c : α → α → Int} (h : Od c) : ∀ x y, lx c y x = - lx c x y
  | [], [] => rfl
  | [], _ :: _ => rfl
  | _ :: _, [] => rfl
  | x :: l, y :: m => by
    have e := h.anti x y
    unfold lx
    by_cases h0 : c x y = 0
    · rw [if_pos (by omega), if_pos h0]
      exact lx_anti h l m
    · rw [if_neg (by omega), if_neg h0, e]
theorem lx_eq {α : Type} {c : α → α → Int} (h : Od c) : ∀ x y, lx c x y = 0 ↔ x = y
  | [], [] => by simp [lx]
  | [], _ :: _ => by simp [lx]
  | _ :: _, [] => by simp [lx]
  | x :: l, y :: m => by
    have e := h.eq x y
    have ih := lx_eq h l m
    unfold lx
    by_cases h0 : c x y = 0
    · rw [if_pos h0, ih, List.cons.injEq]
      exact ⟨fun k => ⟨e.1 h0, k⟩, fun k => k.2⟩
    · rw [if_neg h0, List.cons.injEq]
      exact ⟨fun k => absurd k h0, fun k => absurd (e.2 k.1) h0⟩
theorem lx_lt {α : Type} {c : α → α → Int} (h : Od c) : ∀ x y z, lx c x y ≤ 0 → lx c y z ≤ 0 → lx c x z ≤ 0
  | [], _, [], _, _ => by simp [lx]
  | [], _, _ :: _, _, _ => by simp [lx]
  | _ :: _, [], _, h1, _ => by simp [lx] at h1
  | _ :: _, _ :: _, [], _, h2 => by simp [lx] at h2
  | x :: l, y :: m, z :: n, h1, h2 => by
    unfold lx at h1 h2 ⊢
    have t := h.lt x y z
    by_cases a : c x y = 0
    · rw [if_pos a] at h1
      obtain rfl := (h.eq x y).1 a
      by_cases b : c x z = 0
      · rw [if_pos b] at h2 ⊢
        exact lx_lt h l m n h1 h2
      · rw [if_neg b] at h2 ⊢
        exact h2
    · rw [if_neg a] at h1
      by_cases b : c y z = 0
      · obtain rfl := (h.eq y z).1 b
        rw [if_neg a]
        exact h1
      · rw [if_neg b] at h2
        have t2 := t h1 h2
        by_cases d : c x z = 0
        · exfalso
          obtain rfl := (h.eq x z).1 d
          have := h.anti x y
          have r := h.rng x y
          omega
        · rw [if_neg d]
          exact t2
theorem lx_od {α : Type} {c : α → α → Int} (h : Od c) : Od (lx c) := ⟨lx_rng h, lx_anti h, lx_eq h, lx_lt h⟩
def bc (a b : UInt8) : Int := if a < b then -1 else if b < a then 1 else 0
theorem bc_nat (a b : UInt8) : bc a b = if a.toNat < b.toNat then -1 else if b.toNat < a.toNat then 1 else 0 := by
  unfold bc
  simp only [UInt8.lt_iff_toNat_lt]
theorem bc_od : Od bc := by
  refine ⟨fun x y => ?_, fun x y => ?_, fun x y => ?_, fun x y z h1 h2 => ?_⟩
  · rw [bc_nat]
    repeat' split
    all_goals simp
  · rw [bc_nat, bc_nat]
    repeat' split
    all_goals omega
  · rw [bc_nat, ← UInt8.toNat_inj]
    repeat' split
    all_goals omega
  · rw [bc_nat] at h1 h2 ⊢
    repeat' split at h1
    all_goals repeat' split at h2
    all_goals repeat' split
    all_goals omega
theorem cb_lx : ∀ l m : List UInt8, Lib.compareBytes l m = lx bc l m
  | [], [] => rfl
  | [], _ :: _ => rfl
  | _ :: _, [] => rfl
  | a :: l, b :: m => by
    have ih := cb_lx l m
    unfold Lib.compareBytes lx
    by_cases h1 : a < b
    · have e : bc a b = -1 := by unfold bc; rw [if_pos h1]
      rw [if_pos h1, e]
      rfl
    · by_cases h2 : b < a
      · have e : bc a b = 1 := by unfold bc; rw [if_neg h1, if_pos h2]
        rw [if_neg h1, if_pos h2, e]
        rfl
      · have e : bc a b = 0 := by unfold bc; rw [if_neg h1, if_neg h2]
        rw [if_neg h1, if_neg h2, e, ih]
        rfl
theorem od_od : Od od := by
  have h := lx_od bc_od
  refine ⟨fun x y => ?_, fun x y => ?_, fun x y => ?_, fun x y z h1 h2 => ?_⟩
  · unfold od; rw [cb_lx]; exact h.rng _ _
  · unfold od; rw [cb_lx, cb_lx]; exact h.anti _ _
  · unfold od
    rw [cb_lx, h.eq]
    constructor
    · intro e
      rw [ByteArray.ext_iff]
      exact Array.toList_inj.1 e
    · rintro rfl
      rfl
  · unfold od at h1 h2 ⊢
    rw [cb_lx] at h1 h2 ⊢
    exact h.lt _ _ _ h1 h2
theorem o2_od : Od o2 := by
  have h := od_od
  refine ⟨fun x y => ?_, fun x y => ?_, fun x y => ?_, fun x y z h1 h2 => ?_⟩
  · unfold o2
    split
    · exact h.rng _ _
    · exact h.rng _ _
  · unfold o2
    have a1 := h.anti x.1 y.1
    have a2 := h.anti x.2 y.2
    by_cases e : od x.1 y.1 = 0
    · rw [if_pos (by omega), if_pos e, a2]
    · rw [if_neg (by omega), if_neg e, a1]
  · unfold o2
    by_cases e : od x.1 y.1 = 0
    · rw [if_pos e, h.eq, Prod.ext_iff]
      exact ⟨fun k => ⟨(h.eq _ _).1 e, k⟩, fun k => k.2⟩
    · rw [if_neg e, Prod.ext_iff]
      exact ⟨fun k => absurd k e, fun k => absurd ((h.eq _ _).2 k.1) e⟩
  · unfold o2 at h1 h2 ⊢
    by_cases a : od x.1 y.1 = 0
    · rw [if_pos a] at h1
      have ea := (h.eq _ _).1 a
      by_cases b : od y.1 z.1 = 0
      · rw [if_pos b] at h2
        rw [ea, if_pos b]
        exact h.lt _ _ _ h1 h2
      · rw [if_neg b] at h2
        rw [ea, if_neg b]
        exact h2
    · rw [if_neg a] at h1
      by_cases b : od y.1 z.1 = 0
      · have eb := (h.eq _ _).1 b
        rw [← eb, if_neg a]
        exact h1
      · rw [if_neg b] at h2
        have t2 := h.lt _ _ _ h1 h2
        by_cases d : od x.1 z.1 = 0
        · exfalso
          have ed := (h.eq _ _).1 d
          rw [← ed] at h2 b
          have := h.anti x.1 y.1
          omega
        · rw [if_neg d]
          exact t2
/-- The labels from a place on. -/
def lst (f : Nat → Lb) (i : Nat) : Nat → List Lb
  | 0 => []
  | k + 1 => f i :: lst f (i + 1) k
theorem cmF_lx (f g : Nat → Lb) (m : Nat) : ∀ k i, i ≤ m → cmF f g m k i = lx o2 (lst f i k) (lst g i (m - i))
  | 0, i, hi => by
    unfold cmF
    by_cases h : i < m
    · rw [if_pos h, show m - i = (m - i - 1) + 1 by omega]
      rfl
    · rw [if_neg h, show m - i = 0 by omega]
      rfl
  | k + 1, i, hi => by
    unfold cmF
    by_cases h : i < m
    · rw [if_pos h, cmF_lx f g m k (i + 1) (by omega), show m - i = (m - (i + 1)) + 1 by omega]
      rfl
    · rw [if_neg h, show m - i = 0 by omega]
      rfl
theorem cm_lx (f g : Nat → Lb) (n m : Nat) : cm f n g m = lx o2 (lst f 0 n) (lst g 0 m) := cmF_lx f g m n 0 (Nat.zero_le _)
theorem cm_rng (f g : Nat → Lb) (n m : Nat) : cm f n g m = -1 ∨ cm f n g m = 0 ∨ cm f n g m = 1 := by rw [cm_lx]; exact lx_rng o2_od _ _
theorem cm_anti (f g : Nat → Lb) (n m : Nat) : cm g m f n = - cm f n g m := by rw [cm_lx, cm_lx]; exact lx_anti o2_od _ _
theorem cm_trans (f g h : Nat → Lb) (n m k : Nat) (h1 : cm f n g m ≤ 0) (h2 : cm g m h k ≤ 0) : cm f n h k ≤ 0 ∧ (cm f n h k = 0 → cm f n g m = 0 ∧ cm g m h k = 0) := by
  rw [cm_lx] at h1 h2 ⊢
  rw [cm_lx, cm_lx]
  refine ⟨lx_lt o2_od _ _ _ h1 h2, fun e => ?_⟩
  have ee := (lx_eq o2_od _ _).1 e
  rw [← ee] at h2 ⊢
  have := lx_anti o2_od (lst f 0 n) (lst g 0 m)
  omega
theorem lst_len (f : Nat → Lb) : ∀ k i, (lst f i k).length = k
  | 0, _ => rfl
  | k + 1, i => by
    show (lst f (i + 1) k).length + 1 = _
    rw [lst_len f k]
theorem lst_eq (f g : Nat → Lb) : ∀ k i, lst f i k = lst g i k ↔ ∀ j, i ≤ j → j < i + k → f j = g j
  | 0, i => by
    constructor
    · intro _ j h1 h2; omega
    · intro _; rfl
  | k + 1, i => by
    show f i :: lst f (i + 1) k = g i :: lst g (i + 1) k ↔ _
    rw [List.cons.injEq, lst_eq f g k (i + 1)]
    constructor
    · rintro ⟨a, b⟩ j h1 h2
      by_cases e : j = i
      · subst e; exact a
      · exact b j (by omega) (by omega)
    · intro h
      exact ⟨h i (by omega) (by omega), fun j h1 h2 => h j (by omega) (by omega)⟩
theorem cm_zero (f g : Nat → Lb) (n m : Nat) : cm f n g m = 0 ↔ n = m ∧ ∀ j, j < n → f j = g j := by
  rw [cm_lx, lx_eq o2_od]
  constructor
  · intro e
    have hl := congrArg List.length e
    rw [lst_len, lst_len] at hl
    subst hl
    exact ⟨rfl, fun j hj => (lst_eq f g n 0).1 e j (Nat.zero_le _) (by omega)⟩
  · rintro ⟨rfl, h⟩
    exact (lst_eq f g n 0).2 fun j _ hj => h j (by omega)
theorem cm_more (f g : Nat → Lb) (n : Nat) (h : ∀ j, j < n → f j = g j) : cm f n g (n + 1) = -1 := by
  have : ∀ k i, i + k = n → cmF f g (n + 1) k i = -1 := by
    intro k
    induction k with
    | zero =>
      intro i hi
      unfold cmF
      rw [if_pos (by omega)]
    | succ k ih =>
      intro i hi
      unfold cmF
      rw [if_pos (by omega), if_pos ((o2_od.eq _ _).2 (h i (by omega)))]
      exact ih (i + 1) (by omega)
  exact this n 0 (by omega)
end Go.Proofs.YtjmninjaoemhjaaDoor
