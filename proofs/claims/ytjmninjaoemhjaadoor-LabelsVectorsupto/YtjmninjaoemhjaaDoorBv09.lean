/- A bundle of texts. -/
import Derived.Test.YtjmninjaoemhjaaDoorBv08
import Derived.Laws.CopyOwn
import Derived.Test.YtjmninjaoemhjaaDoorBv03
/- lent, whole. -/
namespace Go.Proofs.YtjmninjaoemhjaaDoor.K
open Go.RowKit Go.Lib

attribute [local go_sem] Oper.semAt_some

abbrev zL : Lb := (⟨#[]⟩, ⟨#[]⟩)
abbrev tT : ByteArray := ⟨#[108, 101, 110, 116]⟩
abbrev tL : Lb := (tT, tT)
def up {α : Type} (f : Nat → α) (j : Nat) (u : α) : Nat → α := fun i => if i = j then u else f i
theorem up_same {α : Type} (f : Nat → α) (j : Nat) (u : α) : up f j u j = u := if_pos rfl
theorem up_other {α : Type} (f : Nat → α) (j : Nat) (u : α) (i : Nat) (h : i ≠ j) : up f j u i = f i := if_neg h
theorem lc_congr (f g : Nat → Lb) (n : Nat) (h : ∀ j, j < n → f j = g j) : lc f n = lc g n := by
  induction n with
  | zero => rfl
  | succ n ih => rw [lc_succ, lc_succ, ih fun j hj => h j (by omega), h n (by omega)]
theorem lc_app (f : Nat → Lb) (n : Nat) : ∀ m, lc f (n + m) = lc f n ++ lc (fun j => f (n + j)) m
  | 0 => by simp [lc]
  | m + 1 => by rw [← Nat.add_assoc, lc_succ, lc_app f n m, lc_succ, List.append_assoc]
/-- A row of things of one's own. -/
def Ir (w : World) (S : Nat) (v : Value) (n : Nat) (f : Nat → Lb) : Prop := w.ownsRow S 26 2 v n (lc f n)
theorem Ir.below {w w' : World} {S n : Nat} {v : Value} {f : Nat → Lb} (h : Ir w S v n f) (hb : Below w.heap.size w w') : Ir w' S v n f := (Kp.of (M := fun _ => False) hb).row h (fun _ _ => id)
theorem Ir.congr {w : World} {S n : Nat} {v : Value} {f g : Nat → Lb} (h : Ir w S v n f) (e : ∀ j, j < n → f j = g j) : Ir w S v n g := by
  unfold Ir
  rw [← lc_congr f g n e]
  exact h
theorem Ir.iml {w : World} {S n : Nat} {v : Value} {f : Nat → Lb} (h : Ir w S v n f) : ∃ a c, v = .slice a n c ∧ Lm w a f n ∧ n ≤ c := by
  have hc := fun g => h.cells (g := g)
  rcases h.2 with ⟨rfl, h0⟩ | ⟨g, c, cur, rfl, _, hg, hnc, _⟩
  · subst h0
    exact ⟨none, 0, rfl, .inl rfl, Nat.le_refl _⟩
  · refine ⟨_, c, rfl, .inr ⟨g, 0, rfl, (Array.getElem?_eq_some_iff.1 hg).1, fun j hj => ?_⟩, hnc⟩
    have h1 := hc g rfl (j * 2 + 0) _ (by rw [lc_get f n j 0 hj (by omega)]; rfl)
    have h2 := hc g rfl (j * 2 + 1) _ (by rw [lc_get f n j 1 hj (by omega)]; rfl)
    rw [Go.WideShapes.add_plain] at h1 h2
    exact ⟨h1, by rw [Nat.add_assoc]; exact h2⟩
theorem made_i (k : Nat) : (madeCells #[Value.string ⟨#[]⟩, Value.string ⟨#[]⟩] (k * 2)).toList = lc (fun _ => zL) k := by
  apply List.ext_getElem?
  intro j
  by_cases hj : j < k * 2
  · have e : j = (j / 2) * 2 + j % 2 := by omega
    have h2 : (lc (fun _ => zL) k)[j]? = some (.string ⟨#[]⟩) := by
      rw [e, lc_get _ k (j / 2) (j % 2) (by omega) (by omega)]
      have : j % 2 = 0 ∨ j % 2 = 1 := by omega
      rcases this with h | h <;> rw [h] <;> rfl
    rw [h2]
    simp [madeCells, hj]
    have : j % 2 = 0 ∨ j % 2 = 1 := by omega
    rcases this with h | h <;> rw [h] <;> rfl
  · rw [List.getElem?_eq_none (by simp [madeCells]; omega), List.getElem?_eq_none (by rw [lc_len]; omega)]
theorem make_i (w : World) (S k : Nat) (hS : S ≤ w.heap.size) (hk : k * 32 ≤ 281474976710656) : ∃ w', (Instr.makeSlice 22 (.int .i64 (k : Int)) (.int .i64 (k : Int))).run Tryd.prog w = .ok (.slice (some ⟨w.heap.size, 0, none⟩) k k) w' ∧ Ir w' S (.slice (some ⟨w.heap.size, 0, none⟩) k k) k (fun _ => zL) ∧ Below w.heap.size w w' := by
  obtain ⟨i0, hi, hz0, hz1, hz2⟩ := info_parts infL
  obtain ⟨w1, r, o, g⟩ := run_make_full (P := Tryd.prog) w S 22 26 i0 (.agg #[.string ⟨#[]⟩, .string ⟨#[]⟩]) 2 Tryd.underlying22 hi hz0 hz1 .i64 .i64 k (by rw [hz2]; omega) (by unfold maxLen; omega) hS
  refine ⟨w1, r, ?_, (Below.refl _ w).grown g (Nat.le_refl _) (fun k hk => by cases hk)⟩
  unfold Ir
  rw [← made_i k]
  exact o
theorem lc_set (f : Nat → Lb) (j : Nat) (u : Lb) : ∀ n, j < n → ((lc f n).set (j * 2) (.string u.1)).set (j * 2 + 1) (.string u.2) = lc (up f j u) n
  | 0, h => by omega
  | n + 1, h => by
    rw [lc_succ, lc_succ]
    by_cases hj : j < n
    · rw [List.set_append_left _ _ (by rw [lc_len]; omega), List.set_append_left _ _ (by rw [List.length_set, lc_len]; omega), lc_set f j u n hj]
      congr 1
      congr 1
      exact (if_neg (by omega)).symm
    · obtain rfl : j = n := by omega
      rw [List.set_append_right _ _ (by rw [lc_len]; omega), List.set_append_right _ _ (by rw [lc_len]; omega), lc_len, Nat.sub_self, show j * 2 + 1 - j * 2 = 1 by omega]
      congr 1
      · exact lc_congr _ _ _ fun i hi => (if_neg (by omega)).symm
      · have : up f j u j = u := if_pos rfl
        rw [this]
        rfl
theorem Ir.set {w : World} {S g c n : Nat} {f : Nat → Lb} (h : Ir w S (.slice (some ⟨g, 0, none⟩) n c) n f) (j : Nat) (hj : j < n) (u : Lb) : Ir ((w.setCell ⟨g, j * 2, none⟩ (.string u.1)).setCell ⟨g, j * 2 + 1, none⟩ (.string u.2)) S (.slice (some ⟨g, 0, none⟩) n c) n (up f j u) := by
  unfold Ir
  rw [← lc_set f j u n hj]
  exact (World.ownsRow.stored (World.ownsRow.stored h (j * 2) (.string u.1)).1 (j * 2 + 1) (.string u.2)).1
theorem Ir.cells {w : World} {S g c n : Nat} {f : Nat → Lb} (h : Ir w S (.slice (some ⟨g, 0, none⟩) n c) n f) (j : Nat) (hj : j < n) : w.cell? ⟨g, j * 2, none⟩ = some (.string (f j).1) ∧ w.cell? ⟨g, j * 2 + 1, none⟩ = some (.string (f j).2) ∧ w.frozen? ⟨g, j * 2, none⟩ = false ∧ w.frozen? ⟨g, j * 2 + 1, none⟩ = false := by
  obtain ⟨a, c', e, im, _⟩ := h.iml
  cases e
  rcases im with h0 | ⟨g', o', e, _, hat⟩
  · omega
  · cases e
    have := hat j hj
    rw [Nat.zero_add] at this
    exact ⟨this.1, this.2, World.ownsRow.frozenAt h _, World.ownsRow.frozenAt h _⟩
theorem wpList_copy_run {P : Program} {ops : Array Oper} {rest : List Oper} {o : Oper} {a : Act} {w w' : World} {v' : Value} {Q : Exit → Act → World → Prop} (hw : Region.wanted o (yielded ops a.tmps) = true) (s x : Operand) (t tx : TypeId)
    (ho : o.op = .call { callee := .builtin .copy, args := #[s, x], argTypes := #[t, tx] }) (vs vx : Value) (hs : a.eval s = vs) (hx : a.eval x = vx)
    (hr : (Builtin.copy_ #[t, tx] o.type #[vs, vx]).run P w = .ok v' w') (h : wpList P ops Q rest (a.put o.dst v') w') : wpList P ops Q (o :: rest) a w := by
  unfold wpList
  rw [if_pos hw]
  left
  unfold Oper.wp execOp
  simp only [ho, resolve, invoke, builtin, Sem.run_bind, Sem.run_pure, Result.andThen_ok, List.map_toArray, List.map_cons, List.map_nil, hs, hx, hr]
  exact h
set_option maxRecDepth 100000 in
/-- A copy of things to the beginning of a row. -/
theorem copy_i (w : World) (S g L c n : Nat) (f xs : Nat → Lb) (a : Option Addr) (ca : Nat) (ty : TypeId) (o : Ir w S (.slice (some ⟨g, 0, none⟩) L c) L f) (hn : n ≤ L) (hx : Lm w a xs n) :
    ∃ w', (Builtin.copy_ #[22, 22] ty #[.slice (some ⟨g, 0, none⟩) L c, .slice a n ca]).run Tryd.prog w = .ok (goInt n) w' ∧ Ir w' S (.slice (some ⟨g, 0, none⟩) L c) L (fun j => if j < n then xs j else f j) ∧ w.grownBy w' (some g) := by
  obtain ⟨i0, hi, hz0, hz1, hz2⟩ := info_parts infL
  have hcs : ∀ ad, a = some ad → ∀ j v, (lc xs n)[j]? = some v → w.cell? (ad.add j) = some v := fun ad e j v hj => by
    rcases hx with h | ⟨g2, o2, e2, _, hat⟩
    · subst h; simp [lc] at hj
    · rw [e] at e2
      cases e2
      have hjl : j < n * 2 := by
        have := (List.getElem?_eq_some_iff.1 hj).1
        rwa [lc_len] at this
      rw [Go.WideShapes.add_plain]
      have e3 : j = (j / 2) * 2 + j % 2 := by omega
      rw [e3] at hj ⊢
      rw [lc_get xs n (j / 2) (j % 2) (by omega) (by omega)] at hj
      obtain ⟨q0, q1⟩ := hat (j / 2) (by omega)
      have : j % 2 = 0 ∨ j % 2 = 1 := by omega
      rcases this with h | h
      · rw [h] at hj ⊢
        simp [l2] at hj
        rw [← hj, Nat.add_zero]
        exact q0
      · rw [h] at hj ⊢
        simp [l2] at hj
        rw [← hj, ← Nat.add_assoc]
        exact q1
  rcases o.2 with ⟨h0, _⟩ | ⟨g', cap, cur, hv, hb, hgg, h1, h2, h3, h4⟩
  · cases h0
  · cases hv
    have hmin : Nat.min n L = n := Nat.min_eq_left hn
    have hfin : ∀ w', w' = w.setRow g (lc xs n ++ cur.toList.drop (n * 2)).toArray → Ir w' S (.slice (some ⟨g, 0, none⟩) L c) L (fun j => if j < n then xs j else f j) ∧ w.grownBy w' (some g) := fun w' e => by
      subst e
      refine ⟨⟨lc_len _ _, .inr ⟨g, c, _, rfl, hb, setRow_heap w g cur _ 26 _ hgg, h1, h2, ?_, ?_⟩⟩, ⟨rfl, rfl, rfl, by simp, fun k _ hk => setRow_other w g k _ (fun e => hk (by simp [e]))⟩⟩
      · simp only [List.size_toArray, List.length_append, lc_len, List.length_drop, Array.length_toList]
        have : n * 2 ≤ cur.size := by rw [h3]; omega
        omega
      · have e1 : lc (fun j => if j < n then xs j else f j) L = lc xs n ++ (lc f L).drop (n * 2) := by
          have hLn : L = n + (L - n) := by omega
          rw [hLn, lc_app, lc_app, lc_congr (fun j => if j < n then xs j else f j) xs n (fun j hj => if_pos hj), lc_congr (fun j => if n + j < n then xs (n + j) else f (n + j)) (fun j => f (n + j)) (L - n) (fun j _ => if_neg (by omega))]
          rw [List.drop_append_of_le_length (by rw [lc_len]; exact Nat.le_refl _), List.drop_of_length_le (by rw [lc_len]; exact Nat.le_refl _), List.nil_append]
        rw [e1, ← h4]
        rw [List.take_append, lc_len, List.take_of_length_le (by rw [lc_len]; omega)]
        congr 1
        rw [List.drop_take]
    cases a with
    | none =>
      have h0 : n = 0 := by
        rcases hx with h | ⟨_, _, e, _⟩
        · exact h
        · cases e
      subst h0
      refine ⟨w, ?_, ?_⟩
      · simp [Builtin.copy_, run_underlying Tryd.underlying22, Builtin.lenOf, Builtin.firstCells, sizeOf, typeInfo, hi, storeCells]
      · exact ⟨Ir.congr o (fun j _ => (if_neg (by omega)).symm), ⟨rfl, rfl, rfl, Nat.le_refl _, fun _ _ _ => rfl⟩⟩
    | some ad =>
      have hl := run_loadCells_list (P := Tryd.prog) w ad (lc xs n) (hcs ad rfl)
      have hst := run_storeCells_at Tryd.prog g 0 26 (lc xs n) 0 cur w hgg (by rw [lc_len, h3]; omega) (lc_one xs n)
      rw [lc_len] at hl hst
      refine ⟨_, ?_, hfin _ rfl⟩
      simp [Builtin.copy_, run_underlying Tryd.underlying22, Builtin.lenOf, Builtin.firstCells, sizeOf, typeInfo, hi, hz1, hmin, hl]
      have hst' : (storeCells ⟨g, 0, none⟩ (lc xs n)).run Tryd.prog w = .ok () (w.setRow g (lc xs n ++ cur.toList.drop (n * 2)).toArray) := by simpa using hst
      rw [hst']
      rfl
/-- A list as put lays it. -/
def pf (xs : Nat → Lb) (n j : Nat) : Lb := if j < n then xs j else tL
end Go.Proofs.YtjmninjaoemhjaaDoor.K
/- Keep. -/
namespace Go.Proofs.YtjmninjaoemhjaaDoor.K
open Go.RowKit Go.Lib Go.Shelf Go.Sort

attribute [local go_sem] Oper.semAt_some

set_option maxRecDepth 100000 in
set_option maxHeartbeats 4000000 in
theorem keep_any (a na : Option Addr) (f : Nat → Lb) (nf : Nat → ByteArray) (n c N nc : Nat) (wo : Bool) (w : World) (hn : n ≤ 4398046511104) (hN : N ≤ 8796093022208) (hs : ∀ j, j < n → (f j).1.size ≤ 140737488355328 ∧ (f j).2.size ≤ 140737488355328) (hL : Lm w a f n) (hR : Smb w.heap.size w na nf N) :
    Calls Tryd.prog 13 #[.slice a n c, .slice na N nc, .bool wo] w fun e w' => ∃ v, e = .returned v ∧ w'.ownsRow w.heap.size 26 2 v (keptL f (lf nf N) wo n).length (lcL (keptL f (lf nf N) wo n)) ∧ Below w.heap.size w w' := by
  have k0 := keeper_k na nf N nc wo w hN hR
  have hxl : (lf nf N).length ≤ 8796093022208 := by rw [lf_len]; exact hN
  generalize lf nf N = xs at k0 hxl ⊢
  have HL : Hid (Lm w a f n) := hL
  have HS : Hid (∀ j, j < n → (f j).1.size ≤ 140737488355328 ∧ (f j).2.size ≤ 140737488355328) := hs
  have hnI : (n : Int) ≤ 4398046511104 := by omega
  clear hL hR hs
  go_enter Tryd.func13, Tryd.ntmps13
  go_wp2_with fail
  go_fit k0
  rintro e w1 ⟨Bs, Bw, rfl, hk1, hb1⟩
  have HB1 : Hid (Below w.heap.size w w1) := hb1
  have HK1 : Hid (Kpr w1.heap.size w1 Bs Bw xs wo) := hk1
  clear hb1 hk1 k0
  go_wp2
  go_loopw [8, 16] (fun sv ivv w' => ∃ i : Nat, ivv = .int .i64 (i : Int) ∧ i ≤ n ∧ Hid (w'.ownsRow w1.heap.size 26 2 sv (keptL f xs wo i).length (lcL (keptL f xs wo i))) ∧ Hid (Below w1.heap.size w1 w')) (fun _ ivv _ => n - (RowKit.intOf ivv).toNat)
  case atStart => exact ⟨0, rfl, by omega, World.ownsRow_nil _ _ _ _, Below.refl _ _⟩
  case round =>
    obtain ⟨i, rfl, hi, hrow, hbw⟩ := hrel
    by_cases hlt : i < n
    · have hii : (i : Int) < n := by omega
      obtain ⟨g, o, rfl, hg, c0, c1⟩ := ((HL.out.below HB1.out).below hbw.out).at i hlt
      have hz := hbw.out.size
      obtain ⟨h1, h2⟩ := HS.out i hlt
      obtain ⟨⟨x1, x2⟩, hx⟩ : ∃ x, f i = x := ⟨_, rfl⟩
      rw [hx] at c0 c1 h1 h2
      dsimp only at c0 c1 h1 h2
      have HK : Hid (keptL f xs wo (i + 1) = keptL f xs wo i ++ if stay xs wo x1 then [(x1, x2)] else []) := by unfold Hid; rw [keptL_succ, hx]
      have hkl := keptL_le f xs wo i
      generalize keptL f xs wo i = ks at hrow HK hkl
      have hal : Below wr.heap.size wr (wr.alloc (lbX (x1, x2))) := (Below.refl _ wr).alloc (Nat.le_refl _) _
      have kC := ((HK1.out.below hbw.out).below (hal.mono hz)).stays hxl x1
      have HRA : Hid ((wr.alloc (lbX (x1, x2))).ownsRow w1.heap.size 26 2 u8 ks.length (lcL ks)) := hrow.out.alloc _
      have HBA : Hid (Below w1.heap.size w1 (wr.alloc (lbX (x1, x2)))) := hbw.out.trans (hal.mono hz)
      have HBX : Hid ((wr.alloc (lbX (x1, x2))).heap[wr.heap.size]? = some (lbX (x1, x2))) := World.alloc_heap_new wr _
      have kD := fun W => copied_any (x1, x2) W h1 h2
      have KD : Hid (∀ W, Calls Tryd.prog 29 #[lbV (x1, x2)] W fun e w' => e = .returned (lbV (x1, x2)) ∧ Below W.heap.size W w') := kD
      clear hrow hbw hal hx hz kD h1 h2
      cases hst : stay xs wo x1
      · rw [hst] at kC HK
        go_wp2_with fail
        go_fit kC
        rintro e w3 ⟨rfl, q, rfl⟩
        go_wp2
        exact ⟨⟨i + 1, by go_num, by omega, by unfold Hid; rw [HK.out, if_neg (by simp), List.append_nil]; exact HRA.out, below_drewN HBA.out q⟩, by simp [RowKit.intOf]; omega⟩
      · rw [hst] at kC HK
        go_wp2_with fail
        go_fit kC
        rintro e w3 ⟨rfl, q, rfl⟩
        have hr3 : ((wr.alloc (lbX (x1, x2))).drewN q).ownsRow w1.heap.size 26 2 u8 ks.length (lcL ks) := HRA.out
        have hb3 := below_drewN HBA.out q
        have hx3 : ((wr.alloc (lbX (x1, x2))).drewN q).heap[wr.heap.size]? = some (lbX (x1, x2)) := HBX.out
        generalize (wr.alloc (lbX (x1, x2))).drewN q = w3 at hr3 hb3 hx3 ⊢
        have d0 : w3.cell? ⟨wr.heap.size, 0, none⟩ = some (.string x1) := by unfold World.cell?; rw [hx3]; rfl
        have d1 : w3.cell? ⟨wr.heap.size, 1, none⟩ = some (.string x2) := by unfold World.cell?; rw [hx3]; rfl
        have k4 := KD.out w3
        have HR3 : Hid (w3.ownsRow w1.heap.size 26 2 u8 ks.length (lcL ks)) := hr3
        have HB3 : Hid (Below w1.heap.size w1 w3) := hb3
        clear hr3 hb3 hx3 kC HBX
        go_wp2_with fail
        go_fit k4
        rintro e w4 ⟨rfl, b4⟩
        have hr4 := (Kp.of (M := fun _ => False) b4).row HR3.out (fun _ _ => id)
        have hb4 := HB3.out.trans (b4.mono HB3.out.size)
        obtain ⟨G, cc, w6, r, o6, kp6⟩ := ap_lb w4 w1.heap.size u8 ks.length (lcL ks) (x1, x2) hb4.size (by omega) hr4
        have HAP : Hid (Below w1.heap.size w1 w6 ∧ w6.ownsRow w1.heap.size 26 2 (.slice (some ⟨G, 0, none⟩) (ks.length + 1) cc) (ks ++ [(x1, x2)]).length (lcL (ks ++ [(x1, x2)]))) := by
          refine ⟨hb4.trans (kp6.below hb4.size (fun k hk e => by have := (own_bd hr4 k e).1; omega)), ?_⟩
          have e1 : lcL (ks ++ [(x1, x2)]) = lcL ks ++ l2 (x1, x2) := by simp [lcL]
          rw [e1, List.length_append]
          exact o6
        clear hr4 hb4 b4 k4 o6 kp6 d0 d1
        go_wp2_with (at_builtin; refine wpList_append_run rfl (.tmp 24) (.tmp 27) 22 22 rfl _ _ rfl rfl r ?_)
        exact ⟨⟨i + 1, by go_num, by omega, by unfold Hid; rw [HK.out, if_pos (by simp)]; exact HAP.out.2, HAP.out.1⟩, by simp [RowKit.intOf]; omega⟩
    · obtain rfl : i = n := by omega
      have hii : ¬ (i : Int) < i := by omega
      have HE : Hid (wr.ownsRow w.heap.size 26 2 u8 (keptL f xs wo i).length (lcL (keptL f xs wo i)) ∧ Below w.heap.size w wr) := ⟨hrow.out.mono HB1.out.size, HB1.out.trans (hbw.out.mono HB1.out.size)⟩
      clear hrow hbw
      go_wp2
      go_ret
      exact ⟨_, rfl, HE.out.1, HE.out.2⟩
end Go.Proofs.YtjmninjaoemhjaaDoor.K
/- The reference's With. -/
namespace Go.Proofs.YtjmninjaoemhjaaDoor.K
open Go.RowKit Go.Lib

attribute [local go_sem] Oper.semAt_some

def gtB (x y : ByteArray) : Bool := !(Op.bytesLess x.toList y.toList || x.toList == y.toList)
/-- With, under way: the labels, and whether the new one is put. -/
def rwS (nm vl : ByteArray) (s : List Lb × Bool) (l : Lb) : List Lb × Bool :=
  if (l.1.toList == nm.toList) then s else if (!s.2 && gtB l.1 nm) then (s.1 ++ [(nm, vl)] ++ [l], true) else (s.1 ++ [l], s.2)
def rwF (f : Nat → Lb) (nm vl : ByteArray) : Nat → List Lb × Bool
  | 0 => ([], vl.toList.isEmpty)
  | i + 1 => rwS nm vl (rwF f nm vl i) (f i)
def rwL (f : Nat → Lb) (nm vl : ByteArray) (n : Nat) : List Lb := if (rwF f nm vl n).2 then (rwF f nm vl n).1 else (rwF f nm vl n).1 ++ [(nm, vl)]
theorem rwF_le (f : Nat → Lb) (nm vl : ByteArray) : ∀ i, (rwF f nm vl i).1.length ≤ i + (if (rwF f nm vl i).2 then 1 else 0)
  | 0 => by simp [rwF]
  | i + 1 => by
    have ih := rwF_le f nm vl i
    show (rwS nm vl (rwF f nm vl i) (f i)).1.length ≤ i + 1 + (if (rwS nm vl (rwF f nm vl i) (f i)).2 then 1 else 0)
    unfold rwS
    split
    · omega
    · split
      · rename_i h
        simp at h
        rw [h.1] at ih
        simp at ih ⊢
        omega
      · simp
        omega
end Go.Proofs.YtjmninjaoemhjaaDoor.K
/- With: where the label stands. -/
namespace Go.Proofs.YtjmninjaoemhjaaDoor.K
open Go.RowKit Go.Lib

attribute [local go_sem] Oper.semAt_some

set_option maxHeartbeats 2000000 in
theorem with1_any (x : Lb) (nm : ByteArray) (Bn : Nat) (W : World) (hB : W.cell? ⟨Bn, 0, none⟩ = some (.string nm)) :
    Calls Tryd.prog 33 #[lbV x, .pointer (some ⟨Bn, 0, none⟩)] W fun e w' => e = .returned (.bool (gtB x.1 nm)) ∧ Below W.heap.size W w' := by
  obtain ⟨x1, x2⟩ := x
  have hal : Below W.heap.size W (W.alloc (lbX (x1, x2))) := (Below.refl _ W).alloc (Nat.le_refl _) _
  have hb' := bcell2 hal hB
  have e : (W.alloc (lbX (x1, x2))).heap[W.heap.size]? = some (lbX (x1, x2)) := heap_alloc_new W _
  have d0 : (W.alloc (lbX (x1, x2))).cell? ⟨W.heap.size, 0, none⟩ = some (.string x1) := by unfold World.cell?; rw [e]; rfl
  have HB : Hid (Below W.heap.size W (W.alloc (lbX (x1, x2)))) := hal
  have HG : Hid (gtB x1 nm = (!Op.bytesLess x1.toList nm.toList && !(x1.toList == nm.toList))) := by unfold Hid gtB; rw [Bool.not_or]
  clear e hal hB
  go_enter Tryd.func33, Tryd.ntmps33
  go_wp2
  go_ret
  exact ⟨by rw [HG.out]; rfl, HB.out⟩
set_option maxRecDepth 100000 in
set_option maxHeartbeats 4000000 in
theorem index_any (a : Option Addr) (f : Nat → Lb) (n c Bn : Nat) (nm : ByteArray) (w : World) (hn : n ≤ 1152921504606846976) (hL : Lm w a f n) (hB : w.cell? ⟨Bn, 0, none⟩ = some (.string nm)) :
    Calls Tryd.prog 32 #[.slice a n c, .func (.func 33) #[] #[.pointer (some ⟨Bn, 0, none⟩)]] w fun e w' => ((∃ i : Nat, e = .returned (.int .i64 (i : Int)) ∧ i < n ∧ gtB (f i).1 nm = true ∧ ∀ j, j < i → gtB (f j).1 nm = false) ∨ (e = .returned (.int .i64 (-1)) ∧ ∀ j, j < n → gtB (f j).1 nm = false)) ∧ Below w.heap.size w w' := by
  have HL : Hid (Lm w a f n) := hL
  have HB : Hid (w.cell? ⟨Bn, 0, none⟩ = some (.string nm)) := hB
  have hnI : (n : Int) ≤ 1152921504606846976 := by omega
  clear hL hB
  go_enter Tryd.func32, Tryd.ntmps32
  go_wp2
  go_loopw [8] (fun ivv w' => ∃ i : Nat, ivv = .int .i64 (i : Int) ∧ i ≤ n ∧ Hid (∀ j, j < i → gtB (f j).1 nm = false) ∧ Hid (Below w.heap.size w w')) (fun ivv _ => n - (RowKit.intOf ivv).toNat)
  case atStart => exact ⟨0, rfl, by omega, fun j hj => by omega, Below.refl _ _⟩
  case round =>
    obtain ⟨i, rfl, hi, hf, hbw⟩ := hrel
    by_cases hlt : i < n
    · have hii : (i : Int) < n := by omega
      obtain ⟨g, o, rfl, hg, c0, c1⟩ := (HL.out.below hbw.out).at i hlt
      have kW := with1_any (f i) nm Bn wr (bcell2 hbw.out HB.out)
      obtain ⟨⟨x1, x2⟩, hx⟩ : ∃ x, f i = x := ⟨_, rfl⟩
      have HX : Hid (f i = (x1, x2)) := hx
      rw [hx] at c0 c1 kW
      dsimp only at c0 c1 kW
      have HBW : Hid (∀ W, Below wr.heap.size wr W → Below w.heap.size w W) := fun W b => hbw.out.trans (b.mono hbw.out.size)
      clear hx hbw
      cases hgt : gtB x1 nm
      · rw [hgt] at kW
        have HF : Hid (∀ j, j < i + 1 → gtB (f j).1 nm = false) := fun j hj => by
          by_cases e : j = i
          · subst e; rw [HX.out]; exact hgt
          · exact hf.out j (by omega)
        go_wp2_with fail
        go_fit kW
        rintro e w3 ⟨rfl, b3⟩
        have HB3 : Hid (Below w.heap.size w w3) := HBW.out w3 b3
        clear b3 kW
        go_wp2
        exact ⟨⟨i + 1, by go_num, by omega, HF, HB3⟩, by simp [RowKit.intOf]; omega⟩
      · rw [hgt] at kW
        go_wp2_with fail
        go_fit kW
        rintro e w3 ⟨rfl, b3⟩
        have HB3 : Hid (Below w.heap.size w w3) := HBW.out w3 b3
        clear b3 kW
        go_wp2
        go_ret
        exact ⟨.inl ⟨i, rfl, hlt, by rw [HX.out]; exact hgt, hf.out⟩, HB3.out⟩
    · obtain rfl : i = n := by omega
      have hii : ¬ (i : Int) < i := by omega
      go_wp2
      go_ret
      exact ⟨.inr ⟨rfl, hf.out⟩, hbw.out⟩
end Go.Proofs.YtjmninjaoemhjaaDoor.K
