/- A bundle of texts. -/
import Derived.Test.YtbciclnffokjjaaBk36
import Derived.Test.YtbciclnffokjjaaBk47
import Derived.Test.YtbciclnffokjjaaBk51
/- RxprogKeeps: contracts as the law wants them. -/
namespace Go.Proofs.Ytbciclnffokjjaa
open Go.RowKit Go.Lib

/-- What Words lists, or nothing. -/
def wl (t : Tr) : List ByteArray := (wdsF t).getD []
def wlf (t : Tr) (j : Nat) : ByteArray := (wl t).getD j ⟨#[]⟩
theorem sv_sc (L : List ByteArray) : sv L = sc (fun j => L.getD j ⟨#[]⟩) L.length := by
  unfold sv sc
  apply List.ext_getElem?
  intro j
  rw [List.getElem?_map, List.getElem?_map]
  by_cases h : j < L.length
  · rw [List.getElem?_range h, List.getElem?_eq_getElem h, Option.map_some, Option.map_some]
    show some (Value.string L[j]) = some (Value.string (L.getD j ⟨#[]⟩))
    rw [List.getD_eq_getElem?_getD, List.getElem?_eq_getElem h]
    rfl
  · rw [List.getElem?_eq_none (by omega), List.getElem?_eq_none (by rw [List.length_range]; omega)]
    rfl
theorem wl_len (t : Tr) : (wl t).length ≤ 64 := by
  unfold wl
  cases h : wdsF t with
  | none => exact Nat.zero_le _
  | some L => exact (wdsF_ok t L h).2
theorem words_k (t : Tr) (w : World) (ht : Tat w.heap.size w t) : Calls Try.prog 16 #[ndV (t [])] w fun e w' => (∃ a c, e = .returned (.tuple #[.slice a (wl t).length c, .bool (wdsF t).isSome]) ∧ w'.ownsRow w.heap.size 9 1 (.slice a (wl t).length c) (wl t).length (sc (wlf t) (wl t).length)) ∧ Below w.heap.size w w' := by
  refine (words_any t w ht).mono ?_
  rintro e w' ⟨⟨v, m, rfl, hst⟩, hb⟩
  refine ⟨?_, hb⟩
  have e0 : sc (wlf t) (wl t).length = sv (wl t) := (sv_sc (wl t)).symm
  rw [e0]
  rcases hst with ⟨h, rfl, rfl⟩ | ⟨L, h, rfl, ho⟩
  · have e1 : wl t = [] := by unfold wl; rw [h]; rfl
    rw [e1, h]
    exact ⟨none, 0, rfl, World.ownsRow_nil _ _ _ _⟩
  · have e1 : wl t = L := by unfold wl; rw [h]; rfl
    rw [e1, h]
    rcases ho.2 with ⟨e2, e3⟩ | ⟨g, cap, cur, e2, _⟩
    · refine ⟨none, 0, ?_, ?_⟩
      · rw [e2, e3]; rfl
      · rw [e2, e3] at ho; rw [e3]; exact ho
    · rw [e2] at ho ⊢
      exact ⟨_, cap, rfl, ho⟩
theorem RoW.ro {S : Nat} {w : World} {a : Option Addr} {n c : Nat} {rs : List Rg} {M : Nat → Prop} (h : RoW S w (.slice a n c) rs) (hM : ∀ b, (Value.slice a n c).ownBlock = some b → ¬ M b) : Ro w M a n rs := by
  unfold RoW at h
  rcases h.2 with ⟨e1, e2⟩ | ⟨g, cap, cur, e1, _⟩
  · cases e1
    exact ⟨e2.symm, .inl rfl⟩
  · cases e1
    refine ⟨rfl, ?_⟩
    by_cases h0 : rs.length = 0
    · exact .inl h0
    · have hlt := (h.lt g rfl).2
      refine .inr ⟨g, 0, rfl, hlt, hM g rfl, fun j x hx => ?_⟩
      have hj : j < rs.length := (List.getElem?_eq_some_iff.1 hx).1
      obtain ⟨g', o', e', _, c0, c1⟩ := (Rml.of_row h hlt).at j hj
      cases e'
      have ex : rs.getD j (0, 0) = x := by simp [List.getD, hx]
      rw [ex] at c0 c1
      exact ⟨c0, c1⟩
theorem OwA.kp {S : Nat} {w w' : World} {v : Value} {c : List Ia} {M : Nat → Prop} (h : OwA S w v c) (k : Kp M w w') (hM : ∀ b, S ≤ b → b < w.heap.size → ¬ M b) : OwA S w' v c := by
  obtain ⟨g, cc, f, rfl, hrow, hi, ha⟩ := h
  have hget : ∀ j, j < c.length → ∃ x, c[j]? = some x := fun j hj => ⟨_, List.getElem?_eq_getElem hj⟩
  have hb : ∀ j b, j < c.length → (rgV (f j)).ownBlock = some b → ¬ M b := fun j b hj e => by
    obtain ⟨x, hx⟩ := hget j hj
    have := (ha.row j x hj hx).1.lt b e
    exact hM b this.1 this.2
  refine ⟨g, cc, f, rfl, k.row hrow (fun b e => hM b (hrow.lt b e).1 (hrow.lt b e).2), fun j i hj => ?_, ha.kp k hb⟩
  have hjl : j < c.length := (List.getElem?_eq_some_iff.1 hj).1
  obtain ⟨a1, a2, a3, a4, _⟩ := hi j i hj
  have hr := ha.row j i hjl hj
  exact ⟨a1, a2, a3, a4, RoW.ro (k.row hr.1 (fun b e => hb j b hjl e)) (fun b e e2 => hr.2 (by rw [← (show b = g from e2)]; exact e))⟩
theorem prg_qr (t : Tr) (w : World) (ht : Tat w.heap.size w t) (hw : WF 8195 t) : ∀ i ∈ prgC t, Qr i := fun i hi => by
  rcases List.mem_append.1 hi with h | h
  · exact cod_rs 8195 t 0 ht hw i h
  · rcases List.mem_singleton.1 h with rfl
    exact Qr.nil _ _ _ _
/-- Compile: the program in rows of its own. -/
theorem comp_k (t : Tr) (s : St) (w : World) (ht : Tat w.heap.size w t) (h0 : ¬ sizF t = 0) (h1 : sizF t ≤ 10000) (hs : svd t = some s) :
    Calls Try.prog 10 #[ndV (t [])] w fun e w' => (∃ g cc na nc S', e = .returned (.tuple #[prV (some ⟨g, 0, none⟩) (prgC t).length cc 0 (s.n : Int) na s.n nc, .int .i64 0]) ∧ w.heap.size ≤ S' ∧ (∀ b, (Value.slice na s.n nc).ownBlock = some b → b < S') ∧ OwA S' w' (.slice (some ⟨g, 0, none⟩) (prgC t).length cc) (prgC t) ∧ w'.ownsRow w.heap.size 9 1 (.slice na s.n nc) s.n (sc s.f s.n)) ∧ Below w.heap.size w w' := by
  refine (compile_own t w ht h0 h1).mono ?_
  rintro e w' ⟨⟨iv, nv, s1, S', rfl, hs1, hn, hS, hnb, how, hnv⟩, hb⟩
  rw [hs] at hs1
  cases hs1
  refine ⟨?_, hb⟩
  obtain ⟨g, cc, f, rfl, _⟩ := id how
  obtain ⟨na, nc, rfl, _⟩ := row_sml hnv
  exact ⟨g, cc, na, nc, S', rfl, hS, hnb, how, hnv⟩
end Go.Proofs.Ytbciclnffokjjaa
/- RxprogKeeps: what the law's loops keep. -/
namespace Go.Proofs.Ytbciclnffokjjaa
open Go.RowKit Go.Lib

/-- Copies of the first i lists of ranges, in a list of lists. -/
structure RgI (V : World) (f : Nat → In) (h : Nat → Nat → Rg) (i : Nat) (rv : Value) (w' : World) : Prop where
  row : ∃ vs : List Value, vs.length = i ∧ w'.ownsRow V.heap.size 27 1 rv i vs ∧ ∀ j, j < i → ∃ b c, vs[j]? = some (.slice (some ⟨b, 0, none⟩) (f j).rn c) ∧ w'.ownsRow V.heap.size 50 2 (.slice (some ⟨b, 0, none⟩) (f j).rn c) (f j).rn (rc2 (h j) (f j).rn) ∧ rv.ownBlock ≠ some b
  lo : Below V.heap.size V w'
theorem RgI.start (V : World) (f : Nat → In) (h : Nat → Nat → Rg) : RgI V f h 0 (.slice none 0 0) V := ⟨⟨[], rfl, World.ownsRow_nil _ _ _ _, fun j hj => by omega⟩, Below.refl _ _⟩
theorem RgI.next {S T g cc N : Nat} {V : World} {f : Nat → In} {h : Nat → Nat → Rg} {i : Nat} {rv : Value} {w' : World} (p : Pw S T g cc N w' f h) (r : RgI V f h i rv w') (hi : i < N) (hN : N ≤ 100000) (hq : (f i).rn * 8 ≤ 140737488351232) :
    ∃ gx cap w2, (Builtin.append_ #[27, 27] 27 #[.slice (some ⟨w'.heap.size, 0, none⟩) 0 0, .slice (f i).ra (f i).rn (f i).rc]).run Try.prog (w'.alloc (.cells #[] 50)) = .ok (.slice (some ⟨gx, 0, none⟩) (f i).rn cap) w2 ∧
      ∃ g' c' w3, (Builtin.append_ #[48, 48] 48 #[rv, .slice (some ⟨w2.heap.size, 0, none⟩) 1 1]).run Try.prog (w2.alloc (.cells #[.slice (some ⟨gx, 0, none⟩) (f i).rn cap] 27)) = .ok (.slice (some ⟨g', 0, none⟩) (i + 1) c') w3 ∧ RgI V f h (i + 1) (.slice (some ⟨g', 0, none⟩) (i + 1) c') w3 := by
  obtain ⟨⟨vs, hvl, hrow, hold⟩, hlo⟩ := r
  obtain ⟨gx, cap, w2, r2, o2, b2, hg2, hlt2⟩ := fresh_copy (P := Try.prog) w' 27 50 _ 2 8 Try.underlying27 infG rfl (by decide) (f i).ra (f i).rn (f i).rc (rc2 (h i) (f i).rn) (fun e => by
    rcases p.form i hi with ⟨_, e1, e2⟩ | ⟨b, e1, _⟩
    · exact ⟨e1, e2⟩
    · rw [e] at e1; cases e1) (rc2_len _ _) (fun q hq' => by
    rcases p.form i hi with ⟨e1, _⟩ | ⟨b, e1, _⟩
    · rw [hq'] at e1; cases e1
    · rw [hq'] at e1
      cases e1
      exact (p.rg i hi).cells (g := b) (by unfold rgV; rw [hq']; rfl)) (rc2_one _ _) (by unfold maxLen; omega) (by omega)
  refine ⟨gx, cap, w2, r2, ?_⟩
  have k2 : Kp (fun _ => False) w' w2 := Kp.of b2
  have hrow2 : w2.ownsRow V.heap.size 27 1 rv vs.length vs := by rw [hvl]; exact k2.row hrow (fun _ _ => id)
  obtain ⟨g', c', w3, r3, o3, k3, hg3⟩ := append_l w2 V.heap.size rv vs (some ⟨gx, 0, none⟩) (f i).rn cap (Nat.le_trans hlo.size b2.size) (by omega) hrow2
  rw [hvl] at r3 o3
  refine ⟨g', c', w3, r3, ⟨vs ++ [.slice (some ⟨gx, 0, none⟩) (f i).rn cap], by simp [hvl], o3, fun j hj => ?_⟩, ?_⟩
  · have hnew : (Value.slice (some ⟨g', 0, none⟩) (i + 1) c').ownBlock = some g' := rfl
    have hown : ∀ b, rv.ownBlock = some b → V.heap.size ≤ b ∧ b < w'.heap.size := fun b e => hrow.lt b e
    by_cases e : j = i
    · subst e
      refine ⟨gx, cap, by rw [List.getElem?_append_right (by omega), hvl, Nat.sub_self]; rfl, row_mono (k3.row o2 (fun b e1 e2 => ?_)) hlo.size, fun e1 => ?_⟩
      · have e3 : gx = b := Option.some.inj e1
        have := (hown b e2).2
        omega
      · have e3 : g' = gx := Option.some.inj e1
        rcases hg3 with h3 | h3
        · have := (hown g' h3).2
          omega
        · omega
    · obtain ⟨b, c, e1, e2, e3⟩ := hold j (by omega)
      have hb := (e2.lt b rfl).2
      refine ⟨b, c, by rw [List.getElem?_append_left (by omega)]; exact e1, k3.row (k2.row e2 (fun _ _ => id)) (fun b' e4 e5 => ?_), fun e4 => ?_⟩
      · have e6 : b = b' := Option.some.inj e4
        subst e6
        exact e3 e5
      · have e5 : g' = b := Option.some.inj e4
        rcases hg3 with h3 | h3
        · rw [e5] at h3; exact e3 h3
        · have := b2.size
          omega
  · exact hlo.trans ((b2.mono hlo.size).trans (k3.below (Nat.le_trans hlo.size b2.size) (fun b hb e => by have := (hrow.lt b e).1; omega)))
/-- A list that is being lengthened. -/
structure LsI (S : Nat) (X : World) (v0 : Value) (n0 : Nat) (xs : List Value) (k : Nat) (lv : Value) (w' : World) : Prop where
  own0 : w'.ownsRow S 50 2 v0 n0 xs
  own : ∃ ys, w'.ownsRow S 50 2 lv (n0 + k) ys
  rel : LnR v0 lv n0 (n0 + k)
  kp : Kp (fun b => v0.ownBlock = some b) X w'
  blk : ∀ b, lv.ownBlock = some b → v0.ownBlock = some b ∨ X.heap.size ≤ b
theorem LsI.start {S : Nat} {X : World} {v0 : Value} {n0 : Nat} {xs : List Value} (o : X.ownsRow S 50 2 v0 n0 xs) : LsI S X v0 n0 xs 0 v0 X := by
  refine ⟨o, ⟨xs, o⟩, ?_, Kp.refl _ _, fun b e => .inl e⟩
  rcases o.2 with ⟨rfl, _⟩ | ⟨g, cap, cur, rfl, _⟩
  · exact .inr (fun b e => by cases e)
  · exact .inl ⟨g, cap, rfl, rfl, Nat.le_refl _⟩
theorem LsI.next {S : Nat} {X : World} {v0 : Value} {n0 : Nat} {xs : List Value} {k : Nat} {lv : Value} {w' : World} (l : LsI S X v0 n0 xs k lv w') (hS : S ≤ X.heap.size) (hn : (n0 + k + 1) * 8 ≤ 140737488355328) (x y : Int) :
    ∃ lv' w2, (Builtin.append_ #[27, 27] 27 #[lv, .slice (some ⟨w'.heap.size, 0, none⟩) 1 1]).run Try.prog (w'.alloc (.cells #[.int .i32 x, .int .i32 y] 50)) = .ok lv' w2 ∧ LsI S X v0 n0 xs (k + 1) lv' w2 := by
  obtain ⟨ys, hy⟩ := l.own
  obtain ⟨v', w2, r, o1, o0, hr, kk, hb⟩ := append_r w' S v0 lv n0 (n0 + k) xs ys x y (Nat.le_trans hS l.kp.size) hn l.own0 hy l.rel
  refine ⟨v', w2, r, o0, ⟨_, o1⟩, hr, l.kp.trans' kk (fun b hb' e => ?_), fun b e => ?_⟩
  · rcases l.blk b e with h | h
    · exact h
    · omega
  · rcases hb b e with h | h
    · exact l.blk b h
    · exact .inr (Nat.le_trans l.kp.size h)
/-- Texts written over. -/
theorem sc_set (f : Nat → ByteArray) (n j : Nat) (x : ByteArray) (hj : j < n) : (sc f n).set j (.string x) = sc (up f j x) n := by
  unfold sc
  apply List.ext_getElem?
  intro i
  rw [List.getElem?_set, List.getElem?_map, List.getElem?_map, List.length_map, List.length_range]
  by_cases h : i < n
  · rw [List.getElem?_range h, Option.map_some, Option.map_some]
    by_cases e : j = i
    · subst e; rw [if_pos rfl, if_pos hj, up_same]
    · rw [if_neg e, up_other _ _ _ _ (Ne.symm e)]
  · rw [List.getElem?_eq_none (by rw [List.length_range]; omega), Option.map_none, Option.map_none, if_neg (by omega)]
theorem text_at {S : Nat} {w : World} {a : Option Addr} {n c : Nat} {f : Nat → ByteArray} (o : w.ownsRow S 9 1 (.slice a n c) n (sc f n)) (j : Nat) (hj : j < n) (x : ByteArray) :
    ∃ b, a = some ⟨b, 0, none⟩ ∧ S ≤ b ∧ b < w.heap.size ∧ w.cell? ⟨b, j, none⟩ = some (.string (f j)) ∧ w.frozen? ⟨b, j, none⟩ = false ∧ (w.setCell ⟨b, j, none⟩ (.string x)).ownsRow S 9 1 (.slice a n c) n (sc (up f j x) n) ∧ Kp (fun q => q = b) w (w.setCell ⟨b, j, none⟩ (.string x)) := by
  rcases o.2 with ⟨_, h⟩ | ⟨b, cap, cur, e, hb, _⟩
  · omega
  · cases e
    refine ⟨b, rfl, hb, (o.lt b rfl).2, ?_, World.ownsRow.frozenAt o j, ?_, (Kp.refl (fun q => q = b) w).setCell (p := ⟨b, j, none⟩) (show b = b from rfl) _⟩
    · rw [World.ownsRow.cellAt o j (by omega)]
      unfold sc
      rw [List.getElem?_map, List.getElem?_range hj]
      rfl
    · rw [← sc_set f n j x hj]
      exact (World.ownsRow.stored o j (.string x)).1
end Go.Proofs.Ytbciclnffokjjaa
/- RxprogKeeps: the law's walk, up to its first loop. -/
namespace Go.Proofs.Ytbciclnffokjjaa
open Go.RowKit Go.Lib

/-- What the law's calls do, told to its walk. -/
structure KpH (d : Nd) (N n M : Nat) (ok : Bool) (h0 : Nat → Nat → Rg) (rn0 : Nat → Nat) (op0 : Nat → Int) (nf lf : Nat → ByteArray) (OA : Nat → World → Value → Prop) (WZ : Nat → Nat → World → Nd → Prop) (W : World) : Prop where
  awk : Calls Try.prog 17 #[] W fun e w' => e = .returned (.bool true) ∧ Below W.heap.size W w'
  cpy : ∀ w2 NB, Below W.heap.size W w2 → W.heap.size ≤ NB → NB < w2.heap.size → w2.heap[NB]? = some (ctX 0) → Calls Try.prog 18 #[ndV d, .pointer (some ⟨NB, 0, none⟩)] w2 fun e w' => (∃ du : Nd, e = .returned (ndV du) ∧ Hid (WZ w2.heap.size w'.heap.size w' du ∧ ∃ k, w'.heap[NB]? = some (ctX k))) ∧ Hid (Kp (fun b => b = NB) w2 w')
  cmp : ∀ w2, Below W.heap.size W w2 → Calls Try.prog 10 #[ndV d] w2 fun e w' => (∃ g cc na nc, e = .returned (.tuple #[prV (some ⟨g, 0, none⟩) N cc 0 (n : Int) na n nc, .int .i64 0]) ∧ Hid (∃ S' f, w2.heap.size ≤ S' ∧ (∀ b, (Value.slice na n nc).ownBlock = some b → b < S') ∧ OA S' w' (.slice (some ⟨g, 0, none⟩) N cc) ∧ Pw S' w'.heap.size g cc N w' f h0 ∧ (∀ j, j < N → (f j).rn = rn0 j ∧ (f j).op = op0 j) ∧ w'.ownsRow w2.heap.size 9 1 (.slice na n nc) n (sc nf n))) ∧ Hid (Below w2.heap.size w2 w')
  wds : ∀ w2, Below W.heap.size W w2 → Calls Try.prog 16 #[ndV d] w2 fun e w' => (∃ a c, e = .returned (.tuple #[.slice a M c, .bool ok]) ∧ Hid (w'.ownsRow w2.heap.size 9 1 (.slice a M c) M (sc lf M))) ∧ Hid (Below w2.heap.size w2 w')
  smp : ∀ S S' T T' w2 g cc na nc g' cc' na' nc', OA S w2 (.slice (some ⟨g, 0, none⟩) N cc) → OA S' w2 (.slice (some ⟨g', 0, none⟩) N cc') → w2.ownsRow T 9 1 (.slice na n nc) n (sc nf n) → w2.ownsRow T' 9 1 (.slice na' n nc') n (sc nf n) → Calls Try.prog 9 #[prV (some ⟨g, 0, none⟩) N cc 0 (n : Int) na n nc, prV (some ⟨g', 0, none⟩) N cc' 0 (n : Int) na' n nc'] w2 fun e w' => e = .returned (.bool true) ∧ Below w2.heap.size w2 w'
  smt : ∀ lo hi lo' hi' w2 du dv, hi ≤ w2.heap.size → hi' ≤ w2.heap.size → WZ lo hi w2 du → WZ lo' hi' w2 dv → Calls Try.prog 21 #[ndV du, ndV dv] w2 fun e w' => e = .returned (.bool true) ∧ Below w2.heap.size w2 w'
  oak : ∀ S w2 w3 v Mk, OA S w2 v → Kp Mk w2 w3 → (∀ b, S ≤ b → b < w2.heap.size → ¬ Mk b) → OA S w3 v
  wzk : ∀ lo hi w2 w3 du Mk, WZ lo hi w2 du → Kp Mk w2 w3 → (∀ b, lo ≤ b → b < hi → ¬ Mk b) → WZ lo hi w3 du
  xbx : ∀ w2 g, g + 1 = W.heap.size → Below W.heap.size W w2 → Cs w2 g 0 d
theorem pr_room {w : World} {B : Nat} {ia : Option Addr} {n ic : Nat} {st gr : Int} {na : Option Addr} {nn nc : Nat} (h : w.heap[B]? = some (prX ia n ic st gr na nn nc)) : w.cell? ⟨B, 0, none⟩ = some (.slice ia n ic) ∧ w.cell? ⟨B, 1, none⟩ = some (.int .i64 st) ∧ w.cell? ⟨B, 2, none⟩ = some (.int .i64 gr) ∧ w.cell? ⟨B, 3, none⟩ = some (.slice na nn nc) := by
  unfold World.cell?
  rw [h]
  exact ⟨rfl, rfl, rfl, rfl⟩
theorem txt_same {w : World} {S T : Nat} {a b : Option Addr} {n c c' : Nat} {f : Nat → ByteArray} (h : w.ownsRow S 9 1 (.slice a n c) n (sc f n)) (k : w.ownsRow T 9 1 (.slice b n c') n (sc f n)) (hn : n ≤ 1152921504606846976) : Calls Try.prog 19 #[.slice a n c, .slice b n c'] w fun e w' => e = .returned (.bool true) ∧ Below w.heap.size w w' := by
  obtain ⟨a1, c1, e1, h1⟩ := row_sml h
  obtain ⟨a2, c2, e2, h2⟩ := row_sml k
  cases e1
  cases e2
  exact sameTexts_true a b c c' n f w h1 h2 hn
/-- The names or words of one list, copied. -/
theorem txt_copy {w : World} {S : Nat} {a : Option Addr} {n c : Nat} {f : Nat → ByteArray} (h : w.ownsRow S 9 1 (.slice a n c) n (sc f n)) (hn : n ≤ 1000000) : ∃ g cap w', (Builtin.append_ #[23, 23] 23 #[.slice (some ⟨w.heap.size, 0, none⟩) 0 0, .slice a n c]).run Try.prog (w.alloc (.cells #[] 9)) = .ok (.slice (some ⟨g, 0, none⟩) n cap) w' ∧ w'.ownsRow w.heap.size 9 1 (.slice (some ⟨g, 0, none⟩) n cap) n (sc f n) ∧ Below w.heap.size w w' := by
  obtain ⟨a1, c1, e1, h1⟩ := row_sml h
  cases e1
  obtain ⟨g, cap, w', r, o, b, _, _⟩ := fresh_copy (P := Try.prog) w 23 9 _ 1 16 Try.underlying23 infS rfl (by decide) a n c (sc f n) (fun e => by
    rcases h.2 with ⟨e1, e2⟩ | ⟨g, cap, cur, e1, _⟩
    · cases e1; exact ⟨rfl, rfl⟩
    · cases e1; cases e) (by rw [sc_len]; omega) (fun p hp => by
    have h2 : Sml w (some p) f n := hp ▸ h1
    exact h2.cells) (sc_one _ _) (by unfold maxLen; omega) (by omega)
  exact ⟨g, cap, w', r, o, b⟩
/-- The blocks that the law writes over: those of p, those of l. -/
def MK (WB PB QB TL b : Nat) : Prop := (WB + 1 ≤ b ∧ b < PB) ∨ (QB + 1 ≤ b ∧ b < TL)
/-- What stays while it does. -/
structure FX (N n M : Nat) (h0 : Nat → Nat → Rg) (rn0 : Nat → Nat) (nf lf : Nat → ByteArray) (OA : Nat → World → Value → Prop) (WZ : Nat → Nat → World → Nd → Prop) (W : World) (NB WB PB QB TL SQ g cc : Nat) (na : Option Addr) (nc g2 c2 : Nat) (na2 : Option Addr) (nc2 : Nat) (ma : Option Addr) (mc ga ca gb cb : Nat) (du : Nd) (fq : Nat → In) (rv : Value) (w' : World) : Prop where
  lo : Below W.heap.size W w'
  px : w'.heap[PB]? = some (prX (some ⟨g, 0, none⟩) N cc 0 (n : Int) na n nc)
  qx : w'.heap[QB]? = some (prX (some ⟨g2, 0, none⟩) N c2 0 (n : Int) na2 n nc2)
  wx : w'.heap[WB]? = some (ndX du)
  oq : OA SQ w' (.slice (some ⟨g2, 0, none⟩) N c2)
  qw : Pw SQ QB g2 c2 N w' fq h0
  qn : w'.ownsRow (PB + 1) 9 1 (.slice na2 n nc2) n (sc nf n)
  mr : w'.ownsRow TL 9 1 (.slice ma M mc) M (sc lf M)
  nr : w'.ownsRow TL 9 1 (.slice (some ⟨ga, 0, none⟩) n ca) n (sc nf n)
  wr : w'.ownsRow TL 9 1 (.slice (some ⟨gb, 0, none⟩) M cb) M (sc lf M)
  wz : WZ (NB + 1) WB w' du
  nb : ∃ k, w'.heap[NB]? = some (ctX k)
  rg : ∃ vs : List Value, w'.ownsRow TL 27 1 rv N vs ∧ ∀ j, j < N → ∃ b c, vs[j]? = some (.slice (some ⟨b, 0, none⟩) (rn0 j) c) ∧ w'.ownsRow TL 50 2 (.slice (some ⟨b, 0, none⟩) (rn0 j) c) (rn0 j) (rc2 (h0 j) (rn0 j))
/-- The law behind its first loop. -/
structure KX (N n M : Nat) (h0 : Nat → Nat → Rg) (rn0 : Nat → Nat) (op0 : Nat → Int) (nf lf : Nat → ByteArray) (OA : Nat → World → Value → Prop) (WZ : Nat → Nat → World → Nd → Prop) (W : World) (NB WB PB QB TL SP SQ g cc : Nat) (na : Option Addr) (nc g2 c2 : Nat) (na2 : Option Addr) (nc2 : Nat) (la : Option Addr) (lc : Nat) (ma : Option Addr) (mc ga ca gb cb : Nat) (du : Nd) (fp fq : Nat → In) (rv : Value) (X : World) : Prop where
  ord : W.heap.size ≤ NB ∧ NB + 1 ≤ WB ∧ WB + 1 ≤ SP ∧ SP ≤ PB ∧ PB + 1 ≤ SQ ∧ PB + 1 ≤ QB ∧ QB + 1 ≤ TL ∧ TL ≤ X.heap.size
  pw : Pw SP PB g cc N X fp h0
  prn : ∀ j, j < N → (fp j).rn = rn0 j
  qrn : ∀ j, j < N → (fq j).rn = rn0 j ∧ (fq j).op = op0 j
  pn : X.ownsRow (WB + 1) 9 1 (.slice na n nc) n (sc nf n)
  pnl : ∀ b, (Value.slice na n nc).ownBlock = some b → b < SP
  lr : X.ownsRow (QB + 1) 9 1 (.slice la M lc) M (sc lf M)
  ll : ∀ b, (Value.slice la M lc).ownBlock = some b → b < TL
  fut : ∀ w', Kp (MK WB PB QB TL) X w' → FX N n M h0 rn0 nf lf OA WZ W NB WB PB QB TL SQ g cc na nc g2 c2 na2 nc2 ma mc ga ca gb cb du fq rv w'
theorem kx_of {d : Nd} {N n M : Nat} {ok : Bool} {h0 : Nat → Nat → Rg} {rn0 : Nat → Nat} {op0 : Nat → Int} {nf lf : Nat → ByteArray} {OA : Nat → World → Value → Prop} {WZ : Nat → Nat → World → Nd → Prop} {W V5 V7 V X : World} {NB WB PB QB TL SP SQ g cc : Nat} {na : Option Addr} {nc g2 c2 : Nat} {na2 : Option Addr} {nc2 : Nat} {la : Option Addr} {lc : Nat} {ma : Option Addr} {mc ga ca gb cb : Nat} {du : Nd} {fp fq : Nat → In} {rv : Value}
    (HH : KpH d N n M ok h0 rn0 op0 nf lf OA WZ W) (l1 : W.heap.size ≤ NB) (l2 : NB + 1 ≤ WB) (l3 : PB + 1 ≤ QB) (l4 : QB + 1 ≤ TL) (l5 : TL ≤ V.heap.size) (z5 : V5.heap.size = PB + 1) (z7 : V7.heap.size = QB + 1)
    (HPP : WB + 1 ≤ SP ∧ (∀ b, (Value.slice na n nc).ownBlock = some b → b < SP) ∧ Pw SP PB g cc N V5 fp h0 ∧ (∀ j, j < N → (fp j).rn = rn0 j) ∧ V5.ownsRow (WB + 1) 9 1 (.slice na n nc) n (sc nf n))
    (HQQ : PB + 1 ≤ SQ ∧ OA SQ V7 (.slice (some ⟨g2, 0, none⟩) N c2) ∧ Pw SQ QB g2 c2 N V7 fq h0 ∧ (∀ j, j < N → (fq j).rn = rn0 j ∧ (fq j).op = op0 j) ∧ V7.ownsRow (PB + 1) 9 1 (.slice na2 n nc2) n (sc nf n))
    (HT : V.ownsRow TL 9 1 (.slice ma M mc) M (sc lf M) ∧ V.ownsRow TL 9 1 (.slice (some ⟨ga, 0, none⟩) n ca) n (sc nf n) ∧ V.ownsRow TL 9 1 (.slice (some ⟨gb, 0, none⟩) M cb) M (sc lf M) ∧ V.ownsRow (QB + 1) 9 1 (.slice la M lc) M (sc lf M) ∧ ∀ b, (Value.slice la M lc).ownBlock = some b → b < TL)
    (HWV : WZ (NB + 1) WB V5 du ∧ ∃ k, V5.heap[NB]? = some (ctX k)) (HWX : V5.heap[WB]? = some (ndX du)) (HPX : V5.heap[PB]? = some (prX (some ⟨g, 0, none⟩) N cc 0 (n : Int) na n nc)) (HQX : V7.heap[QB]? = some (prX (some ⟨g2, 0, none⟩) N c2 0 (n : Int) na2 n nc2))
    (bW5 : Below W.heap.size W V5) (b5 : Below V5.heap.size V5 V) (b7 : Below V7.heap.size V7 V) (hR : RgI V fp h0 N rv X) :
    KX N n M h0 rn0 op0 nf lf OA WZ W NB WB PB QB TL SP SQ g cc na nc g2 c2 na2 nc2 la lc ma mc ga ca gb cb du fp fq rv X := by
  obtain ⟨p1, p2, p3, p4, p5⟩ := HPP
  obtain ⟨r1, r2, r3, r4, r5⟩ := HQQ
  obtain ⟨t1, t2, t3, t4, t5⟩ := HT
  obtain ⟨u1, k, u2⟩ := HWV
  have hSP : SP < PB := Nat.lt_of_le_of_lt (p3.row.lt g rfl).1 p3.gt
  have hVX := hR.lo.size
  have kVX : Kp (fun _ => False) V X := Kp.of hR.lo
  have k5X : Kp (fun _ => False) V5 X := (Kp.of b5).trans kVX
  have k7X : Kp (fun _ => False) V7 X := (Kp.of b7).trans kVX
  have bWX : Below W.heap.size W X := bW5.trans ((b5.trans (hR.lo.mono b5.size)).mono bW5.size)
  refine ⟨⟨l1, l2, p1, by omega, r1, l3, l4, by omega⟩, p3.kp k5X (fun _ _ _ => id), p4, r4, k5X.row p5 (fun _ _ => id), p2, kVX.row t4 (fun _ _ => id), t5, fun w' kk => ?_⟩
  have kV : Kp (MK WB PB QB TL) V w' := (Kp.of hR.lo).trans kk
  have k5 : Kp (MK WB PB QB TL) V5 w' := (Kp.of b5).trans kV
  have k7 : Kp (MK WB PB QB TL) V7 w' := (Kp.of b7).trans kV
  have nMK : ∀ b, b ≤ WB ∨ (PB ≤ b ∧ b ≤ QB) ∨ TL ≤ b → ¬ MK WB PB QB TL b := fun b hb e => by unfold MK at e; omega
  obtain ⟨vs, v1, v2, v3⟩ := hR.row
  exact {
    lo := bWX.trans (kk.below bWX.size (fun b hb => nMK b (by omega)))
    px := (k5.block PB (by omega) (nMK PB (by omega))).trans HPX
    qx := (k7.block QB (by omega) (nMK QB (by omega))).trans HQX
    wx := (k5.block WB (by omega) (nMK WB (by omega))).trans HWX
    oq := HH.oak _ _ _ _ _ r2 k7 (fun b e1 e2 => nMK b (by omega))
    qw := r3.kp k7 (fun b e1 e2 => nMK b (by omega))
    qn := k7.row r5 (fun b e => nMK b (by have := r5.lt b e; omega))
    mr := kV.row t1 (fun b e => nMK b (by have := t1.lt b e; omega))
    nr := kV.row t2 (fun b e => nMK b (by have := t2.lt b e; omega))
    wr := kV.row t3 (fun b e => nMK b (by have := t3.lt b e; omega))
    wz := HH.wzk _ _ _ _ _ _ u1 k5 (fun b e1 e2 => nMK b (by omega))
    nb := ⟨k, (k5.block NB (by omega) (nMK NB (by omega))).trans u2⟩
    rg := ⟨vs, row_mono (kk.row v2 (fun b e => nMK b (by have := v2.lt b e; omega))) l5, fun j hj => by
      obtain ⟨b, c, e1, e2, _⟩ := v3 j hj
      rw [p4 j hj] at e1 e2
      exact ⟨b, c, e1, row_mono (kk.row e2 (fun b e => nMK b (by have := e2.lt b e; omega))) l5⟩⟩ }
theorem pr_al {w w' : World} (ia : Option Addr) (n ic : Nat) (st gr : Int) (na : Option Addr) (nn nc : Nat) (h : Below (w.alloc (prX ia n ic st gr na nn nc)).heap.size (w.alloc (prX ia n ic st gr na nn nc)) w') : w'.heap[w.heap.size]? = some (prX ia n ic st gr na nn nc) := (h.block _ (by simp)).trans (heap_alloc_new w _)

set_option maxHeartbeats 4000000 in
set_option maxRecDepth 100000 in
def keepsX : { P : Prop // Hid P → ∀ (d : Nd) (N n M : Nat) (ok : Bool) (h0 : Nat → Nat → Rg) (rn0 : Nat → Nat) (op0 : Nat → Int) (nf lf : Nat → ByteArray) (OA : Nat → World → Value → Prop) (WZ : Nat → Nat → World → Nd → Prop) (w : World) (_ : N ≤ 10001) (_ : n ≤ 100) (_ : M ≤ 64) (_ : ∀ j, j < N → op0 j ≠ -1) (_ : ∀ j, j < N → rn0 j * 8 ≤ 140737488351232) (_ : Hid (KpH d N n M ok h0 rn0 op0 nf lf OA WZ (w.alloc (ndX d)))),
    Calls Try.prog 6 #[ndV d] w fun e w' => e = .returned (.bool true) ∧ Below w.heap.size w w' } := by
  refine' ⟨_, fun Q1 => _⟩
  rotate_left 1
  · intro d N n M ok h0 rn0 op0 nf lf OA WZ w hN1 hn1 hM1 hop hrn HH
    obtain ⟨W, hW⟩ : ∃ W, W = w.alloc (ndX d) := ⟨_, rfl⟩
    have HW : Hid (W = w.alloc (ndX d)) := hW
    have hWz : W.heap.size = w.heap.size + 1 := by rw [hW]; simp
    have HWz : Hid (W.heap.size = w.heap.size + 1) := hWz
    have HB0 : Hid (Below w.heap.size w W) := by rw [hW]; exact (Below.refl _ w).alloc (Nat.le_refl _) _
    rw [← hW] at HH
    have HOP : Hid (∀ j, j < N → op0 j ≠ -1) := hop
    have HRN : Hid (∀ j, j < N → rn0 j * 8 ≤ 140737488351232) := hrn
    have kA := HH.out.awk
    obtain ⟨GB, hGB⟩ : ∃ GB, GB = w.heap.size := ⟨_, rfl⟩
    have HGB : Hid (GB = w.heap.size) := hGB
    have HX : Hid (∀ w2, Below W.heap.size W w2 → Cs w2 GB 0 d) := fun w2 b => HH.out.xbx w2 GB (by omega) b
    clear hW hop hrn hWz hGB
    go_enter Try.func6, Try.ntmps6
    go_upto_region 1 with fail
    rw [← HW.out, ← HGB.out]
    go_wp2_with fail
    go_fit kA
    rintro e w1 ⟨rfl, b1⟩
    obtain ⟨NB, hNB⟩ : ∃ NB, NB = w1.heap.size := ⟨_, rfl⟩
    have HNB : Hid (NB = w1.heap.size) := hNB
    obtain ⟨V1, hV1⟩ : ∃ V1, V1 = w1.alloc (.cells #[.int .i64 0] 3) := ⟨_, rfl⟩
    have HV1 : Hid (V1 = w1.alloc (.cells #[.int .i64 0] 3)) := hV1
    have BV1 : Hid (Below W.heap.size W V1) := by rw [hV1]; exact b1.alloc b1.size _
    have zV1 : Hid (V1.heap.size = NB + 1) := by rw [hV1, hNB]; exact World.size_alloc _ _
    have lNB : Hid (W.heap.size ≤ NB) := by rw [hNB]; exact b1.size
    have kC := HH.out.cpy V1 NB BV1.out lNB.out (by have := zV1.out; omega) (by rw [hV1, hNB]; exact heap_alloc_new w1 _)
    obtain ⟨q0, q1, q2, q3, q4, q5, q6, q7, q8⟩ := HX.out V1 BV1.out
    simp only [Nat.zero_add] at q0 q1 q2 q3 q4 q5 q6 q7 q8
    clear kA b1 hV1 hNB
    go_upto_region 4 with fail
    rw [← HV1.out, ← HNB.out]
    go_wp2_with fail
    go_fit kC
    rintro e w3 ⟨⟨du, rfl, HWZ⟩, HK3⟩
    obtain ⟨WB, hWB⟩ : ∃ WB, WB = w3.heap.size := ⟨_, rfl⟩
    have HWB : Hid (WB = w3.heap.size) := hWB
    obtain ⟨V3, hV3⟩ : ∃ V3, V3 = w3.alloc (ndX du) := ⟨_, rfl⟩
    have HV3 : Hid (V3 = w3.alloc (ndX du)) := hV3
    have lWB : Hid (NB + 1 ≤ WB) := by have e1 := HK3.out.size; have e2 := zV1.out; unfold Hid; omega
    have zV3 : Hid (V3.heap.size = WB + 1) := by rw [hV3, hWB]; exact World.size_alloc _ _
    have B3 : Hid (Below W.heap.size W w3) := BV1.out.trans (HK3.out.below BV1.out.size (fun b hb e => by have e' : b = NB := e; have := lNB.out; omega))
    have BV3 : Hid (Below W.heap.size W V3) := by rw [hV3]; exact B3.out.alloc B3.out.size _
    have hWX : Hid (V3.heap[WB]? = some (ndX du)) := by rw [hV3, hWB]; exact heap_alloc_new w3 _
    have k3 : Kp (fun _ => False) w3 V3 := by rw [hV3]; exact (Kp.refl _ w3).alloc _
    have HWV : Hid (WZ (NB + 1) WB V3 du ∧ ∃ k, V3.heap[NB]? = some (ctX k)) := by
      obtain ⟨e1, k, e2⟩ := HWZ.out
      rw [zV1.out, ← hWB] at e1
      exact ⟨HH.out.wzk _ _ _ _ _ _ e1 k3 (fun _ _ _ => id), k, (k3.block NB (by have := lWB.out; omega) id).trans e2⟩
    have kP := HH.out.cmp V3 BV3.out
    clear kC hV3 hWB q0 q1 q2 q3 q4 q5 q6 q7 q8 HWZ HK3 B3 k3 BV1 zV1
    obtain ⟨q0, q1, q2, q3, q4, q5, q6, q7, q8⟩ := HX.out V3 BV3.out
    simp only [Nat.zero_add] at q0 q1 q2 q3 q4 q5 q6 q7 q8
    go_upto_region 5 with fail
    rw [← HV3.out, ← HWB.out]
    go_wp2_with fail
    go_fit kP
    rintro e w5 ⟨⟨g, cc, na, nc, rfl, HP⟩, B5⟩
    obtain ⟨PB, hPB⟩ : ∃ PB, PB = w5.heap.size := ⟨_, rfl⟩
    have HPB : Hid (PB = w5.heap.size) := hPB
    obtain ⟨V5, hV5⟩ : ∃ V5, V5 = w5.alloc (prX (some ⟨g, 0, none⟩) N cc 0 (n : Int) na n nc) := ⟨_, rfl⟩
    have HV5 : Hid (V5 = w5.alloc (prX (some ⟨g, 0, none⟩) N cc 0 (n : Int) na n nc)) := hV5
    have lPB : Hid (WB + 1 ≤ PB) := by have e1 := B5.out.size; have e2 := zV3.out; unfold Hid; omega
    have zV5 : Hid (V5.heap.size = PB + 1) := by rw [hV5, hPB]; exact World.size_alloc _ _
    have b35 : Below V3.heap.size V3 V5 := by rw [hV5]; exact B5.out.alloc B5.out.size _
    have BV5 : Hid (Below W.heap.size W V5) := BV3.out.trans (b35.mono BV3.out.size)
    have k5 : Kp (fun _ => False) w5 V5 := by rw [hV5]; exact (Kp.refl _ w5).alloc _
    have HPX : Hid (V5.heap[PB]? = some (prX (some ⟨g, 0, none⟩) N cc 0 (n : Int) na n nc)) := by rw [hV5, hPB]; exact heap_alloc_new w5 _
    have HP5 : Hid (∃ S' f, WB + 1 ≤ S' ∧ (∀ b, (Value.slice na n nc).ownBlock = some b → b < S') ∧ OA S' V5 (.slice (some ⟨g, 0, none⟩) N cc) ∧ Pw S' PB g cc N V5 f h0 ∧ (∀ j, j < N → (f j).rn = rn0 j) ∧ V5.ownsRow (WB + 1) 9 1 (.slice na n nc) n (sc nf n)) := by
      obtain ⟨S', f, e1, e2, e3, e4, e5, e6⟩ := HP.out
      rw [zV3.out] at e1 e6
      rw [← hPB] at e4
      exact ⟨S', f, e1, e2, HH.out.oak _ _ _ _ _ e3 k5 (fun _ _ _ => id), e4.kp k5 (fun _ _ _ => id), fun j hj => (e5 j hj).1, k5.row e6 (fun _ _ => id)⟩
    have HWV5 : Hid (WZ (NB + 1) WB V5 du ∧ ∃ k, V5.heap[NB]? = some (ctX k)) := by
      obtain ⟨e1, k, e2⟩ := HWV.out
      have kk : Kp (fun _ => False) V3 V5 := Kp.of b35
      exact ⟨HH.out.wzk _ _ _ _ _ _ e1 kk (fun _ _ _ => id), k, (kk.block NB (by have := zV3.out; have := lWB.out; omega) id).trans e2⟩
    have HWX5 : Hid (V5.heap[WB]? = some (ndX du)) := (b35.block WB (by have := zV3.out; omega)).trans hWX.out
    have kQ := HH.out.cmp V5 BV5.out
    clear kP hV5 hPB q0 q1 q2 q3 q4 q5 q6 q7 q8 HP B5 b35 k5 HWV hWX BV3 zV3
    obtain ⟨q0, q1, q2, q3, q4, q5, q6, q7, q8⟩ := HX.out V5 BV5.out
    simp only [Nat.zero_add] at q0 q1 q2 q3 q4 q5 q6 q7 q8
    go_upto_region 8 with fail
    rw [← HV5.out, ← HPB.out]
    go_wp2_with fail
    go_fit kQ
    rintro e w7 ⟨⟨g2, c2, na2, nc2, rfl, HP⟩, B7⟩
    obtain ⟨QB, hQB⟩ : ∃ QB, QB = w7.heap.size := ⟨_, rfl⟩
    have HQB : Hid (QB = w7.heap.size) := hQB
    obtain ⟨V7, hV7⟩ : ∃ V7, V7 = w7.alloc (prX (some ⟨g2, 0, none⟩) N c2 0 (n : Int) na2 n nc2) := ⟨_, rfl⟩
    have HV7 : Hid (V7 = w7.alloc (prX (some ⟨g2, 0, none⟩) N c2 0 (n : Int) na2 n nc2)) := hV7
    have lQB : Hid (PB + 1 ≤ QB) := by have e1 := B7.out.size; have e2 := zV5.out; unfold Hid; omega
    have zV7 : Hid (V7.heap.size = QB + 1) := by rw [hV7, hQB]; exact World.size_alloc _ _
    have B57 : Hid (Below V5.heap.size V5 V7) := by rw [hV7]; exact B7.out.alloc B7.out.size _
    have BV7 : Hid (Below W.heap.size W V7) := BV5.out.trans (B57.out.mono BV5.out.size)
    have k7 : Kp (fun _ => False) w7 V7 := by rw [hV7]; exact (Kp.refl _ w7).alloc _
    have HQX : Hid (V7.heap[QB]? = some (prX (some ⟨g2, 0, none⟩) N c2 0 (n : Int) na2 n nc2)) := by rw [hV7, hQB]; exact heap_alloc_new w7 _
    have HQ7 : Hid (∃ S' f, PB + 1 ≤ S' ∧ OA S' V7 (.slice (some ⟨g2, 0, none⟩) N c2) ∧ Pw S' QB g2 c2 N V7 f h0 ∧ (∀ j, j < N → (f j).rn = rn0 j ∧ (f j).op = op0 j) ∧ V7.ownsRow (PB + 1) 9 1 (.slice na2 n nc2) n (sc nf n)) := by
      obtain ⟨S', f, e1, e2, e3, e4, e5, e6⟩ := HP.out
      rw [zV5.out] at e1 e6
      rw [← hQB] at e4
      exact ⟨S', f, e1, HH.out.oak _ _ _ _ _ e3 k7 (fun _ _ _ => id), e4.kp k7 (fun _ _ _ => id), e5, k7.row e6 (fun _ _ => id)⟩
    have kL := HH.out.wds V7 BV7.out
    clear kQ hV7 hQB q0 q1 q2 q3 q4 q5 q6 q7 q8 HP B7 k7
    obtain ⟨q0, q1, q2, q3, q4, q5, q6, q7, q8⟩ := HX.out V7 BV7.out
    simp only [Nat.zero_add] at q0 q1 q2 q3 q4 q5 q6 q7 q8
    go_upto_region 9 with fail
    rw [← HV7.out, ← HQB.out]
    go_wp2_with fail
    go_fit kL
    rintro e w9 ⟨⟨la, lc, rfl, HL9⟩, B9⟩
    have BW9 : Hid (Below W.heap.size W w9) := BV7.out.trans (B9.out.mono BV7.out.size)
    have kM := HH.out.wds w9 BW9.out
    clear kL q0 q1 q2 q3 q4 q5 q6 q7 q8
    obtain ⟨q0, q1, q2, q3, q4, q5, q6, q7, q8⟩ := HX.out w9 BW9.out
    simp only [Nat.zero_add] at q0 q1 q2 q3 q4 q5 q6 q7 q8
    go_wp2_with fail
    go_fit kM
    rintro e w10 ⟨⟨ma, mc, rfl, HM10⟩, B10⟩
    clear kM q0 q1 q2 q3 q4 q5 q6 q7 q8
    have b7t : Below V7.heap.size V7 w10 := B9.out.trans (B10.out.mono B9.out.size)
    have B7T : Hid (Below V7.heap.size V7 w10) := b7t
    have B5T : Hid (Below V5.heap.size V5 w10) := B57.out.trans (b7t.mono B57.out.size)
    obtain ⟨SP, fp, p1, p2, p3, p4, p5, p6⟩ := HP5.out
    obtain ⟨SQ, fq, r1, r2, r3, r4, r5⟩ := HQ7.out
    have kT := txt_same ((Kp.of (M := fun _ => False) B10.out).row HL9.out (fun _ _ => id)) HM10.out (by omega)
    have HKS : Hid (∀ w', Below w10.heap.size w10 w' → (Calls Try.prog 9 #[prV (some ⟨g, 0, none⟩) N cc 0 (n : Int) na n nc, prV (some ⟨g2, 0, none⟩) N c2 0 (n : Int) na2 n nc2] w' fun e w'' => e = .returned (.bool true) ∧ Below w'.heap.size w' w'') ∧ w'.heap[PB]? = some (prX (some ⟨g, 0, none⟩) N cc 0 (n : Int) na n nc) ∧ w'.heap[QB]? = some (prX (some ⟨g2, 0, none⟩) N c2 0 (n : Int) na2 n nc2)) := fun w' b => by
      have k5 : Kp (fun _ => False) V5 w' := Kp.of (B5T.out.trans (b.mono B5T.out.size))
      have k7 : Kp (fun _ => False) V7 w' := Kp.of (B7T.out.trans (b.mono B7T.out.size))
      exact ⟨HH.out.smp SP SQ (WB + 1) (PB + 1) w' g cc na nc g2 c2 na2 nc2 (HH.out.oak _ _ _ _ _ p3 k5 (fun _ _ _ => id)) (HH.out.oak _ _ _ _ _ r2 k7 (fun _ _ _ => id)) (k5.row p6 (fun _ _ => id)) (k7.row r5 (fun _ _ => id)), (k5.block PB (by have := zV5.out; omega) id).trans HPX.out, (k7.block QB (by have := zV7.out; omega) id).trans HQX.out⟩
    have HPP : Hid (WB + 1 ≤ SP ∧ (∀ b, (Value.slice na n nc).ownBlock = some b → b < SP) ∧ Pw SP PB g cc N V5 fp h0 ∧ (∀ j, j < N → (fp j).rn = rn0 j) ∧ V5.ownsRow (WB + 1) 9 1 (.slice na n nc) n (sc nf n)) := ⟨p1, p2, p4, p5, p6⟩
    have HQQ : Hid (PB + 1 ≤ SQ ∧ OA SQ V7 (.slice (some ⟨g2, 0, none⟩) N c2) ∧ Pw SQ QB g2 c2 N V7 fq h0 ∧ (∀ j, j < N → (fq j).rn = rn0 j ∧ (fq j).op = op0 j) ∧ V7.ownsRow (PB + 1) 9 1 (.slice na2 n nc2) n (sc nf n)) := ⟨r1, r2, r3, r4, r5⟩
    clear p1 p2 p3 p4 p5 p6 r1 r2 r3 r4 r5 HP5 HQ7 b7t
    have hkk : (ok != ok) = false := by cases ok <;> rfl
    go_wp2_with fail
    go_fit kT
    rintro e w11 ⟨rfl, b11⟩
    obtain ⟨kS, hp11, hq11⟩ := HKS.out w11 b11
    obtain ⟨x0, x1, x2, x3⟩ := pr_room hp11
    obtain ⟨y0, y1, y2, y3⟩ := pr_room hq11
    have B11 : Hid (Below w10.heap.size w10 w11) := b11
    clear kT hp11 hq11 b11
    go_wp2_with fail
    go_fit kS
    rintro e w12 ⟨rfl, b12⟩
    have B12 : Hid (Below w10.heap.size w10 w12) := B11.out.trans (b12.mono B11.out.size)
    have k5 : Kp (fun _ => False) V5 w12 := Kp.of (B5T.out.trans (B12.out.mono B5T.out.size))
    obtain ⟨ga, ca, w13, r13, o13, b13⟩ := txt_copy (k5.row HPP.out.2.2.2.2 (fun _ _ => id)) (by omega)
    have B13 : Hid (Below w10.heap.size w10 w13) := B12.out.trans (b13.mono B12.out.size)
    have k9 : Kp (fun _ => False) w9 w13 := Kp.of (B10.out.trans (B13.out.mono B10.out.size))
    obtain ⟨gb, cb, w14, r14, o14, b14⟩ := txt_copy (k9.row HL9.out (fun _ _ => id)) (by omega)
    have B14 : Hid (Below w10.heap.size w10 w14) := B13.out.trans (b14.mono B13.out.size)
    obtain ⟨TL, hTL⟩ : ∃ TL, TL = w9.heap.size := ⟨_, rfl⟩
    have lTL : Hid (QB + 1 ≤ TL) := by have := B9.out.size; have := zV7.out; unfold Hid; omega
    have B9V : Below w9.heap.size w9 w14 := B10.out.trans (B14.out.mono B10.out.size)
    have B7V : Hid (Below V7.heap.size V7 w14) := B9.out.trans (B9V.mono B9.out.size)
    have B5V : Hid (Below V5.heap.size V5 w14) := B57.out.trans (B7V.out.mono B57.out.size)
    have lV : Hid (TL ≤ w14.heap.size) := by rw [hTL]; exact B9V.size
    have HTx : Hid (w14.ownsRow TL 9 1 (.slice ma M mc) M (sc lf M) ∧ w14.ownsRow TL 9 1 (.slice (some ⟨ga, 0, none⟩) n ca) n (sc nf n) ∧ w14.ownsRow TL 9 1 (.slice (some ⟨gb, 0, none⟩) M cb) M (sc lf M) ∧ w14.ownsRow (QB + 1) 9 1 (.slice la M lc) M (sc lf M) ∧ ∀ b, (Value.slice la M lc).ownBlock = some b → b < TL) := by
      rw [hTL]
      refine ⟨(Kp.of (M := fun _ => False) B14.out).row HM10.out (fun _ _ => id), row_mono ((Kp.of (M := fun _ => False) b14).row o13 (fun _ _ => id)) (Nat.le_trans B10.out.size B12.out.size), row_mono o14 (Nat.le_trans B10.out.size B13.out.size), ?_, fun b e => (HL9.out.lt b e).2⟩
      rw [← zV7.out]
      exact (Kp.of (M := fun _ => False) B9V).row HL9.out (fun _ _ => id)
    obtain ⟨_, hp12, _⟩ := HKS.out w12 B12.out
    have x3' : (w12.alloc (.cells #[] 9)).cell? ⟨PB, 3, none⟩ = some (.slice na n nc) := bcell2 ((Below.refl _ w12).alloc (Nat.le_refl _) _) (pr_room hp12).2.2.2
    clear kS HKS hp12 b12 k5 o13 b13 k9 o14 b14 B9V hTL x0 x1 x2 x3 y0 y1 y2 y3 hkk B12 B13
    go_wp2_with (at_builtin; first | refine wpList_append_run rfl (.tmp 72) (.tmp 74) 23 23 rfl _ _ rfl rfl r13 ?_ | refine wpList_append_run rfl (.tmp 76) (.tmp 77) 23 23 rfl _ _ rfl rfl r14 ?_)
    clear r13 r14 x3'
    have HPV : Hid (Pw SP PB g cc N w14 fp h0 ∧ ∀ j, j < N → (fp j).rn = rn0 j) := ⟨HPP.out.2.2.1.kp (Kp.of (M := fun _ => False) B5V.out) (fun _ _ _ => id), HPP.out.2.2.2.1⟩
    have HPX14 : Hid (w14.heap[PB]? = some (prX (some ⟨g, 0, none⟩) N cc 0 (n : Int) na n nc)) := (B5V.out.block PB (by have := zV5.out; omega)).trans HPX.out
    go_loopw [15, 16] (fun rv ivv w' => ∃ i : Nat, ivv = .int .i64 (i : Int) ∧ i ≤ N ∧ Hid (RgI w14 fp h0 i rv w')) (fun _ ivv _ => N - (RowKit.intOf ivv).toNat)
    case atStart => exact ⟨0, rfl, Nat.zero_le _, RgI.start _ _ _⟩
    case round =>
      obtain ⟨i, rfl, hi, hinv⟩ := hrel
      have HPXr : wr.heap[PB]? = some (prX (some ⟨g, 0, none⟩) N cc 0 (n : Int) na n nc) := (hinv.out.lo.block PB (by have := lPB.out; have := lQB.out; have := lTL.out; have := lV.out; omega)).trans HPX14.out
      obtain ⟨x0, _, _, _⟩ := pr_room HPXr
      have hNI : (N : Int) ≤ 10001 := by omega
      by_cases hlt : i < N
      · have hii : (i : Int) < N := by omega
        have hpw := HPV.out.1.kp (Kp.of (M := fun _ => False) hinv.out.lo) (fun _ _ _ => id)
        obtain ⟨_, xc, _⟩ := hpw.cell i hlt
        obtain ⟨gx, cap, wx, rx, g', c', wy, ry, HN⟩ := hinv.out.next hpw hlt (by omega) (by rw [HPV.out.2 i hlt]; exact HRN.out i hlt)
        have HN' : Hid _ := HN
        have xa0 : (wr.alloc (.cells #[] 50)).cell? ⟨PB, 0, none⟩ = some (.slice (some ⟨g, 0, none⟩) N cc) := bcell2 ((Below.refl _ wr).alloc (Nat.le_refl _) _) x0
        have xac : (wr.alloc (.cells #[] 50)).cell? ⟨g, i * 5 + 4, none⟩ = some (.slice (fp i).ra (fp i).rn (fp i).rc) := bcell2 ((Below.refl _ wr).alloc (Nat.le_refl _) _) xc
        clear hpw HN hinv xc HPXr
        generalize fp i = fi at *
        go_wp2_with (at_builtin; first | refine wpList_append_run rfl (.tmp 87) (.tmp 93) 27 27 rfl _ _ rfl rfl rx ?_ | refine wpList_append_run rfl (.tmp 86) (.tmp 95) 48 48 rfl _ _ rfl rfl ry ?_)
        exact ⟨⟨i + 1, by go_num, by omega, HN'⟩, by simp [RowKit.intOf]; omega⟩
      · have hiN : N = i := by omega
        subst hiN
        have HKX : Hid (KX N n M h0 rn0 op0 nf lf OA WZ W NB WB PB QB TL SP SQ g cc na nc g2 c2 na2 nc2 la lc ma mc ga ca gb cb du fp fq u15 wr) := kx_of HH.out lNB.out lWB.out lQB.out lTL.out lV.out zV5.out zV7.out HPP.out HQQ.out HTx.out HWV5.out HWX5.out HPX.out HQX.out BV5.out B5V.out B7V.out hinv.out
        have hii : ¬ (N : Int) < N := by omega
        clear hinv HPXr HPV HPX14 HPP HQQ HTx HWV5 HWX5 HPX HQX BV5 B5V B7V B57 BV7 HV1 HV3 HV5 HV7 HNB HWB HPB HQB lNB lWB lPB lQB lTL lV zV5 zV7 B9 HL9 BW9 HM10 B10 B11 B14 B7T B5T HW hi hlt hNI
        clear V1 w1 V3 w3 w5 w7
        go_wp2_with fail
        clear hii x0
        rename_i zQ zl2 zr1 zK2 zl1 zl0 zr0 zQ2 zK1 za1 zK za
        clear zl2 zr1 zl1 zl0 zr0 za1 zK1 zQ2 zK2
        clear V5 V7 w9 w10 w11 w14
        revert d N n M ok h0 rn0 op0 nf lf OA WZ w hN1 hn1 hM1 W HH HWz HB0 HOP HRN GB HGB HX zQ NB du WB g cc na nc PB g2 c2 na2 nc2 QB la lc ma mc SP fp SQ fq ga ca gb cb TL w12 w13 wr u15 u79 u80 u81 u82 u83 u84 u85 u86 u87 u88 u89 u90 u91 u92 u93 u94 u95 u96 HKX zK za
        exact Q1.out
end Go.Proofs.Ytbciclnffokjjaa
