/- A bundle of texts. -/
import Derived.Test.YtbciclnffokjjaaDoorBb11
import Derived.OwnWalk
/- Code: alternatives, what they want: patches; a row of places beside a coder. -/
namespace Go.Proofs.YtbciclnffokjjaaDoor
open Go.RowKit

theorem n5_setq (f : Nat → In) (j q : Nat) (u : Value) (x : In) (hq : q < 5) (hx : (i5 (f j)).set q u = i5 x) : ∀ n, j < n → (n5 f n).set (j * 5 + q) u = n5 (up f j x) n
  | 0, h => by omega
  | n + 1, h => by
    rw [n5_succ, n5_succ]
    by_cases hj : j < n
    · rw [List.set_append_left _ _ (by rw [n5_len]; omega), n5_setq f j q u x hq hx n hj, up_other _ _ _ n (by omega)]
    · obtain rfl : j = n := by omega
      rw [List.set_append_right _ _ (by rw [n5_len]; omega), n5_len, up_same, n5_congr f _ j (fun k hk => (up_other f j _ k (by omega)).symm)]
      congr 1
      rw [show j * 5 + q - j * 5 = q by omega]
      exact hx
/-- A field of an instruction of the code is written. -/
theorem Cd.patch {Z : Nat → Prop} {S B g cc : Nat} {w : World} {f : Nat → In} {c : List Ia} (h : Cd Z S w B (.slice (some ⟨g, 0, none⟩) c.length cc) f c) (j q : Nat) (u : Value) (i y : Ia) (x : In) (hj : c[j]? = some i) (hq : q < 5) (hx : (i5 (f j)).set q u = i5 x) (hy : x.op = y.op ∧ x.out = y.out ∧ x.alt = y.alt ∧ x.arg = y.arg) (hr : x.ra = (f j).ra ∧ x.rn = (f j).rn ∧ y.rs = i.rs) :
    Cd Z S (w.setCell ⟨g, j * 5 + q, none⟩ u) B (.slice (some ⟨g, 0, none⟩) c.length cc) (up f j x) (c.set j y) ∧ Kp (Mv B (.slice (some ⟨g, 0, none⟩) c.length cc)) w (w.setCell ⟨g, j * 5 + q, none⟩ u) := by
  have hK : Kp (Mv B (.slice (some ⟨g, 0, none⟩) c.length cc)) w (w.setCell ⟨g, j * 5 + q, none⟩ u) := (Kp.refl _ w).setCell (p := ⟨g, j * 5 + q, none⟩) (.inr rfl) u
  have hK' : Kp (MZ Z B (.slice (some ⟨g, 0, none⟩) c.length cc)) w (w.setCell ⟨g, j * 5 + q, none⟩ u) := hK.mono (fun _ _ e => .inl e)
  have hjl : j < c.length := (List.getElem?_eq_some_iff.1 hj).1
  have hgb : g ≠ B := fun e => h.gb (by rw [e]; rfl)
  have hkg : Kp (· = g) w (w.setCell ⟨g, j * 5 + q, none⟩ u) := (Kp.refl (· = g) w).setCell (p := ⟨g, j * 5 + q, none⟩) rfl u
  refine ⟨⟨hkg.cell h.c0 (fun e => hgb e.symm), hkg.frozen h.c0 h.fz (fun e => hgb e.symm), ?_, h.gb, h.SB, fun k z hz => ?_⟩, hK⟩
  · rw [List.length_set, ← n5_setq f j q u x hq hx c.length hjl]
    exact (World.ownsRow.stored h.row (j * 5 + q) u).1
  · by_cases e : k = j
    · subst e
      rw [List.getElem?_set_self hjl] at hz
      cases hz
      rw [up_same]
      obtain ⟨_, _, _, _, hro⟩ := h.rg k i hj
      refine ⟨hy.1, hy.2.1, hy.2.2.1, hy.2.2.2, ?_⟩
      rw [hr.1, hr.2.1, hr.2.2]
      exact hro.kp hK' (fun _ _ e => e)
    · rw [List.getElem?_set_ne (fun h => e h.symm)] at hz
      rw [up_other _ _ _ _ e]
      exact (h.rg k z hz).kp hK' (fun _ _ e => e)

/-- The blocks that a coder's ranges leave alone, and a row of places besides. -/
def Zj (Z : Nat → Prop) (jv : Value) (k : Nat) : Prop := Z k ∨ jv.ownBlock = some k
def jc (js : List Nat) : List Value := js.map fun (p : Nat) => Value.int .i64 (p : Int)
/-- A coder under way beside a row of places. -/
structure Aj (Z : Nat → Prop) (S B : Nat) (v : Value) (c : List Ia) (w0 : World) (l : List Ia) (jv : Value) (js : List Nat) (v' : Value) (f' : Nat → In) (w : World) : Prop where
  cd : Cd (Zj Z jv) S w B v' f' (c ++ l)
  sb : Sub w0 v v'
  kp : Kp (Mv B v) w0 w
  row : w.ownsRow w0.heap.size 3 1 jv js.length (jc js)
  ap : ∀ g, jv.ownBlock = some g → ¬ Mv B v' g
namespace Aj
variable {Z : Nat → Prop} {S B : Nat} {v v' jv : Value} {c l : List Ia} {w0 w w' : World} {js : List Nat} {f' : Nat → In}
theorem size (h : Aj Z S B v c w0 l jv js v' f' w) : w0.heap.size ≤ w.heap.size := h.kp.size
theorem below (h : Aj Z S B v c w0 l jv js v' f' w) (hb : Below w.heap.size w w') : Aj Z S B v c w0 l jv js v' f' w' :=
  ⟨h.cd.below hb, h.sb, h.kp.trans (Kp.of hb), (Kp.of (M := fun _ => False) hb).row h.row (fun _ _ => id), h.ap⟩
theorem jlt (h : Aj Z S B v c w0 l jv js v' f' w) : ∀ g, jv.ownBlock = some g → w0.heap.size ≤ g ∧ g < w.heap.size := by
  intro g e
  rcases h.row.2 with ⟨e', _⟩ | ⟨G, _, _, e', hG, hh, _⟩
  · rw [e'] at e; cases e
  · rw [e'] at e
    have : G = g := Option.some.inj e
    subst this
    exact ⟨hG, (Array.getElem?_eq_some_iff.1 hh).1⟩
theorem next {l2 : List Ia} {e : Ending} (h : Aj Z S B v c w0 l jv js v' f' w) (hc : Cp (Zj Z jv) S B v' (c ++ l) l2 w e w') : e = .returned (.tuple #[]) ∧ (∃ v2 f2, Aj Z S B v c w0 (l ++ l2) jv js v2 f2 w') ∧ Kp (Mv B v') w w' := by
  obtain ⟨he, ⟨v2, f2, cd2, sb2⟩, kp2⟩ := hc
  refine ⟨he, ⟨v2, f2, by rw [← List.append_assoc]; exact cd2, h.sb.trans sb2 h.kp.size, h.kp.next h.sb kp2, kp2.row h.row (fun g e => h.ap g e), fun g e hm => ?_⟩, kp2⟩
  exact h.ap g e (hm.imp id (fun x => sb2 g x (h.jlt g e).2))
theorem len (h : Aj Z S B v c w0 l jv js v' f' w) : Calls Tryd.prog 53 #[.pointer (some ⟨B, 0, none⟩)] w fun e w' => e = .returned (.int .i64 (((c.length + l.length : Nat)) : Int)) ∧ w' = w := by
  have := end_any (Zj Z jv) S B v' f' (c ++ l) w h.cd
  rw [List.length_append] at this
  exact this
theorem put (h : Aj Z S B v c w0 l jv js v' f' w) (hS : S ≤ w0.heap.size) (hn : c.length + l.length ≤ 1000000) (op out alt arg : Int) : Calls Tryd.prog 26 #[.pointer (some ⟨B, 0, none⟩), inV op out alt arg none 0 0] w fun e w' => e = .returned (.tuple #[]) ∧ (∃ v2 f2, Aj Z S B v c w0 (l ++ [⟨op, out, alt, arg, []⟩]) jv js v2 f2 w') ∧ Kp (Mv B v') w w' :=
  (put_any (Zj Z jv) S B v' f' (c ++ l) op out alt arg none 0 0 [] w h.cd (Nat.le_trans hS h.size) (by rw [List.length_append]; omega) ⟨rfl, .inl rfl⟩).mono fun e w' hc => h.next hc
theorem step (h : Aj Z S B v c w0 l jv js v' f' w) (hS : S ≤ w0.heap.size) (hn : c.length + l.length ≤ 1000000) (op out alt arg : Int) : Calls Tryd.prog 38 #[.pointer (some ⟨B, 0, none⟩), inV op out alt arg none 0 0] w fun e w' => e = .returned (.tuple #[]) ∧ (∃ v2 f2, Aj Z S B v c w0 (l ++ [⟨op, (c.length : Int) + l.length + 1, alt, arg, []⟩]) jv js v2 f2 w') ∧ Kp (Mv B v') w w' := by
  have := step_any (Zj Z jv) S B v' f' (c ++ l) op out alt arg none 0 0 [] w h.cd (Nat.le_trans hS h.size) (by rw [List.length_append]; omega) ⟨rfl, .inl rfl⟩
  rw [List.length_append, Int.natCast_add] at this
  exact this.mono fun e w' hc => h.next hc
theorem node {m T : Nat} (hIH : NodeC m) (h : Aj Z S B v c w0 l jv js v' f' w) (hS : S ≤ w0.heap.size) {t : Tr} (ht : Tat T w t) (hT : T ≤ S) (hZ : ∀ k, Z k → T ≤ k ∧ k < w0.heap.size) (hw : WF m t) (hn : c.length + l.length + (cod m t ((c.length : Int) + l.length)).length ≤ 100000) : Calls Tryd.prog 25 #[.pointer (some ⟨B, 0, none⟩), ndV (t [])] w fun e w' => e = .returned (.tuple #[]) ∧ (∃ v2 f2, Aj Z S B v c w0 (l ++ cod m t ((c.length : Int) + l.length)) jv js v2 f2 w') ∧ Kp (Mv B v') w w' := by
  have e : (((c ++ l).length : Nat) : Int) = (c.length : Int) + l.length := by simp
  have := hIH (Zj Z jv) T S B v' f' (c ++ l) t w h.cd ht hT (fun k hk => by
    rcases hk with hk | hk
    · have := hZ k hk; have := h.size; omega
    · have := h.jlt k hk; omega) hw (Nat.le_trans hS h.size) (by rw [e, List.length_append]; exact hn)
  rw [e] at this
  exact this.mono fun e w' hc => h.next hc
theorem beg {f : Nat → In} (h : Cd Z S w B v f c) : Aj Z S B v c w [] (.slice none 0 0) [] v f w := by
  refine ⟨?_, Sub.refl _ _, Kp.refl _ _, ⟨rfl, .inl ⟨rfl, rfl⟩⟩, fun g e => by cases e⟩
  rw [List.append_nil]
  refine ⟨h.c0, h.fz, h.row, h.gb, h.SB, fun j i hj => (h.rg j i hj).kp (Kp.refl _ w) (fun i _ e => ?_)⟩
  rcases e with e | e | e
  · exact .inl e
  · exact .inr e
  · cases e
theorem rn (h : Aj Z S B v c w0 l jv js v' f' w) : Rn Z S B v c w0 l w := by
  refine ⟨v', f', ⟨h.cd.c0, h.cd.fz, h.cd.row, h.cd.gb, h.cd.SB, fun j i hj => (h.cd.rg j i hj).kp (Kp.refl _ w) (fun i _ e => ?_)⟩, h.sb, h.kp⟩
  rcases e with e | e
  · exact .inl e
  · exact .inr (.inl e)
/-- One place more. -/
theorem push {gj cj p : Nat} (h : Aj Z S B v c w0 l jv js v' f' w) (o : w'.ownsRow w0.heap.size 3 1 (.slice (some ⟨gj, 0, none⟩) (js.length + 1) cj) (js.length + 1) (jc (js ++ [p]))) (k : Kp (fun k => jv.ownBlock = some k) w w') (hg : jv.ownBlock = some gj ∨ w.heap.size ≤ gj) : Aj Z S B v c w0 l (.slice (some ⟨gj, 0, none⟩) (js.length + 1) cj) (js ++ [p]) v' f' w' := by
  have hsub : ∀ i, i < w.heap.size → (Value.slice (some ⟨gj, 0, none⟩) (js.length + 1) cj).ownBlock = some i → jv.ownBlock = some i := fun i hi e => by
    have e' : gj = i := Option.some.inj e
    subst e'
    rcases hg with hg | hg
    · exact hg
    · omega
  have kz : Kp (MZ (Zj Z jv) B v') w w' := k.mono (fun i _ e => .inr (.inr e))
  refine ⟨⟨k.cell h.cd.c0 (fun e => h.ap B e (.inl rfl)), k.frozen h.cd.c0 h.cd.fz (fun e => h.ap B e (.inl rfl)), k.row h.cd.row (fun g e e' => h.ap g e' (.inr e)), h.cd.gb, h.cd.SB, fun j i hj => (h.cd.rg j i hj).kp kz (fun i hi e => ?_)⟩, h.sb, h.kp.trans' k (fun i hi e => ?_), ?_, fun g e hm => ?_⟩
  · rcases e with e | e | e
    · exact .inl e
    · exact .inr (.inl e)
    · exact .inr (.inr (hsub i hi e))
  · have := (h.jlt i e).1; omega
  · rw [List.length_append]
    exact o
  · by_cases hgl : g < w.heap.size
    · exact h.ap g (hsub g hgl e) hm
    · have := (h.cd.base g hm).2; omega
theorem form (h : Aj Z S B v c w0 l jv js v' f' w) (hl : 0 < c.length + l.length) : ∃ g cc, v' = .slice (some ⟨g, 0, none⟩) (c ++ l).length cc := by
  rcases h.cd.row.2 with ⟨_, e2⟩ | ⟨g, cc, cur, e, _⟩
  · rw [List.length_append] at e2; omega
  · exact ⟨g, cc, e⟩
/-- A field of an instruction that has been added is written. -/
theorem patch {g cc : Nat} (h : Aj Z S B v c w0 l jv js (.slice (some ⟨g, 0, none⟩) (c ++ l).length cc) f' w) (p q : Nat) (u : Value) (i y : Ia) (x : In) (hp : l[p]? = some i) (hq : q < 5) (hx : (i5 (f' (c.length + p))).set q u = i5 x) (hy : x.op = y.op ∧ x.out = y.out ∧ x.alt = y.alt ∧ x.arg = y.arg) (hr : x.ra = (f' (c.length + p)).ra ∧ x.rn = (f' (c.length + p)).rn ∧ y.rs = i.rs) :
    Aj Z S B v c w0 (l.set p y) jv js (.slice (some ⟨g, 0, none⟩) (c ++ l).length cc) (up f' (c.length + p) x) (w.setCell ⟨g, (c.length + p) * 5 + q, none⟩ u) := by
  have hget : (c ++ l)[c.length + p]? = some i := by rw [List.getElem?_append_right (by omega)]; simpa using hp
  obtain ⟨cd, kp⟩ := h.cd.patch (c.length + p) q u i y x hget hq hx hy hr
  have e : (c ++ l).set (c.length + p) y = c ++ l.set p y := by rw [List.set_append_right _ _ (by omega)]; simp
  rw [e] at cd
  exact ⟨cd, h.sb, h.kp.next h.sb kp, kp.row h.row (fun g e => h.ap g e), h.ap⟩
/-- The cell of a field, and that it may be written. -/
theorem field {g cc : Nat} (h : Aj Z S B v c w0 l jv js (.slice (some ⟨g, 0, none⟩) (c ++ l).length cc) f' w) (p q : Nat) (hp : p < l.length) (hq : q < 5) : w.cell? ⟨g, (c.length + p) * 5 + q, none⟩ = (i5 (f' (c.length + p)))[q]? ∧ w.frozen? ⟨g, (c.length + p) * 5 + q, none⟩ = false := by
  refine ⟨?_, World.ownsRow.frozenAt h.cd.row _⟩
  rw [World.ownsRow.cellAt h.cd.row _ (by rw [List.length_append]; omega), n5_get _ _ _ _ (by rw [List.length_append]; omega) hq]
/-- An instruction that has been added, as it lies in memory. -/
theorem inst (h : Aj Z S B v c w0 l jv js v' f' w) {p : Nat} {i : Ia} (hp : l[p]? = some i) : (f' (c.length + p)).op = i.op ∧ (f' (c.length + p)).out = i.out ∧ (f' (c.length + p)).alt = i.alt ∧ (f' (c.length + p)).arg = i.arg := by
  obtain ⟨a, b, d, e, _⟩ := h.cd.rg (c.length + p) i (by rw [List.getElem?_append_right (by omega)]; simpa using hp)
  exact ⟨a, b, d, e⟩
end Aj
theorem infI : (Tryd.prog.info? 3).map (fun i => (i.zero, i.size, i.bytes)) = some (some (.int .i64 0), 1, 8) := by kernel_rfl
/-- append(jumps, p). -/
theorem append_p (w : World) (S : Nat) (v : Value) (js : List Nat) (p : Nat) (hS : S ≤ w.heap.size) (hn : (js.length + 1) * 8 ≤ 140737488355328) (o : w.ownsRow S 3 1 v js.length (jc js)) :
    ∃ g c w', (Builtin.append_ #[44, 44] 44 #[v, .slice (some ⟨w.heap.size, 0, none⟩) 1 1]).run Tryd.prog (w.alloc (.cells #[.int .i64 (p : Int)] 3)) = .ok (.slice (some ⟨g, 0, none⟩) (js.length + 1) c) w' ∧ w'.ownsRow S 3 1 (.slice (some ⟨g, 0, none⟩) (js.length + 1) c) (js.length + 1) (jc (js ++ [p])) ∧ Kp (fun k => v.ownBlock = some k) w w' ∧ (v.ownBlock = some g ∨ w.heap.size ≤ g) := by
  obtain ⟨i0, hi, hz0, hz1, hz2⟩ := info_parts infI
  have o0 := World.ownsRow.alloc o (.cells #[.int .i64 (p : Int)] 3)
  have e : (w.alloc (.cells #[.int .i64 (p : Int)] 3)).heap[w.heap.size]? = some (.cells #[.int .i64 (p : Int)] 3) := heap_alloc_new w _
  obtain ⟨v', w', r, o', g, _, h5⟩ := run_append_own_at (P := Tryd.prog) (w.alloc (.cells #[.int .i64 (p : Int)] 3)) S 44 44 3 i0 (.int .i64 0) 1 8 Tryd.underlying44 hi hz0 hz1 hz2 rfl (by decide) _ js.length (jc js) o0 ⟨w.heap.size, 0, none⟩ 1 1 [.int .i64 (p : Int)] (by rfl)
    (fun j u hj => by
      rw [Go.WideShapes.add_plain, Nat.zero_add]
      unfold World.cell?
      rw [e]
      simpa using hj) (by intro u hu; simp at hu; subst hu; rfl) (by unfold maxLen; omega) hn (by simp; omega)
  rw [show jc js ++ [.int .i64 (p : Int)] = jc (js ++ [p]) by simp [jc]] at o'
  rcases o'.2 with ⟨_, h0⟩ | ⟨G, C, cur, rfl, _⟩
  · omega
  · refine ⟨G, C, w', r, o', ((Kp.refl _ w).alloc _).grown g (fun k hk _ => hk), ?_⟩
    rcases h5 with h5 | h5
    · exact .inl (h5.symm.trans rfl)
    · have h6 : G = (w.alloc (.cells #[.int .i64 (p : Int)] 3)).heap.size := Option.some.inj h5
      rw [World.size_alloc] at h6
      exact .inr (by omega)

/-- The alternatives ahead of the last one, jump number q to e q. -/
def altG (F : Nat → Int → List Ia) (e : Nat → Int) : Nat → Int → List Ia
  | 0, _ => []
  | j + 1, b => altG F e j b ++ (⟨3, b + (altG F e j b).length + 1, b + (altG F e j b).length + 1 + (F j (b + (altG F e j b).length + 1)).length + 1, 0, []⟩ :: (F j (b + (altG F e j b).length + 1) ++ [⟨10, e j, 0, 0, []⟩]))
theorem altG_eq (F : Nat → Int → List Ia) (e : Int) (b : Int) : ∀ j, altF F e j b = altG F (fun _ => e) j b
  | 0 => rfl
  | j + 1 => by
    unfold altF altG
    rw [altG_eq F e b j]
theorem altG_len (F : Nat → Int → List Ia) (e e' : Nat → Int) (b : Int) : ∀ j, (altG F e j b).length = (altG F e' j b).length
  | 0 => rfl
  | j + 1 => by
    unfold altG
    rw [altG_len F e e' b j]
    simp [altG_len F e e' b j]
theorem altG_congr (F : Nat → Int → List Ia) (e e' : Nat → Int) (b : Int) : ∀ j, (∀ q, q < j → e q = e' q) → altG F e j b = altG F e' j b
  | 0, _ => rfl
  | j + 1, h => by
    unfold altG
    rw [altG_congr F e e' b j (fun q hq => h q (by omega)), h j (by omega)]
theorem altG_succ (F : Nat → Int → List Ia) (e : Nat → Int) (b : Int) (j : Nat) : (altG F e (j + 1) b).length = (altG F e j b).length + 1 + (F j (b + (altG F e j b).length + 1)).length + 1 := by
  conv => lhs; unfold altG
  simp
  omega
theorem altG_mono (F : Nat → Int → List Ia) (e : Nat → Int) (b : Int) {i : Nat} : ∀ {n : Nat}, i ≤ n → (altG F e i b).length ≤ (altG F e n b).length
  | 0, h => by obtain rfl : i = 0 := by omega
               exact Nat.le_refl _
  | n + 1, h => by
    by_cases h' : i = n + 1
    · rw [h']; exact Nat.le_refl _
    · have := altG_mono F e b (i := i) (n := n) (by omega)
      rw [altG_succ]
      omega
theorem altG_def (F : Nat → Int → List Ia) (e : Nat → Int) (j : Nat) (b : Int) : altG F e (j + 1) b = altG F e j b ++ (⟨3, b + (altG F e j b).length + 1, b + (altG F e j b).length + 1 + (F j (b + (altG F e j b).length + 1)).length + 1, 0, []⟩ :: (F j (b + (altG F e j b).length + 1) ++ [⟨10, e j, 0, 0, []⟩])) := rfl
theorem altG_set (F : Nat → Int → List Ia) (e : Nat → Int) (b E : Int) (i P : Nat) (hP : (altG F e (i + 1) b).length = P + 1) : ∀ n, i < n → (altG F e n b)[P]? = some ⟨10, e i, 0, 0, []⟩ ∧ (altG F e n b).set P ⟨10, E, 0, 0, []⟩ = altG F (up e i E) n b
  | 0, h => by omega
  | n + 1, h => by
    have hs := altG_succ F e b i
    by_cases hi : i < n
    · have hm := altG_mono F e b (i := i + 1) (n := n) hi
      obtain ⟨h1, h2⟩ := altG_set F e b E i P hP n hi
      constructor
      · rw [altG_def, List.getElem?_append_left (by omega)]
        exact h1
      · rw [altG_def F e n b, altG_def F (up e i E) n b, List.set_append_left _ _ (by omega), h2, up_other _ _ _ n (by omega), altG_len F (up e i E) e b n]
    · obtain rfl : i = n := by omega
      obtain ⟨A, hA⟩ : ∃ A, A = altG F e i b := ⟨_, rfl⟩
      obtain ⟨k, hk⟩ : ∃ k, k = F i (b + (altG F e i b).length + 1) := ⟨_, rfl⟩
      have hl : P = A.length + (k.length + 1) := by rw [hA, hk]; omega
      constructor
      · rw [altG_def, ← hk, ← hA, hl, List.getElem?_append_right (by omega)]
        simp
      · rw [altG_def F e i b, altG_def F (up e i E) i b, up_same, altG_congr F (up e i E) e b i (fun q hq => up_other _ _ _ q (by omega)), ← hk, ← hA, hl, List.set_append_right _ _ (by omega)]
        simp
end Go.Proofs.YtbciclnffokjjaaDoor
/- Code: alternatives. -/
namespace Go.Proofs.YtbciclnffokjjaaDoor
open Go.RowKit

/-- Where the jumps of the first i alternatives stand. -/
def jsL (F : Nat → Int → List Ia) (k : Nat) (i : Nat) : List Nat := (List.range i).map fun q => k + ((altG F (fun _ => 0) (q + 1) k).length - 1)
theorem jsL_len (F : Nat → Int → List Ia) (k i : Nat) : (jsL F k i).length = i := by simp [jsL]
theorem jsL_succ (F : Nat → Int → List Ia) (k i : Nat) : jsL F k (i + 1) = jsL F k i ++ [k + ((altG F (fun _ => 0) (i + 1) k).length - 1)] := by
  unfold jsL
  rw [List.range_succ, List.map_append]
  rfl
theorem jsL_get (F : Nat → Int → List Ia) (k i q : Nat) (h : q < i) : (jc (jsL F k i))[q]? = some (.int .i64 ((k + ((altG F (fun _ => 0) (q + 1) k).length - 1) : Nat) : Int)) := by
  unfold jc jsL
  simp [List.getElem?_range h]
theorem Aj.jform {Z : Nat → Prop} {S B : Nat} {v v' jv : Value} {c l : List Ia} {w0 w : World} {js : List Nat} {f' : Nat → In} (h : Aj Z S B v c w0 l jv js v' f' w) : ∃ a cc, jv = .slice a js.length cc := by
  rcases h.row.2 with ⟨e, e2⟩ | ⟨g, cc, cur, e, _⟩
  · exact ⟨none, 0, by rw [e, e2]⟩
  · exact ⟨_, cc, e⟩

set_option maxHeartbeats 4000000 in
set_option maxRecDepth 100000 in
theorem alts_any (m : Nat) (hIH : NodeC m) (Z : Nat → Prop) (T S B : Nat) (v : Value) (f : Nat → In) (c : List Ia) (t : Tr) (w : World) (hv : Cd Z S w B v f c) (ht : Tat T w t) (hT : T ≤ S) (hZ : ∀ k, Z k → T ≤ k ∧ k < w.heap.size) (hw : WF (m + 1) t) (hS : S ≤ w.heap.size) (h2 : 2 ≤ (t []).kn) (hn : c.length + (altC (fun j b => cod m (kid t j) b) ((t []).kn - 1) c.length).length ≤ 100000) :
    Calls Tryd.prog 40 #[.pointer (some ⟨B, 0, none⟩), .slice (t []).ka (t []).kn (t []).kc] w (Cp Z S B v c (altC (fun j b => cod m (kid t j) b) ((t []).kn - 1) c.length) w) := by
  obtain ⟨F, hF⟩ : ∃ F : Nat → Int → List Ia, F = fun j b => cod m (kid t j) b := ⟨_, rfl⟩
  have HFJ : Hid (∀ j b, cod m (kid t j) b = F j b) := fun j b => by rw [hF]
  rw [← hF] at hn ⊢
  have hkc := ht.node.2.2.2
  have hkn := hw.2.1
  obtain ⟨g0, o0, hka, hg0, _⟩ := ht.kids.at 0 (by omega)
  have A0 : Hid (Aj Z S B v c w [] (.slice none 0 0) [] v f w) := Aj.beg hv
  have HV : Hid (Cd Z S w B v f c) := hv
  have HT : Hid (Tat T w t) := ht
  have HTS : Hid (T ≤ S) := hT
  have HZ : Hid (∀ k, Z k → T ≤ k ∧ k < w.heap.size) := hZ
  have HWF : Hid (∀ j, j < (t []).kn → WF m (kid t j)) := hw.2.2
  have HS : Hid (S ≤ w.heap.size) := hS
  have IH : Hid (NodeC m) := hIH
  have HKA : Hid ((t []).ka = some ⟨g0, o0, none⟩) := hka
  obtain ⟨L, hL⟩ : ∃ L, (t []).kn = L + 1 := ⟨(t []).kn - 1, by omega⟩
  have HKN : Hid ((t []).kn = L + 1) := hL
  rw [hka]
  obtain ⟨KC, hKC⟩ : ∃ KC, (t []).kc = KC := ⟨_, rfl⟩
  rw [hKC] at hkc ⊢
  rw [hL] at hn hkc hkn h2 ⊢
  rw [Nat.add_sub_cancel] at hn ⊢
  obtain ⟨e, he⟩ : ∃ e : Int, e = (c.length : Int) + (altF F 0 L c.length).length + (F L (c.length + (altF F 0 L c.length).length)).length := ⟨_, rfl⟩
  have HC : Hid (altC F L c.length = altG F (fun _ => e) L c.length ++ F L (c.length + (altF F 0 L c.length).length)) := by
    show altC F L c.length = _
    unfold altC
    rw [altG_eq, ← he]
  have HE : Hid (e = (c.length : Int) + (altF F 0 L c.length).length + (F L (c.length + (altF F 0 L c.length).length)).length) := he
  have HNL : Hid (c.length + (altG F (fun _ => 0) L c.length).length + (F L (c.length + (altF F 0 L c.length).length)).length ≤ 100000) := by
    rw [HC.out, List.length_append, altG_len F (fun _ => e) (fun _ => 0)] at hn
    show _ ≤ _
    omega
  have hcl : ((c.length : Nat) : Int) ≤ 100000 := by have := HNL.out; omega
  have hLI : (L : Int) + 1 ≤ 8194 := by omega
  have hkcI : (L : Int) + 1 ≤ KC := by omega
  clear hv ht hT hZ hw hS hn hIH hka hL hKC hkc hkn h2 he hF hg0
  push_cast
  go_enter Tryd.func40, Tryd.ntmps40
  go_wp2_with fail
  go_loopw [5, 18] (fun jv ivv w' => ∃ i : Nat, ivv = .int .i64 (i : Int) ∧ i ≤ L ∧ ∃ v' f', Hid (Aj Z S B v c w (altG F (fun _ => 0) i c.length) jv (jsL F c.length i) v' f' w')) (fun _ ivv _ => L - (RowKit.intOf ivv).toNat)
  case atStart => exact ⟨0, rfl, by omega, v, f, A0⟩
  case round =>
    obtain ⟨i, rfl, hi, v', f', hA⟩ := hrel
    obtain ⟨ja, jcc, hjv⟩ := hA.out.jform
    rw [jsL_len] at hjv
    have htr := HT.out.below ((HV.out.low HS.out hA.out.kp).mono HTS.out)
    have hmon := altG_mono F (fun _ => 0) c.length hi
    by_cases hlt : i < L
    · have hii : (i : Int) < L := by omega
      obtain ⟨g1, o1, hka1, _, hcs⟩ := htr.kids.at i (by rw [HKN.out]; omega)
      rw [HKA.out] at hka1
      cases hka1
      have hsuc := altG_succ F (fun _ => 0) c.length i
      have hmon1 := altG_mono F (fun _ => 0) c.length (i := i + 1) hlt
      have hal : Below wr.heap.size wr (wr.alloc (ndX (t [i]))) := (Below.refl _ wr).alloc (Nat.le_refl _) _
      have hcN := ndX_cells (w := wr) (t [i]) (Below.refl _ _)
      obtain ⟨l, hl⟩ : ∃ l, l = altG F (fun _ => 0) i c.length := ⟨_, rfl⟩
      rw [← hl] at hA hsuc hmon
      have A1 := hA.out.below hal
      have HKW : Hid (wr.heap.size ≤ (wr.alloc (ndX (t [i]))).heap.size) := hal.size
      obtain ⟨P0, hP0⟩ : ∃ P0, c.length + l.length = P0 := ⟨_, rfl⟩
      have HP0 : Hid (c.length + l.length = P0) := hP0
      have kE1 := A1.len
      rw [hP0] at kE1
      have hb0 : c.length + l.length + 2 + (F i ((c.length : Int) + l.length + 1)).length ≤ 100000 := by have := HNL.out; omega
      have kS1 := A1.step HS.out (by omega) 3 0 0 0
      have HKM : Hid (¬ Mv B v' wr.heap.size) := fun x => by have := (hA.out.cd.base _ x).2; omega
      have HNX : Hid (∀ w2, Kp (Mv B v') (wr.alloc (ndX (t [i]))) w2 → Cs w2 wr.heap.size 0 (t [i]) ∧ Tat T w2 (kid t i)) := fun w2 k => by
        refine ⟨hcN.kp k HKM.out, ?_⟩
        have hlow := A1.cd.low (Nat.le_trans HS.out (Nat.le_trans hA.out.size hal.size)) k
        exact ((htr.below (hal.mono (Nat.le_trans HTS.out (Nat.le_trans HS.out hA.out.size)))).below (hlow.mono HTS.out)).kid i (by rw [HKN.out]; omega)
      have HL : Hid (l = altG F (fun _ => 0) i c.length) := hl
      have HB0 : Hid (c.length + l.length + 2 + (F i ((c.length : Int) + l.length + 1)).length ≤ 100000) := hb0
      have HLT : Hid (i < L) := hlt
      have hP0I : (P0 : Int) ≤ 100000 := by omega
      obtain ⟨p0, p1, p2, p3, p4, p5, p6, p7, p8⟩ := hcs
      generalize hdk : t [i] = dk at *
      have HDK : Hid (t [i] = dk) := hdk
      clear htr hmon hsuc hmon1 hal hcN hl hP0 hdk A1 hb0
      subst hjv
      go_wp2_with fail
      go_fit kE1
      rintro e1 w1 ⟨rfl, rfl⟩
      go_wp2_with fail
      go_fit kS1
      rintro e1 w2 ⟨rfl, ⟨v2, f2, A2⟩, kp2⟩
      obtain ⟨cs2, t2⟩ := HNX.out w2 kp2
      obtain ⟨q0, q1, q2, q3, q4, q5, q6, q7, q8⟩ := cs2.zero
      have hlen2 : (c.length : Int) + ((l ++ [(⟨3, (c.length : Int) + l.length + 1, 0, 0, []⟩ : Ia)]).length : Nat) = (c.length : Int) + l.length + 1 := by simp; omega
      have kN := A2.node IH.out HS.out t2 HTS.out HZ.out (HWF.out i (by rw [HKN.out]; have := HLT.out; omega)) (by rw [hlen2, HFJ.out]; have := HB0.out; simp; omega)
      rw [hlen2, HFJ.out] at kN
      change Calls Tryd.prog 25 #[.pointer (some ⟨B, 0, none⟩), ndV (t [i])] w2 _ at kN
      rw [HDK.out] at kN
      clear p0 p1 p2 p3 p4 p5 p6 p7 p8 kE1 kS1 HNX cs2 t2 kp2 A2
      go_wp2_with fail
      go_fit kN
      rintro e1 w3 ⟨rfl, ⟨v3, f3, A3⟩, _⟩
      clear kN q0 q1 q2 q3 q4 q5 q6 q7 q8
      obtain ⟨k, hk⟩ : ∃ k, k = F i ((c.length : Int) + l.length + 1) := ⟨_, rfl⟩
      rw [← hk] at A3
      have HB1 : Hid (c.length + l.length + 2 + k.length ≤ 100000) := by rw [hk]; exact HB0.out
      obtain ⟨P3, hP3⟩ : ∃ P3, c.length + (l ++ [(⟨3, (c.length : Int) + l.length + 1, 0, 0, []⟩ : Ia)] ++ k).length = P3 := ⟨_, rfl⟩
      have kE3 := A3.len
      rw [hP3] at kE3
      obtain ⟨gj, cj, w4, r4, o4, k4, hg4⟩ := append_p w3 w.heap.size (.slice ja i jcc) (jsL F c.length i) P3 A3.size (by rw [jsL_len]; omega) A3.row
      have A4 := A3.push o4 k4 hg4
      rw [jsL_len] at r4 A4
      have HJ : Hid (jsL F c.length (i + 1) = jsL F c.length i ++ [P3]) := by
        show jsL F c.length (i + 1) = _
        rw [jsL_succ, altG_succ, ← HL.out, ← hk, ← hP3]
        congr 2
        simp
        omega
      rw [← HJ.out] at A4
      have hP3I : (P3 : Int) ≤ 100000 := by have := HB1.out; rw [← hP3]; simp; omega
      have kP := A4.put HS.out (by have := HB1.out; simp; omega) 10 0 0 0
      have HK : Hid (k = F i ((c.length : Int) + l.length + 1)) := hk
      clear A3 A4 o4 k4 hg4 hP3 hk
      go_wp2_with fail
      go_fit kE3
      rintro e1 w3' ⟨rfl, rfl⟩
      go_wp2_with (at_builtin; refine wpList_append_run rfl (.tmp 30) (.tmp 33) 44 44 rfl _ _ rfl rfl r4 ?_)
      go_fit kP
      rintro e1 w5 ⟨rfl, ⟨v5, f5, A5⟩, _⟩
      clear kP kE3 r4
      obtain ⟨g, cc, rfl⟩ := A5.form (by simp; omega)
      have A5' := A5.below (Below.refl _ w5).drew
      have hget : (l ++ [(⟨3, (c.length : Int) + l.length + 1, 0, 0, []⟩ : Ia)] ++ k ++ [(⟨10, 0, 0, 0, []⟩ : Ia)])[l.length]? = some ⟨3, (c.length : Int) + l.length + 1, 0, 0, []⟩ := by simp
      obtain ⟨N5, hN5⟩ : ∃ N5, c.length + (l ++ [(⟨3, (c.length : Int) + l.length + 1, 0, 0, []⟩ : Ia)] ++ k ++ [(⟨10, 0, 0, 0, []⟩ : Ia)]).length = N5 := ⟨_, rfl⟩
      have kE5 := A5'.len
      rw [hN5] at kE5
      obtain ⟨i1, i2, i3, i4⟩ := A5'.inst hget
      have A6 := A5'.patch l.length 2 (.int .i64 (N5 : Int)) _ ⟨3, (c.length : Int) + l.length + 1, (N5 : Int), 0, []⟩ { f5 (c.length + l.length) with alt := (N5 : Int) } hget (by omega) rfl ⟨i1, i2, rfl, i4⟩ ⟨rfl, rfl, rfl⟩
      obtain ⟨z1, z2⟩ := A5.field l.length 2 (by simp) (by omega)
      have c5 := A5.cd.c0
      rw [show (l ++ [(⟨3, (c.length : Int) + l.length + 1, 0, 0, []⟩ : Ia)] ++ k ++ [(⟨10, 0, 0, 0, []⟩ : Ia)]).set l.length ⟨3, (c.length : Int) + l.length + 1, (N5 : Int), 0, []⟩ = altG F (fun _ => 0) (i + 1) c.length by
        rw [altG_def, ← HL.out, ← HK.out, ← hN5]
        simp
        omega] at A6
      rw [List.length_append, hN5] at c5 A6
      rw [HP0.out] at z1 z2 A6
      have hN5I : (N5 : Int) ≤ 100000 := by have := HB1.out; rw [← hN5]; simp; omega
      have hPN : (P0 : Int) < N5 := by rw [← hN5, ← HP0.out]; simp; omega
      have HA6 : Hid _ := A6
      clear A5 A5' hget hN5 i1 i2 i3 i4 A6
      go_wp2_with fail
      go_region_with (go_at_call 53; go_fit kE5; rintro e1 w6 ⟨rfl, rfl⟩)
      all_goals go_wp2
      all_goals exact ⟨⟨i + 1, by go_num, HLT.out, _, _, HA6⟩, by simp [RowKit.intOf]; omega⟩
    · have hii : ¬ (i : Int) < L := by omega
      obtain rfl : i = L := by omega
      obtain ⟨g1, o1, hka1, _, hcs⟩ := htr.kids.at i (by rw [HKN.out]; omega)
      rw [HKA.out] at hka1
      cases hka1
      have hFl : altF F 0 i c.length = altG F (fun _ => 0) i c.length := altG_eq F 0 c.length i
      rw [hFl] at HC HE HNL
      have kN := hA.out.node IH.out HS.out (htr.kid i (by rw [HKN.out]; omega)) HTS.out HZ.out (HWF.out i (by rw [HKN.out]; omega)) (by rw [HFJ.out]; exact HNL.out)
      rw [HFJ.out] at kN
      change Calls Tryd.prog 25 #[.pointer (some ⟨B, 0, none⟩), ndV (t [i])] wr _ at kN
      obtain ⟨lc, hlc⟩ : ∃ lc, lc = F i ((c.length : Int) + (altG F (fun _ => 0) i c.length).length) := ⟨_, rfl⟩
      rw [← hlc] at kN HC HE HNL
      obtain ⟨p0, p1, p2, p3, p4, p5, p6, p7, p8⟩ := hcs
      generalize t [i] = dk at *
      subst hjv
      have hiI : (i : Int) < (i : Int) + 1 := by omega
      clear htr hmon hFl hlc hlt
      go_wp2_with fail
      go_fit kN
      rintro e1 w3 ⟨rfl, ⟨v3, f3, A3⟩, _⟩
      clear kN p0 p1 p2 p3 p4 p5 p6 p7 p8
      obtain ⟨N, hN⟩ : ∃ N, c.length + ((altG F (fun _ => 0) i c.length).length + lc.length) = N := ⟨_, rfl⟩
      have HN : Hid (∀ q, (c ++ (altG F (fun x => if x < q then e else 0) i c.length ++ lc)).length = N) := fun q => by
        rw [List.length_append, List.length_append, altG_len F (fun x => if x < q then e else 0) (fun _ => 0)]
        exact hN
      have HEN : Hid (e = (N : Int)) := by rw [HE.out, ← hN]; show _ = _; push_cast; omega
      have hNI : (N : Int) ≤ 100000 := by have := HNL.out; rw [← hN]; omega
      have hrow := A3.row
      rw [jsL_len] at hrow
      have e0 : altG F (fun _ => 0) i c.length = altG F (fun x => if x < 0 then e else 0) i c.length := altG_congr _ _ _ _ _ (fun q _ => by simp)
      rw [e0] at A3
      have hN0 := HN.out 0
      have HA3 : Hid (Aj Z S B v c w (altG F (fun x => if x < 0 then e else 0) i c.length ++ lc) (.slice ja i jcc) (jsL F c.length i) v3 f3 w3) := A3
      clear hN e0 A3 hN0 hrow
      go_wp2_with fail
      go_loopw [56] (fun ivv w' => ∃ q : Nat, ivv = .int .i64 (q : Int) ∧ q ≤ i ∧ ∃ f', Hid (Aj Z S B v c w (altG F (fun x => if x < q then e else 0) i c.length ++ lc) (.slice ja i jcc) (jsL F c.length i) v3 f' w')) (fun ivv _ => i - (RowKit.intOf ivv).toNat)
      case atStart => exact ⟨0, rfl, by omega, f3, HA3⟩
      case round =>
        obtain ⟨q, rfl, hq, f4, hB⟩ := hrel
        by_cases hqi : q < i
        · have hqq : (q : Int) < i := by omega
          have hrow := hB.out.row
          rw [jsL_len] at hrow
          obtain ⟨gj, cj, _, ej, _⟩ := hrow.2.resolve_left (fun h => by omega)
          cases ej
          have j0 := World.ownsRow.cellAt hrow q (by omega)
          rw [jsL_get F c.length i q hqi] at j0
          obtain ⟨P, hP⟩ : ∃ P, (altG F (fun x => if x < q then e else 0) (q + 1) c.length).length = P + 1 := ⟨_, (Nat.succ_pred_eq_of_pos (by rw [altG_succ]; omega)).symm⟩
          have hP' : (altG F (fun _ => 0) (q + 1) c.length).length - 1 = P := by rw [altG_len F (fun _ => 0) (fun x => if x < q then e else 0), hP]; rfl
          rw [hP'] at j0
          obtain ⟨s1, s2⟩ := altG_set F (fun x => if x < q then e else 0) c.length (N : Int) q P hP i hqi
          have hPl : P < (altG F (fun x => if x < q then e else 0) i c.length).length := (List.getElem?_eq_some_iff.1 s1).1
          have s2' : altG F (up (fun x => if x < q then e else 0) q (N : Int)) i c.length = altG F (fun x => if x < q + 1 then e else 0) i c.length := altG_congr _ _ _ _ _ (fun x _ => by
            by_cases hx : x = q
            · subst hx; rw [up_same, if_pos (by omega), HEN.out]
            · rw [up_other _ _ _ _ hx]
              by_cases hx2 : x < q
              · rw [if_pos hx2, if_pos (by omega)]
              · rw [if_neg hx2, if_neg (by omega)])
          obtain ⟨g, cc, hv3⟩ := hB.out.form (by rw [List.length_append]; omega)
          have hB1 := hB.out.below (Below.refl _ wr).drew
          rw [hv3] at hB1
          have hget : (altG F (fun x => if x < q then e else 0) i c.length ++ lc)[P]? = some ⟨10, 0, 0, 0, []⟩ := by rw [List.getElem?_append_left hPl, s1]; simp
          obtain ⟨i1, i2, i3, i4⟩ := hB1.inst hget
          have A6 := hB1.patch P 1 (.int .i64 (N : Int)) _ ⟨10, (N : Int), 0, 0, []⟩ { f4 (c.length + P) with out := (N : Int) } hget (by omega) rfl ⟨i1, rfl, i3, i4⟩ ⟨rfl, rfl, rfl⟩
          rw [List.set_append_left _ _ hPl, s2, s2', ← hv3] at A6
          have hB0 := hB.out
          rw [hv3] at hB0
          obtain ⟨z1, z2⟩ := hB0.field P 1 (by rw [List.length_append]; omega) (by omega)
          have c5 := hB0.cd.c0
          rw [HN.out q] at c5 hv3
          have kE5 := hB1.len
          have hlN : c.length + (altG F (fun x => if x < q then e else 0) i c.length ++ lc).length = N := by have := HN.out q; rw [List.length_append] at this; exact this
          rw [hlN] at kE5
          obtain ⟨PP, hPP⟩ : ∃ PP, c.length + P = PP := ⟨_, rfl⟩
          rw [hPP] at j0 z1 z2 A6
          have hPN : (PP : Int) < N := by rw [← hPP, ← hlN, List.length_append]; push_cast; omega
          have HA6 : Hid _ := A6
          have HQI : Hid (q < i) := hqi
          clear hB1 hB0 A6 hget s1 s2 s2' hrow i1 i2 i3 i4 hP hP' hPl hlN hPP
          go_wp2_with fail
          go_region_with (go_at_call 53; go_fit kE5; rintro e1 w6 ⟨rfl, rfl⟩)
          all_goals go_wp2
          all_goals exact ⟨⟨q + 1, by go_num, HQI.out, _, HA6⟩, by simp [RowKit.intOf]; omega⟩
        · have hqq : ¬ (q : Int) < i := by omega
          obtain rfl : q = i := by omega
          go_wp2
          go_end0
          rw [HC.out, altG_congr F (fun _ => e) (fun x => if x < q then e else 0) c.length q (fun x hx => by rw [if_pos hx])]
          exact Rn.done hB.out.rn
end Go.Proofs.YtbciclnffokjjaaDoor
