/- A bundle of texts. -/
import Derived.Test.YtbciclnffokjjaaBm16
/- Code: alternatives, what they want: patches; a row of places beside a coder. -/
namespace Go.Proofs.Ytbciclnffokjjaa
open Go.RowKit

theorem n5_setq (f : Nat → In) (j q : Nat) (u : Value) (x : In) (hq : q < 5) (hx : (i5 (f j)).set q u = i5 x) : ∀ n, j < n → (n5 f n).set (j * 5 + q) u = n5 (up f j x) n
  | 0, h => by omega
  | n + 1, h => by
    rw [n5_succ, n5_succ]
    by_cases hj : j < n
    · rw [List.set_append_left _ _ (by rw [n5_len]; omega), n5_setq f j q u x hq hx n hj, up_other _ _ _ n (by omega)]
    · obtain rfl : j = n := by omega
      rw [List.set_append_right _ _ (by rw [n5_len]; omega), n5_len, up_same, n5_congr f _ j (fun k hk => (up_other f j _ k (by omega)).symm)]
      congr 1
      rw [show j * 5 + q - j * 5 = q by omega]
      exact hx
/-- A field of an instruction of the code is written. -/
theorem Cd.patch {Z : Nat → Prop} {S B g cc : Nat} {w : World} {f : Nat → In} {c : List Ia} (h : Cd Z S w B (.slice (some ⟨g, 0, none⟩) c.length cc) f c) (j q : Nat) (u : Value) (i y : Ia) (x : In) (hj : c[j]? = some i) (hq : q < 5) (hx : (i5 (f j)).set q u = i5 x) (hy : x.op = y.op ∧ x.out = y.out ∧ x.alt = y.alt ∧ x.arg = y.arg) (hr : x.ra = (f j).ra ∧ x.rn = (f j).rn ∧ y.rs = i.rs) :
    Cd Z S (w.setCell ⟨g, j * 5 + q, none⟩ u) B (.slice (some ⟨g, 0, none⟩) c.length cc) (up f j x) (c.set j y) ∧ Kp (Mv B (.slice (some ⟨g, 0, none⟩) c.length cc)) w (w.setCell ⟨g, j * 5 + q, none⟩ u) := by
  have hK : Kp (Mv B (.slice (some ⟨g, 0, none⟩) c.length cc)) w (w.setCell ⟨g, j * 5 + q, none⟩ u) := (Kp.refl _ w).setCell (p := ⟨g, j * 5 + q, none⟩) (.inr rfl) u
  have hK' : Kp (MZ Z B (.slice (some ⟨g, 0, none⟩) c.length cc)) w (w.setCell ⟨g, j * 5 + q, none⟩ u) := hK.mono (fun _ _ e => .inl e)
  have hjl : j < c.length := (List.getElem?_eq_some_iff.1 hj).1
  have hgb : g ≠ B := fun e => h.gb (by rw [e]; rfl)
  have hkg : Kp (· = g) w (w.setCell ⟨g, j * 5 + q, none⟩ u) := (Kp.refl (· = g) w).setCell (p := ⟨g, j * 5 + q, none⟩) rfl u
  refine ⟨⟨hkg.cell h.c0 (fun e => hgb e.symm), hkg.frozen h.c0 h.fz (fun e => hgb e.symm), ?_, h.gb, h.SB, fun k z hz => ?_⟩, hK⟩
  · rw [List.length_set, ← n5_setq f j q u x hq hx c.length hjl]
    exact (World.ownsRow.stored h.row (j * 5 + q) u).1
  · by_cases e : k = j
    · subst e
      rw [List.getElem?_set_self hjl] at hz
      cases hz
      rw [up_same]
      obtain ⟨_, _, _, _, hro⟩ := h.rg k i hj
      refine ⟨hy.1, hy.2.1, hy.2.2.1, hy.2.2.2, ?_⟩
      rw [hr.1, hr.2.1, hr.2.2]
      exact hro.kp hK' (fun _ _ e => e)
    · rw [List.getElem?_set_ne (fun h => e h.symm)] at hz
      rw [up_other _ _ _ _ e]
      exact (h.rg k z hz).kp hK' (fun _ _ e => e)

/-- The blocks that a coder's ranges leave alone, and a row of places besides. -/
def Zj (Z : Nat → Prop) (jv : Value) (k : Nat) : Prop := Z k ∨ jv.ownBlock = some k
def jc (js : List Nat) : List Value := js.map fun (p : Nat) => Value.int .i64 (p : Int)
/-- A coder under way beside a row of places. -/
structure Aj (Z : Nat → Prop) (S B : Nat) (v : Value) (c : List Ia) (w0 : World) (l : List Ia) (jv : Value) (js : List Nat) (v' : Value) (f' : Nat → In) (w : World) : Prop where
  cd : Cd (Zj Z jv) S w B v' f' (c ++ l)
  sb : Sub w0 v v'
  kp : Kp (Mv B v) w0 w
  row : w.ownsRow w0.heap.size 3 1 jv js.length (jc js)
  ap : ∀ g, jv.ownBlock = some g → ¬ Mv B v' g
namespace Aj
variable {Z : Nat → Prop} {S B : Nat} {v v' jv : Value} {c l : List Ia} {w0 w w' : World} {js : List Nat} {f' : Nat → In}
theorem size (h : Aj Z S B v c w0 l jv js v' f' w) : w0.heap.size ≤ w.heap.size := h.kp.size
theorem below (h : Aj Z S B v c w0 l jv js v' f' w) (hb : Below w.heap.size w w') : Aj Z S B v c w0 l jv js v' f' w' :=
  ⟨h.cd.below hb, h.sb, h.kp.trans (Kp.of hb), (Kp.of (M := fun _ => False) hb).row h.row (fun _ _ => id), h.ap⟩
theorem jlt (h : Aj Z S B v c w0 l jv js v' f' w) : ∀ g, jv.ownBlock = some g → w0.heap.size ≤ g ∧ g < w.heap.size := by
  intro g e
  rcases h.row.2 with ⟨e', _⟩ | ⟨G, _, _, e', hG, hh, _⟩
  · rw [e'] at e; cases e
  · rw [e'] at e
    have : G = g := Option.some.inj e
    subst this
    exact ⟨hG, (Array.getElem?_eq_some_iff.1 hh).1⟩
theorem next {l2 : List Ia} {e : Ending} (h : Aj Z S B v c w0 l jv js v' f' w) (hc : Cp (Zj Z jv) S B v' (c ++ l) l2 w e w') : e = .returned (.tuple #[]) ∧ (∃ v2 f2, Aj Z S B v c w0 (l ++ l2) jv js v2 f2 w') ∧ Kp (Mv B v') w w' := by
  obtain ⟨he, ⟨v2, f2, cd2, sb2⟩, kp2⟩ := hc
  refine ⟨he, ⟨v2, f2, by rw [← List.append_assoc]; exact cd2, h.sb.trans sb2 h.kp.size, h.kp.next h.sb kp2, kp2.row h.row (fun g e => h.ap g e), fun g e hm => ?_⟩, kp2⟩
  exact h.ap g e (hm.imp id (fun x => sb2 g x (h.jlt g e).2))
theorem len (h : Aj Z S B v c w0 l jv js v' f' w) : Calls Try.prog 88 #[.pointer (some ⟨B, 0, none⟩)] w fun e w' => e = .returned (.int .i64 (((c.length + l.length : Nat)) : Int)) ∧ w' = w := by
  have := end_any (Zj Z jv) S B v' f' (c ++ l) w h.cd
  rw [List.length_append] at this
  exact this
theorem put (h : Aj Z S B v c w0 l jv js v' f' w) (hS : S ≤ w0.heap.size) (hn : c.length + l.length ≤ 1000000) (op out alt arg : Int) : Calls Try.prog 48 #[.pointer (some ⟨B, 0, none⟩), inV op out alt arg none 0 0] w fun e w' => e = .returned (.tuple #[]) ∧ (∃ v2 f2, Aj Z S B v c w0 (l ++ [⟨op, out, alt, arg, []⟩]) jv js v2 f2 w') ∧ Kp (Mv B v') w w' :=
  (put_any (Zj Z jv) S B v' f' (c ++ l) op out alt arg none 0 0 [] w h.cd (Nat.le_trans hS h.size) (by rw [List.length_append]; omega) ⟨rfl, .inl rfl⟩).mono fun e w' hc => h.next hc
theorem step (h : Aj Z S B v c w0 l jv js v' f' w) (hS : S ≤ w0.heap.size) (hn : c.length + l.length ≤ 1000000) (op out alt arg : Int) : Calls Try.prog 68 #[.pointer (some ⟨B, 0, none⟩), inV op out alt arg none 0 0] w fun e w' => e = .returned (.tuple #[]) ∧ (∃ v2 f2, Aj Z S B v c w0 (l ++ [⟨op, (c.length : Int) + l.length + 1, alt, arg, []⟩]) jv js v2 f2 w') ∧ Kp (Mv B v') w w' := by
  have := step_any (Zj Z jv) S B v' f' (c ++ l) op out alt arg none 0 0 [] w h.cd (Nat.le_trans hS h.size) (by rw [List.length_append]; omega) ⟨rfl, .inl rfl⟩
  rw [List.length_append, Int.natCast_add] at this
  exact this.mono fun e w' hc => h.next hc
theorem node {m T : Nat} (hIH : NodeC m) (h : Aj Z S B v c w0 l jv js v' f' w) (hS : S ≤ w0.heap.size) {t : Tr} (ht : Tat T w t) (hT : T ≤ S) (hZ : ∀ k, Z k → T ≤ k ∧ k < w0.heap.size) (hw : WF m t) (hn : c.length + l.length + (cod m t ((c.length : Int) + l.length)).length ≤ 100000) : Calls Try.prog 47 #[.pointer (some ⟨B, 0, none⟩), ndV (t [])] w fun e w' => e = .returned (.tuple #[]) ∧ (∃ v2 f2, Aj Z S B v c w0 (l ++ cod m t ((c.length : Int) + l.length)) jv js v2 f2 w') ∧ Kp (Mv B v') w w' := by
  have e : (((c ++ l).length : Nat) : Int) = (c.length : Int) + l.length := by simp
  have := hIH (Zj Z jv) T S B v' f' (c ++ l) t w h.cd ht hT (fun k hk => by
    rcases hk with hk | hk
    · have := hZ k hk; have := h.size; omega
    · have := h.jlt k hk; omega) hw (Nat.le_trans hS h.size) (by rw [e, List.length_append]; exact hn)
  rw [e] at this
  exact this.mono fun e w' hc => h.next hc
theorem beg {f : Nat → In} (h : Cd Z S w B v f c) : Aj Z S B v c w [] (.slice none 0 0) [] v f w := by
  refine ⟨?_, Sub.refl _ _, Kp.refl _ _, ⟨rfl, .inl ⟨rfl, rfl⟩⟩, fun g e => by cases e⟩
  rw [List.append_nil]
  refine ⟨h.c0, h.fz, h.row, h.gb, h.SB, fun j i hj => (h.rg j i hj).kp (Kp.refl _ w) (fun i _ e => ?_)⟩
  rcases e with e | e | e
  · exact .inl e
  · exact .inr e
  · cases e
theorem rn (h : Aj Z S B v c w0 l jv js v' f' w) : Rn Z S B v c w0 l w := by
  refine ⟨v', f', ⟨h.cd.c0, h.cd.fz, h.cd.row, h.cd.gb, h.cd.SB, fun j i hj => (h.cd.rg j i hj).kp (Kp.refl _ w) (fun i _ e => ?_)⟩, h.sb, h.kp⟩
  rcases e with e | e
  · exact .inl e
  · exact .inr (.inl e)
/-- One place more. -/
theorem push {gj cj p : Nat} (h : Aj Z S B v c w0 l jv js v' f' w) (o : w'.ownsRow w0.heap.size 3 1 (.slice (some ⟨gj, 0, none⟩) (js.length + 1) cj) (js.length + 1) (jc (js ++ [p]))) (k : Kp (fun k => jv.ownBlock = some k) w w') (hg : jv.ownBlock = some gj ∨ w.heap.size ≤ gj) : Aj Z S B v c w0 l (.slice (some ⟨gj, 0, none⟩) (js.length + 1) cj) (js ++ [p]) v' f' w' := by
  have hsub : ∀ i, i < w.heap.size → (Value.slice (some ⟨gj, 0, none⟩) (js.length + 1) cj).ownBlock = some i → jv.ownBlock = some i := fun i hi e => by
    have e' : gj = i := Option.some.inj e
    subst e'
    rcases hg with hg | hg
    · exact hg
    · omega
  have kz : Kp (MZ (Zj Z jv) B v') w w' := k.mono (fun i _ e => .inr (.inr e))
  refine ⟨⟨k.cell h.cd.c0 (fun e => h.ap B e (.inl rfl)), k.frozen h.cd.c0 h.cd.fz (fun e => h.ap B e (.inl rfl)), k.row h.cd.row (fun g e e' => h.ap g e' (.inr e)), h.cd.gb, h.cd.SB, fun j i hj => (h.cd.rg j i hj).kp kz (fun i hi e => ?_)⟩, h.sb, h.kp.trans' k (fun i hi e => ?_), ?_, fun g e hm => ?_⟩
  · rcases e with e | e | e
    · exact .inl e
    · exact .inr (.inl e)
    · exact .inr (.inr (hsub i hi e))
  · have := (h.jlt i e).1; omega
  · rw [List.length_append]
    exact o
  · by_cases hgl : g < w.heap.size
    · exact h.ap g (hsub g hgl e) hm
    · have := (h.cd.base g hm).2; omega
theorem form (h : Aj Z S B v c w0 l jv js v' f' w) (hl : 0 < c.length + l.length) : ∃ g cc, v' = .slice (some ⟨g, 0, none⟩) (c ++ l).length cc := by
  rcases h.cd.row.2 with ⟨_, e2⟩ | ⟨g, cc, cur, e, _⟩
  · rw [List.length_append] at e2; omega
  · exact ⟨g, cc, e⟩
/-- A field of an instruction that has been added is written. -/
theorem patch {g cc : Nat} (h : Aj Z S B v c w0 l jv js (.slice (some ⟨g, 0, none⟩) (c ++ l).length cc) f' w) (p q : Nat) (u : Value) (i y : Ia) (x : In) (hp : l[p]? = some i) (hq : q < 5) (hx : (i5 (f' (c.length + p))).set q u = i5 x) (hy : x.op = y.op ∧ x.out = y.out ∧ x.alt = y.alt ∧ x.arg = y.arg) (hr : x.ra = (f' (c.length + p)).ra ∧ x.rn = (f' (c.length + p)).rn ∧ y.rs = i.rs) :
    Aj Z S B v c w0 (l.set p y) jv js (.slice (some ⟨g, 0, none⟩) (c ++ l).length cc) (up f' (c.length + p) x) (w.setCell ⟨g, (c.length + p) * 5 + q, none⟩ u) := by
  have hget : (c ++ l)[c.length + p]? = some i := by rw [List.getElem?_append_right (by omega)]; simpa using hp
  obtain ⟨cd, kp⟩ := h.cd.patch (c.length + p) q u i y x hget hq hx hy hr
  have e : (c ++ l).set (c.length + p) y = c ++ l.set p y := by rw [List.set_append_right _ _ (by omega)]; simp
  rw [e] at cd
  exact ⟨cd, h.sb, h.kp.next h.sb kp, kp.row h.row (fun g e => h.ap g e), h.ap⟩
/-- The cell of a field, and that it may be written. -/
theorem field {g cc : Nat} (h : Aj Z S B v c w0 l jv js (.slice (some ⟨g, 0, none⟩) (c ++ l).length cc) f' w) (p q : Nat) (hp : p < l.length) (hq : q < 5) : w.cell? ⟨g, (c.length + p) * 5 + q, none⟩ = (i5 (f' (c.length + p)))[q]? ∧ w.frozen? ⟨g, (c.length + p) * 5 + q, none⟩ = false := by
  refine ⟨?_, World.ownsRow.frozenAt h.cd.row _⟩
  rw [World.ownsRow.cellAt h.cd.row _ (by rw [List.length_append]; omega), n5_get _ _ _ _ (by rw [List.length_append]; omega) hq]
/-- An instruction that has been added, as it lies in memory. -/
theorem inst (h : Aj Z S B v c w0 l jv js v' f' w) {p : Nat} {i : Ia} (hp : l[p]? = some i) : (f' (c.length + p)).op = i.op ∧ (f' (c.length + p)).out = i.out ∧ (f' (c.length + p)).alt = i.alt ∧ (f' (c.length + p)).arg = i.arg := by
  obtain ⟨a, b, d, e, _⟩ := h.cd.rg (c.length + p) i (by rw [List.getElem?_append_right (by omega)]; simpa using hp)
  exact ⟨a, b, d, e⟩
end Aj
theorem infI : (Try.prog.info? 3).map (fun i => (i.zero, i.size, i.bytes)) = some (some (.int .i64 0), 1, 8) := by kernel_rfl
/-- append(jumps, p). -/
theorem append_p (w : World) (S : Nat) (v : Value) (js : List Nat) (p : Nat) (hS : S ≤ w.heap.size) (hn : (js.length + 1) * 8 ≤ 140737488355328) (o : w.ownsRow S 3 1 v js.length (jc js)) :
    ∃ g c w', (Builtin.append_ #[57, 57] 57 #[v, .slice (some ⟨w.heap.size, 0, none⟩) 1 1]).run Try.prog (w.alloc (.cells #[.int .i64 (p : Int)] 3)) = .ok (.slice (some ⟨g, 0, none⟩) (js.length + 1) c) w' ∧ w'.ownsRow S 3 1 (.slice (some ⟨g, 0, none⟩) (js.length + 1) c) (js.length + 1) (jc (js ++ [p])) ∧ Kp (fun k => v.ownBlock = some k) w w' ∧ (v.ownBlock = some g ∨ w.heap.size ≤ g) := by
  obtain ⟨i0, hi, hz0, hz1, hz2⟩ := info_parts infI
  have o0 := World.ownsRow.alloc o (.cells #[.int .i64 (p : Int)] 3)
  have e : (w.alloc (.cells #[.int .i64 (p : Int)] 3)).heap[w.heap.size]? = some (.cells #[.int .i64 (p : Int)] 3) := heap_alloc_new w _
  obtain ⟨v', w', r, o', g, _, h5⟩ := run_append_own_at (P := Try.prog) (w.alloc (.cells #[.int .i64 (p : Int)] 3)) S 57 57 3 i0 (.int .i64 0) 1 8 Try.underlying57 hi hz0 hz1 hz2 rfl (by decide) _ js.length (jc js) o0 ⟨w.heap.size, 0, none⟩ 1 1 [.int .i64 (p : Int)] (by rfl)
    (fun j u hj => by
      rw [Go.WideShapes.add_plain, Nat.zero_add]
      unfold World.cell?
      rw [e]
      simpa using hj) (by intro u hu; simp at hu; subst hu; rfl) (by unfold maxLen; omega) hn (by simp; omega)
  rw [show jc js ++ [.int .i64 (p : Int)] = jc (js ++ [p]) by simp [jc]] at o'
  rcases o'.2 with ⟨_, h0⟩ | ⟨G, C, cur, rfl, _⟩
  · omega
  · refine ⟨G, C, w', r, o', ((Kp.refl _ w).alloc _).grown g (fun k hk _ => hk), ?_⟩
    rcases h5 with h5 | h5
    · exact .inl (h5.symm.trans rfl)
    · have h6 : G = (w.alloc (.cells #[.int .i64 (p : Int)] 3)).heap.size := Option.some.inj h5
      rw [World.size_alloc] at h6
      exact .inr (by omega)

/-- The alternatives ahead of the last one, jump number q to e q. -/
def altG (F : Nat → Int → List Ia) (e : Nat → Int) : Nat → Int → List Ia
  | 0, _ => []
  | j + 1, b => altG F e j b ++ (⟨3, b + (altG F e j b).length + 1, b + (altG F e j b).length + 1 + (F j (b + (altG F e j b).length + 1)).length + 1, 0, []⟩ :: (F j (b + (altG F e j b).length + 1) ++ [⟨10, e j, 0, 0, []⟩]))
theorem altG_eq (F : Nat → Int → List Ia) (e : Int) (b : Int) : ∀ j, altF F e j b = altG F (fun _ => e) j b
  | 0 => rfl
  | j + 1 => by
    unfold altF altG
    rw [altG_eq F e b j]
theorem altG_len (F : Nat → Int → List Ia) (e e' : Nat → Int) (b : Int) : ∀ j, (altG F e j b).length = (altG F e' j b).length
  | 0 => rfl
  | j + 1 => by
    unfold altG
    rw [altG_len F e e' b j]
    simp [altG_len F e e' b j]
theorem altG_congr (F : Nat → Int → List Ia) (e e' : Nat → Int) (b : Int) : ∀ j, (∀ q, q < j → e q = e' q) → altG F e j b = altG F e' j b
  | 0, _ => rfl
  | j + 1, h => by
    unfold altG
    rw [altG_congr F e e' b j (fun q hq => h q (by omega)), h j (by omega)]
theorem altG_succ (F : Nat → Int → List Ia) (e : Nat → Int) (b : Int) (j : Nat) : (altG F e (j + 1) b).length = (altG F e j b).length + 1 + (F j (b + (altG F e j b).length + 1)).length + 1 := by
  conv => lhs; unfold altG
  simp
  omega
theorem altG_mono (F : Nat → Int → List Ia) (e : Nat → Int) (b : Int) {i : Nat} : ∀ {n : Nat}, i ≤ n → (altG F e i b).length ≤ (altG F e n b).length
  | 0, h => by obtain rfl : i = 0 := by omega
               exact Nat.le_refl _
  | n + 1, h => by
    by_cases h' : i = n + 1
    · rw [h']; exact Nat.le_refl _
    · have := altG_mono F e b (i := i) (n := n) (by omega)
      rw [altG_succ]
      omega
theorem altG_def (F : Nat → Int → List Ia) (e : Nat → Int) (j : Nat) (b : Int) : altG F e (j + 1) b = altG F e j b ++ (⟨3, b + (altG F e j b).length + 1, b + (altG F e j b).length + 1 + (F j (b + (altG F e j b).length + 1)).length + 1, 0, []⟩ :: (F j (b + (altG F e j b).length + 1) ++ [⟨10, e j, 0, 0, []⟩])) := rfl
theorem altG_set (F : Nat → Int → List Ia) (e : Nat → Int) (b E : Int) (i P : Nat) (hP : (altG F e (i + 1) b).length = P + 1) : ∀ n, i < n → (altG F e n b)[P]? = some ⟨10, e i, 0, 0, []⟩ ∧ (altG F e n b).set P ⟨10, E, 0, 0, []⟩ = altG F (up e i E) n b
  | 0, h => by omega
  | n + 1, h => by
    have hs := altG_succ F e b i
    by_cases hi : i < n
    · have hm := altG_mono F e b (i := i + 1) (n := n) hi
      obtain ⟨h1, h2⟩ := altG_set F e b E i P hP n hi
      constructor
      · rw [altG_def, List.getElem?_append_left (by omega)]
        exact h1
      · rw [altG_def F e n b, altG_def F (up e i E) n b, List.set_append_left _ _ (by omega), h2, up_other _ _ _ n (by omega), altG_len F (up e i E) e b n]
    · obtain rfl : i = n := by omega
      obtain ⟨A, hA⟩ : ∃ A, A = altG F e i b := ⟨_, rfl⟩
      obtain ⟨k, hk⟩ : ∃ k, k = F i (b + (altG F e i b).length + 1) := ⟨_, rfl⟩
      have hl : P = A.length + (k.length + 1) := by rw [hA, hk]; omega
      constructor
      · rw [altG_def, ← hk, ← hA, hl, List.getElem?_append_right (by omega)]
        simp
      · rw [altG_def F e i b, altG_def F (up e i E) i b, up_same, altG_congr F (up e i E) e b i (fun q hq => up_other _ _ _ q (by omega)), ← hk, ← hA, hl, List.set_append_right _ _ (by omega)]
        simp
end Go.Proofs.Ytbciclnffokjjaa
