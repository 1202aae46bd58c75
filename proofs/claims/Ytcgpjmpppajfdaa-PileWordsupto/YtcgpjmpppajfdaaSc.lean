/- Sorted: the walk. -/
import Derived.Test.YtcgpjmpppajfdaaSb
namespace Go.Proofs.Ytcgpjmpppajfdaa
open Go.RowKit Go.Shelf

attribute [local go_sem] Oper.semAt_some

theorem outL_len (A : Rk → Rk → Bool) : ∀ (p : Nat) (f : Nat → Rk), (outL A p f).length = p
  | 0, _ => rfl
  | p + 1, f => by rw [outL, List.length_cons, outL_len A p]
theorem row_base {w : World} {B B' e s n : Nat} {v : Value} {xs : List Value} (h : w.ownsRow B e s v n xs) (hB : B' ≤ B) : w.ownsRow B' e s v n xs := by
  refine ⟨h.1, ?_⟩
  rcases h.2 with h0 | ⟨g, cap, cur, hv, hb, r⟩
  · exact .inl h0
  · exact .inr ⟨g, cap, cur, hv, Nat.le_trans hB hb, r⟩
theorem heap_turned {X Y : World} {B : Nat} {o : Obj} (h : X.heap[B]? = some o) (hc : o.isCells = true) (t : Turned X Y) : Y.heap[B]? = some o := by
  obtain ⟨M, k, hm⟩ := t.kp
  refine (k.block B (Array.getElem?_eq_some_iff.1 h).1 (fun x => ?_)).trans h
  obtain ⟨o', h1, h2⟩ := hm _ x
  rw [h] at h1
  cases h1
  rw [hc] at h2
  cases h2
section
variable {w : World} {G S Bp Bo m : Nat} {lv : Value} {A : Rk → Rk → Bool}
theorem SS.turned {X Y : World} {p : Nat} {pre ys : List It} {v vo : Value} {f : Nat → Rk} (h : SS w G S Bp Bo lv A m X p pre ys v vo f) (t : Turned X Y) (hb : Below G w Y) : SS w G S Bp Bo lv A m Y p pre ys v vo f :=
  ⟨h.pl.turned t, h.out, box_turned h.bo t, box_turned h.bp t, row_turned h.row t, h.hS, h.hBo, h.hBp, h.hpo, h.hv, hb⟩
theorem SS.gw {X : World} {p : Nat} {pre ys : List It} {v vo : Value} {f : Nat → Rk} (h : SS w G S Bp Bo lv A m X p pre ys v vo f) : G ≤ X.heap.size := by
  have : G + 1 < X.heap.size := World.block_lt_of_cell? X _ h.pl.cm
  omega
/-- A draining's state, things taken and things to come. -/
def S1 (w : World) (G S Bp Bo : Nat) (lv : Value) (A : Rk → Rk → Bool) (m : Nat) (p : Nat) (pre ys : List It) (W : World) : Prop := ∃ v vo f, SS w G S Bp Bo lv A m W p pre ys v vo f
theorem S1.own {p : Nat} {pre ys : List It} {B : Nat} (hG : G ≤ w.heap.size) (hB : G ≤ B) : OwnFrom B (fun (_ : Unit) => S1 w G S Bp Bo lv A m p pre ys) := fun s X Y row hs hg hr => by
  obtain ⟨v, vo, f, h⟩ := hs
  exact ⟨v, vo, f, h.turned ⟨row, hg, fun r e => (hr r e).2⟩ (ownFrom_below (β := Unit) hG hB s X Y row h.below hg hr)⟩
theorem S1.lenAt {p : Nat} {pre ys : List It} {W : World} (h : S1 w G S Bp Bo lv A m p pre ys W) : lenAt (G + 1) W = p := by
  obtain ⟨v, vo, f, h⟩ := h
  exact h.pl.lenAt
theorem S1.pop (hA : AhC lv A) {p B : Nat} {pre ys : List It} {W : World} (h : S1 w G S Bp Bo lv A m (p + 1) pre ys W) (hn : p + 1 ≤ 1152921504606846976) :
    ∃ x ys', ys = x :: ys' ∧ Calls Try.prog 14 #[.pointer (some ⟨G + 1, 0, none⟩)] W fun r w' => r = .returned (.tuple #[iv x, .bool true]) ∧ S1 w G S Bp Bo lv A m p pre ys' w' ∧ KeepsFrom B W w' := by
  obtain ⟨v, vo, f, h⟩ := h
  obtain ⟨g, c, rfl⟩ : ∃ g c, v = .slice (some ⟨g, 0, none⟩) (p + 1) c := by
    rcases h.pl.hp.row.2 with ⟨_, e⟩ | ⟨g, c, _, e, _⟩
    · omega
    · exact ⟨g, c, e⟩
  refine ⟨(f 0).1, outL A p (sinkF A p (up f 0 (f p)) 0), by rw [← h.out]; rfl, ?_⟩
  refine (ppop_some A (G + 1) G g c p m lv f W hA h.pl hn).mono fun r w' ⟨hr, p', k⟩ => ⟨hr, ⟨.slice (some ⟨g, 0, none⟩) p c, vo, sinkF A p (up f 0 (f p)) 0, ?_⟩, ?_⟩
  · have hgG : G ≤ g := h.hv g rfl
    refine ⟨p', rfl, box_kp h.bo k ?_, box_kp h.bp k ?_, k.row h.row ?_, h.hS, h.hBo, h.hBp, h.hpo, h.hv, h.below.trans (k.below h.gw (fun j hj e => by rcases e with e | e <;> omega))⟩
    · rintro (e | e)
      · have := h.hBo; omega
      · exact row_tag h.pl.hp.row h.bo (by decide) rfl e.symm
    · rintro (e | e)
      · have := h.hBp; omega
      · exact row_tag h.pl.hp.row h.bp (by decide) rfl e.symm
    · rintro j e (x | x)
      · have := (World.ownsRow.lt h.row j e).1
        have := h.hS
        omega
      · exact row_tags h.row h.pl.hp.row (by decide) e (by rw [x]; rfl)
  · refine keeps_kp k fun j o e ho => ?_
    cases hc : o.isCells with
    | true => rfl
    | false =>
      rcases e with e | e
      · exact absurd ⟨o, by rw [← e]; exact ho, hc⟩ (not_cells h.pl.cm)
      · exact absurd ⟨o, by rw [← e]; exact ho, hc⟩ (not_row h.pl.hp.row rfl)
/-- A thing put behind those that were taken. -/
theorem SS.app {p : Nat} {pre ys : List It} {W : World} {v vo : Value} {f : Nat → Rk} (h : SS w G S Bp Bo lv A m W p pre ys v vo f) (x : It) (hn : (pre.length + 1) * 16 ≤ 140737488355328) (hS : S ≤ W.heap.size) :
    ∃ g c w', (Builtin.append_ #[22, 22] 22 #[vo, .slice (some ⟨W.heap.size, 0, none⟩) 1 1]).run Try.prog (W.alloc (iX x)) = .ok (.slice (some ⟨g, 0, none⟩) (pre.length + 1) c) w' ∧ Boxed w' Bo 22 vo ∧
      SS w G S Bp Bo lv A m (w'.setCell ⟨Bo, 0, none⟩ (.slice (some ⟨g, 0, none⟩) (pre.length + 1) c)) p (pre ++ [x]) ys v (.slice (some ⟨g, 0, none⟩) (pre.length + 1) c) f ∧ (∀ B, KeepsFrom B W (w'.setCell ⟨Bo, 0, none⟩ (.slice (some ⟨g, 0, none⟩) (pre.length + 1) c))) := by
  obtain ⟨g, c, w', r, o', k, hg⟩ := append_i W S vo pre.length (lk pre) x hS hn h.row
  have nb : ∀ B, vo.ownBlock = some B → S ≤ B := fun B e => (World.ownsRow.lt h.row B e).1
  have hgS : S ≤ g := (World.ownsRow.lt o' g rfl).1
  have hSS := h.hS
  have b0 := box_kp h.bo k (fun e => row_tag h.row h.bo (by decide) e rfl)
  have b1 := box_kp h.bp k (fun e => row_tag h.row h.bp (by decide) e rfl)
  have pl' := h.pl.kp k (fun e => by have := nb _ e; omega) (fun e => by have := nb _ e; omega) (fun j e x => row_tags h.pl.hp.row h.row (by decide) e x)
  have k2 : Kp (· = Bo) w' (w'.setCell ⟨Bo, 0, none⟩ (.slice (some ⟨g, 0, none⟩) (pre.length + 1) c)) := (Kp.refl (· = Bo) w').setCell (p := ⟨Bo, 0, none⟩) rfl _
  have hl : (pre ++ [x]).length = pre.length + 1 := by simp
  refine ⟨g, c, w', r, b0, ⟨pl'.kp k2 (fun (e : G + 1 = Bo) => by have := h.hBo; omega) (fun (e : G = Bo) => by have := h.hBo; omega) (fun j e (x : j = Bo) => row_tag pl'.hp.row b0 (by decide) e x), h.out, b0.set _, box_kp b1 k2 h.hpo, ?_, h.hS, h.hBo, h.hBp, h.hpo, h.hv, ?_⟩, fun B => ?_⟩
  · rw [hl]
    exact Ir.congr (k2.row o' (fun j e (x : j = Bo) => row_tag o' b0 (by decide) e x)) (lk_push pre x)
  · refine (h.below.trans (k.below h.gw (fun j hj e => by have := nb _ e; omega))).setCell (p := ⟨Bo, 0, none⟩) (by show G ≤ Bo; have := h.hBo; omega) _
  · refine (keeps_kp k fun j o e ho => ?_).trans ((KeepsOthers.setCell _ _ _).from _)
    cases hc : o.isCells with
    | true => rfl
    | false => exact absurd ⟨o, ho, hc⟩ (not_row h.row e)
theorem S1.below {p : Nat} {pre ys : List It} {W W' : World} (h : S1 w G S Bp Bo lv A m p pre ys W) (b : Below W.heap.size W W') : S1 w G S Bp Bo lv A m p pre ys W' := by
  obtain ⟨v, vo, f, h⟩ := h
  have k : Kp (fun _ => False) W W' := Kp.of b
  exact ⟨v, vo, f, h.pl.below b, h.out, box_kp h.bo k id, box_kp h.bp k id, h.row.below b, h.hS, h.hBo, h.hBp, h.hpo, h.hv, h.below.trans (b.mono h.gw)⟩
end
end Go.Proofs.Ytcgpjmpppajfdaa
