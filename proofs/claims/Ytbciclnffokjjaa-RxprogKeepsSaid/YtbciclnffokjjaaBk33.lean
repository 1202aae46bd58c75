/- A bundle of texts. -/
import Derived.Test.YtbciclnffokjjaaBk32
/- What taken answers of a tree's program is what the tree means. -/
namespace Go.Proofs.Ytbciclnffokjjaa
open Go.RowKit

theorem RcP_pth {c : List Ia} {s : ByteArray} {i : Nat} {P : Nat → Prop} {x : Nat} (h : RcP c s (i : Int) P x) : ∃ y n, P y ∧ Pth c s n y i x i := by
  refine h (fun x => ∃ y n, P y ∧ Pth c s n y i x i) (fun y hy => ⟨y, 0, hy, rfl, rfl⟩) (fun y ins ⟨z, n, hz, hp⟩ hi hg => ⟨⟨z, n + 1, hz, hp.trans (Pth.one ⟨ins, hi, .inl ⟨hg, rfl, .inl rfl⟩⟩)⟩, fun h3 => ⟨z, n + 1, hz, hp.trans (Pth.one ⟨ins, hi, .inl ⟨hg, rfl, .inr ⟨h3, rfl⟩⟩⟩)⟩⟩)
theorem RcP_of {c : List Ia} {s : ByteArray} {i : Int} {P : Nat → Prop} {x : Nat} (h : P x) : RcP c s i P x := fun _ h0 _ => h0 x h
theorem RcP_go {c : List Ia} {s : ByteArray} {i : Int} {P : Nat → Prop} {x : Nat} {ins : Ia} (h : RcP c s i P x) (hi : c[x]? = some ins) (hg : goB ins.op ins.arg s i = true) : RcP c s i P ins.out.toNat ∧ (ins.op = 3 → RcP c s i P ins.alt.toNat) :=
  ⟨fun Q h0 h1 => (h1 x ins (h Q h0 h1) hi hg).1, fun h3 Q h0 h1 => (h1 x ins (h Q h0 h1) hi hg).2 h3⟩
/-- A way from one of P to the end of the program at the end of the text. -/
def Wy (c : List Ia) (s : ByteArray) (i : Nat) (P : Nat → Prop) : Prop := ∃ y n x ins, P y ∧ Pth c s n y i x s.size ∧ c[x]? = some ins ∧ ins.op = 1
theorem TkF_one {c : List Ia} {s : ByteArray} : ∀ (f i : Nat) (P : Nat → Prop), i ≤ s.size → TkF c s f i P 1 → Wy c s i P
  | 0, _, _, _, h => h.elim
  | f + 1, i, P, hi, h => by
    unfold TkF at h
    by_cases h1 : s.size ≤ i
    · rw [if_pos h1] at h
      have : i = s.size := by omega
      subst this
      rcases h with ⟨_, x, ins, hr, hx, h1⟩ | ⟨e, _⟩
      · obtain ⟨y, n, hy, hp⟩ := RcP_pth hr
        exact ⟨y, n, x, ins, hy, hp, hx, h1⟩
      · exact absurd e (by decide)
    rw [if_neg h1] at h
    by_cases h2 : rnBad s i = true
    · rw [if_pos h2] at h
      exact absurd h (by decide)
    rw [if_neg h2] at h
    have h2' : rnBad s i = false := by simpa using h2
    obtain ⟨w0, w1⟩ := wd_ok s i (by omega) h2'
    obtain ⟨y', n, x, ins, ⟨x0, i0, hr, hx0, o2, hin, rfl⟩, hp, hx, h1'⟩ := TkF_one f _ _ w1 h
    obtain ⟨y, n0, hy, hp0⟩ := RcP_pth hr
    exact ⟨y, n0 + (1 + n), x, ins, hy, hp0.trans ((Pth.one ⟨i0, hx0, .inr ⟨o2, ⟨by omega, h2', hin, rfl⟩, rfl⟩⟩).trans hp), hx, h1'⟩
theorem TkF_zero {c : List Ia} {s : ByteArray} : ∀ (n f i y : Nat) (P : Nat → Prop) (x : Nat) (ins : Ia), TkF c s f i P 0 → RcP c s i P y → Pth c s n y i x s.size → c[x]? = some ins → ins.op = 1 → False
  | 0, f, i, y, P, x, ins, h, hr, hp, hx, h1 => by
    obtain ⟨rfl, rfl⟩ := hp
    cases f with
    | zero => exact h
    | succ f =>
      unfold TkF at h
      rw [if_pos (Nat.le_refl _)] at h
      rcases h with ⟨e, _⟩ | ⟨_, h⟩
      · exact absurd e (by decide)
      · exact h ⟨y, ins, hr, hx, h1⟩
  | n + 1, f, i, y, P, x, ins, h, hr, ⟨x', i', ⟨j, hj, hs⟩, hp⟩, hx, h1 => by
    rcases hs with ⟨hg, rfl, e⟩ | ⟨o2, ⟨q1, q2, q3, e4⟩, e5⟩
    · have := RcP_go hr hj hg
      rcases e with rfl | ⟨h3, rfl⟩
      · exact TkF_zero n f _ _ P x ins h this.1 hp hx h1
      · exact TkF_zero n f _ _ P x ins h (this.2 h3) hp hx h1
    · rw [e4] at hp
      cases f with
      | zero => exact h
      | succ f =>
        unfold TkF at h
        rw [if_neg (by omega), if_neg (by rw [q2]; simp)] at h
        exact TkF_zero n f _ _ _ x ins h (RcP_of ⟨y, j, hr, hj, o2, q3, e5⟩) hp hx h1
theorem TkF_three {c : List Ia} {s : ByteArray} : ∀ (f i : Nat) (P : Nat → Prop) (t : Int), TkF c s f i P t → t = 0 ∨ t = 1 ∨ t = 2
  | 0, _, _, _, h => h.elim
  | f + 1, i, P, t, h => by
    unfold TkF at h
    split at h
    · rcases h with ⟨e, _⟩ | ⟨e, _⟩
      · exact .inr (.inl e)
      · exact .inl e
    split at h
    · exact .inr (.inr h)
    · exact TkF_three f _ _ t h
/-- Is every rune of the text, from i on, well formed? -/
def gdF (s : ByteArray) : Nat → Nat → Prop
  | 0, _ => True
  | f + 1, i => i < s.size → rnBad s i = false ∧ gdF s f (i + (Utf8.encode (rnR s i)).size)
theorem TkF_two {c : List Ia} {s : ByteArray} : ∀ (f i : Nat) (P : Nat → Prop) (t : Int), TkF c s f i P t → gdF s f i → t ≠ 2
  | 0, _, _, _, h, _ => h.elim
  | f + 1, i, P, t, h, hg => by
    unfold TkF at h
    split at h
    · rcases h with ⟨e, _⟩ | ⟨e, _⟩ <;> (rw [e]; decide)
    · rename_i hi
      obtain ⟨g1, g2⟩ := hg (by omega)
      rw [if_neg (by rw [g1]; simp)] at h
      exact TkF_two f _ _ t h g2
theorem gd_two {c : List Ia} {s : ByteArray} : ∀ (f i : Nat) (P : Nat → Prop) (t : Int), TkF c s f i P t → ¬ gdF s f i → t = 2
  | 0, _, _, _, h, _ => h.elim
  | f + 1, i, P, t, h, hg => by
    unfold TkF at h
    split at h
    · rename_i hi
      exact absurd (fun h => absurd h (by omega)) hg
    · split at h
      · exact h
      · rename_i hi hb
        refine gd_two f _ _ t h (fun h' => hg (fun _ => ⟨by simpa using hb, h'⟩))
/-- The end of a tree's program is reached at the end of the text just if the tree takes the text. -/
theorem wy_mn {t : Tr} (hw : WF 8195 t) (s : ByteArray) : Wy (prgC t) s 0 (fun y => y = 0) ↔ Mn s 8195 t 0 s.size := by
  have hA : At (prgC t) 0 (cod 8195 t 0) := fun k ins hk => by
    rw [Nat.zero_add]
    unfold prgC
    rw [List.getElem?_append_left (List.getElem?_eq_some_iff.1 hk).1]
    exact hk
  have W : Wrk (prgC t) s 0 (cod 8195 t 0).length (Mn s 8195 t) := cod_wrk (c := prgC t) (s := s) 8195 t 0 hw hA
  have hend : (prgC t)[(cod 8195 t 0).length]? = some ⟨1, 0, 0, 0, []⟩ := by
    unfold prgC
    rw [List.getElem?_append_right (Nat.le_refl _)]
    simp
  constructor
  · rintro ⟨y, n, x, ins, rfl, hp, hx, h1⟩
    have hxl : x = (cod 8195 t 0).length := by
      have hlt := (List.getElem?_eq_some_iff.1 hx).1
      unfold prgC at hx hlt
      by_cases hlx : x < (cod 8195 t 0).length
      · have hx' : (cod 8195 t 0)[x]? = some ins := by rw [← hx, List.getElem?_append_left hlx]
        exact absurd h1 (cod_op _ _ _ ins (List.mem_of_getElem? hx'))
      · simp at hlt
        omega
    subst hxl
    obtain ⟨n', k, _, hm, hp'⟩ := W.snd n 0 _ s.size hp (by omega)
    cases n' with
    | zero =>
      obtain ⟨_, rfl⟩ := hp'
      exact hm
    | succ n' =>
      obtain ⟨x', i', ⟨j, hj, hs⟩, _⟩ := hp'
      rw [Nat.zero_add, hend] at hj
      cases hj
      rcases hs with ⟨hg, _⟩ | ⟨o2, _⟩
      · exact absurd hg (by unfold goB; simp)
      · exact absurd o2 (by decide)
  · intro hm
    obtain ⟨n, hp⟩ := W.cmp _ _ hm
    rw [Nat.zero_add] at hp
    exact ⟨0, n, _, _, rfl, hp, hend, rfl⟩
/-- What taken answers of a tree's program. -/
theorem taken_mn {t : Tr} (hw : WF 8195 t) {s : ByteArray} {v : Int} (h : TkF (prgC t) s (s.size + 1) 0 (fun y => y = 0) v) : (v = 2 ∧ ¬ gdF s (s.size + 1) 0) ∨ (gdF s (s.size + 1) 0 ∧ ((v = 1 ∧ Mn s 8195 t 0 s.size) ∨ (v = 0 ∧ ¬ Mn s 8195 t 0 s.size))) := by
  by_cases hg : gdF s (s.size + 1) 0
  · refine .inr ⟨hg, ?_⟩
    rcases TkF_three _ _ _ v h with rfl | rfl | rfl
    · refine .inr ⟨rfl, fun hm => ?_⟩
      obtain ⟨y, n, x, ins, hy, hp, hx, h1⟩ := (wy_mn hw s).2 hm
      exact TkF_zero n _ 0 y _ x ins h (RcP_of hy) hp hx h1
    · exact .inl ⟨rfl, (wy_mn hw s).1 (TkF_one _ 0 _ (Nat.zero_le _) h)⟩
    · exact absurd rfl (TkF_two _ _ _ _ h hg)
  · exact .inl ⟨gd_two _ _ _ v h hg, hg⟩
end Go.Proofs.Ytbciclnffokjjaa
