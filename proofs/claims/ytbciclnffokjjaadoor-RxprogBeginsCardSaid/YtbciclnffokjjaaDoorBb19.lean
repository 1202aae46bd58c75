/- A bundle of texts. -/
import Derived.Test.YtbciclnffokjjaaDoorBb18
/- What a tree means: its code says so, and so does the law's matcher. -/
namespace Go.Proofs.YtbciclnffokjjaaDoor
open Go.RowKit

theorem rep_wrk {c k : List Ia} {s : ByteArray} {K : Nat → Nat → Prop} (hK : ∀ b : Nat, At c b (mvs b k) → Wrk c s b k.length K) (mn mx : Int) (lz : Bool) (h0 : 0 ≤ mn) (hx : mx = -1 ∨ mn ≤ mx) (b : Nat) (ha : At c b (repC k mn mx lz b)) :
    Wrk c s b (repC k mn mx lz b).length (fun i j => ∃ n : Nat, mn ≤ n ∧ (mx = -1 ∨ (n : Int) ≤ mx) ∧ itM K n i j) := by
  unfold repC at ha ⊢
  by_cases h1 : mx = 0
  · rw [if_pos h1]
    refine (Wrk.nil c s b).imp (fun i k => ⟨fun e => ⟨0, by omega, .inr (by omega), e⟩, fun ⟨n, q1, q2, h⟩ => ?_⟩)
    have : n = 0 := by omega
    subst this
    exact h
  rw [if_neg h1] at ha ⊢
  by_cases h2 : mx = -1
  · rw [if_pos h2] at ha ⊢
    have w1 := lay_wrk hK b mn.toNat ha.left
    have a2 := ha.right
    rw [layF_len, bcast, bcast1] at a2
    have t1 := a2.head
    have a3 := a2.tail
    have w2 := hK _ a3.left
    have t2 := a3.right.head
    rw [mvs_len] at t2
    have hL : (layF k mn.toNat (b : Int) ++ spl ((b + mn.toNat * k.length : Nat) : Int) (((b + mn.toNat * k.length + 1 : Nat) : Int) + (k.length : Int) + 1) lz :: (mvs ((b + mn.toNat * k.length + 1 : Nat) : Int) k ++ [⟨10, ((b + mn.toNat * k.length : Nat) : Int), 0, 0, []⟩])).length = mn.toNat * k.length + (1 + k.length + 1) := by
      rw [List.length_append, List.length_cons, List.length_append, mvs_len, layF_len]
      simp
      omega
    rw [layF_len, bcast, bcast1, hL]
    have w3 : Wrk c s (b + mn.toNat * k.length) (1 + k.length + 1) (fun i j => ∃ n, itM K n i j) := by
      generalize b + mn.toNat * k.length = B at t1 t2 w2 ⊢
      refine Wrk.star t1 t2 (fun i y j => ?_) (fun i y j => ?_) w2
      · rw [spl_sti]
        have z1 : ((B : Int) + 1).toNat = B + 1 := by omega
        have z2 : (((B + 1 : Nat) : Int) + (k.length : Int) + 1).toNat = B + 1 + k.length + 1 := by omega
        rw [z1, z2]
      · rw [jmp_sti, Int.toNat_natCast]
    refine (w1.seq w3).imp (fun i k => ⟨fun ⟨q, m1, n, m2⟩ => ⟨mn.toNat + n, by omega, .inl h2, itM_add.2 ⟨q, m1, m2⟩⟩, fun ⟨n, q1, _, h⟩ => ?_⟩)
    · obtain ⟨n', rfl⟩ : ∃ n', n = mn.toNat + n' := ⟨n - mn.toNat, by omega⟩
      obtain ⟨q, m1, m2⟩ := itM_add.1 h
      exact ⟨q, m1, n', m2⟩
  · rw [if_neg h2] at ha ⊢
    have w1 := lay_wrk hK b mn.toNat ha.left
    have a2 := ha.right
    rw [layF_len, bcast] at a2
    obtain ⟨D, hD⟩ : ∃ D : Nat, mx - mn = (D : Int) := ⟨(mx - mn).toNat, by omega⟩
    have eE : ((b + mn.toNat * k.length : Nat) : Int) + (mx - mn) * (1 + (k.length : Int)) = ((b + mn.toNat * k.length + D * (1 + k.length) : Nat) : Int) := by
      rw [hD]
      push_cast
      rfl
    rw [eE, hD, Int.toNat_natCast] at a2
    have w2 := opt_wrk hK (b + mn.toNat * k.length) D _ rfl a2 D 0 (by omega)
    rw [List.length_append, layF_len, optF_len, hD, Int.toNat_natCast]
    rw [Nat.zero_mul, Nat.add_zero] at w2
    refine (w1.seq w2).imp (fun i k => ⟨fun ⟨q, m1, n, hn, m2⟩ => ⟨mn.toNat + n, by omega, .inr (by omega), itM_add.2 ⟨q, m1, m2⟩⟩, fun ⟨n, q1, q2, h⟩ => ?_⟩)
    obtain ⟨n', rfl⟩ : ∃ n', n = mn.toNat + n' := ⟨n - mn.toNat, by omega⟩
    obtain ⟨q, m1, m2⟩ := itM_add.1 h
    exact ⟨q, m1, n', by omega, m2⟩
/-- What a tree takes: from the place i to the place j. -/
def Mn (s : ByteArray) : Nat → Tr → Nat → Nat → Prop
  | 0, _, _, _ => False
  | m + 1, t, i, j =>
    if (t []).kind = 2 then TkR s [((t []).r, (t []).r)] i j
    else if (t []).kind = 3 then TkR s (rsL (t [])) i j
    else if (t []).kind = 4 then catM (fun q => Mn s m (kid t q)) (t []).kn i j
    else if (t []).kind = 5 then ∃ q, q < (t []).kn ∧ Mn s m (kid t q) i j
    else if (t []).kind = 6 then ∃ n : Nat, (t []).mn ≤ n ∧ ((t []).mx = -1 ∨ (n : Int) ≤ (t []).mx) ∧ itM (Mn s m (kid t 0)) n i j
    else if (t []).kind = 7 then Mn s m (kid t 0) i j
    else if (t []).kind = 13 then goB 9 1 s i = true ∧ j = i
    else if 8 ≤ (t []).kind then goB ((t []).kind - 3) 0 s i = true ∧ j = i
    else i = j
theorem tk_sti {s : ByteArray} {rs : List Rg} {b i y j : Nat} : StI s ⟨2, (b : Int) + 1, 0, 0, rs⟩ i y j ↔ (y = b + 1 ∧ TkR s rs i j) := by
  unfold StI
  have hg : goB 2 0 s i = false := by unfold goB; simp
  have z1 : ((b : Int) + 1).toNat = b + 1 := by omega
  simp only [hg, z1]
  simp
  exact And.comm
theorem go_sti {s : ByteArray} {op arg : Int} {b i y j : Nat} (h2 : op ≠ 2) (h3 : op ≠ 3) : StI s ⟨op, (b : Int) + 1, 0, arg, []⟩ i y j ↔ (y = b + 1 ∧ (goB op arg s i = true ∧ j = i)) := by
  unfold StI
  have z1 : ((b : Int) + 1).toNat = b + 1 := by omega
  simp only [z1, h2, h3, false_and, or_false]
  constructor
  · rintro ⟨h, e, e'⟩; exact ⟨e', h, e⟩
  · rintro ⟨e', h, e⟩; exact ⟨h, e, e'⟩
theorem cod_wrk {c : List Ia} {s : ByteArray} : ∀ (m : Nat) (t : Tr) (b : Nat), WF m t → At c b (cod m t b) → Wrk c s b (cod m t b).length (Mn s m t)
  | 0, _, _, h, _ => by cases h
  | m + 1, t, b, hw, ha => by
    obtain ⟨⟨hnd, _⟩, _, hk⟩ := hw
    have hkd := ndB_kind hnd
    have eM : ∀ i j, Mn s (m + 1) t i j = if (t []).kind = 2 then TkR s [((t []).r, (t []).r)] i j
      else if (t []).kind = 3 then TkR s (rsL (t [])) i j
      else if (t []).kind = 4 then catM (fun q => Mn s m (kid t q)) (t []).kn i j
      else if (t []).kind = 5 then ∃ q, q < (t []).kn ∧ Mn s m (kid t q) i j
      else if (t []).kind = 6 then ∃ n : Nat, (t []).mn ≤ n ∧ ((t []).mx = -1 ∨ (n : Int) ≤ (t []).mx) ∧ itM (Mn s m (kid t 0)) n i j
      else if (t []).kind = 7 then Mn s m (kid t 0) i j
      else if (t []).kind = 13 then goB 9 1 s i = true ∧ j = i
      else if 8 ≤ (t []).kind then goB ((t []).kind - 3) 0 s i = true ∧ j = i
      else i = j := fun i j => rfl
    unfold cod at ha ⊢
    by_cases k2 : (t []).kind = 2
    · simp only [if_pos k2] at ha eM ⊢
      exact (Wrk.one ha.head (fun i y j => tk_sti)).imp (fun i k => by rw [eM])
    simp only [if_neg k2] at ha eM ⊢
    by_cases k3 : (t []).kind = 3
    · simp only [if_pos k3] at ha eM ⊢
      by_cases hz : (rsL (t [])).length = 0
      · have hc := ha.head
        unfold clsC at hc
        rw [if_pos hz] at hc
        refine Wrk.one hc (fun i y j => ?_)
        rw [eM, List.length_eq_zero_iff.1 hz]
        unfold StI TkR inR
        have hg : goB 11 0 s i = false := by unfold goB; simp
        simp [hg]
      · have hc := ha.head
        unfold clsC at hc
        rw [if_neg hz] at hc
        exact (Wrk.one hc (fun i y j => tk_sti)).imp (fun i k => by rw [eM])
    simp only [if_neg k3] at ha eM ⊢
    by_cases k4 : (t []).kind = 4
    · simp only [if_pos k4] at ha eM ⊢
      exact (cat_wrk b _ (fun i hi b hb => cod_wrk m (kid t i) b (hk i hi) hb) ha).imp (fun i k => by rw [eM])
    simp only [if_neg k4] at ha eM ⊢
    by_cases k5 : (t []).kind = 5
    · simp only [if_pos k5] at ha eM ⊢
      have h2 := ndB_row hnd (.inr k5)
      generalize hn : (t []).kn - 1 = n at *
      have hF : ∀ i, i ≤ n → ∀ b : Nat, At c b (cod m (kid t i) b) → Wrk c s b (cod m (kid t i) b).length (Mn s m (kid t i)) := fun i hi b hb => cod_wrk m (kid t i) b (hk i (by omega)) hb
      obtain ⟨F, hFd⟩ : ∃ F : Nat → Int → List Ia, F = fun j b => cod m (kid t j) b := ⟨_, rfl⟩
      rw [← hFd] at ha ⊢
      have hF' : ∀ i, i ≤ n → ∀ b : Nat, At c b (F i b) → Wrk c s b (F i b).length (Mn s m (kid t i)) := by rw [hFd]; exact hF
      unfold altC at ha ⊢
      obtain ⟨E, hE⟩ : ∃ E : Nat, (b : Int) + (altF F 0 n b).length + (F n (b + (altF F 0 n b).length)).length = (E : Int) := ⟨b + (altF F 0 n b).length + (F n (b + (altF F 0 n b).length)).length, by omega⟩
      rw [hE] at ha ⊢
      have hl := altF_len F 0 (E : Int) b n
      rw [hl, bcast] at hE
      rw [hl, bcast] at ha ⊢
      obtain ⟨L, hL, w⟩ := alt_wrk b n E hF' ha.left ha.right (by omega) n 0 (by omega)
      have hz : (altF F (E : Int) 0 b).length = 0 := rfl
      rw [hz, Nat.add_zero] at w hL
      rw [List.length_append, show (altF F (E : Int) n b).length + (F n ((b + (altF F (E : Int) n b).length : Nat) : Int)).length = L by omega]
      exact w.imp (fun i k => by
        rw [eM]
        exact ⟨fun ⟨r, _, h2, h3⟩ => ⟨r, by omega, h3⟩, fun ⟨r, h2, h3⟩ => ⟨r, by omega, by omega, h3⟩⟩)
    simp only [if_neg k5] at ha eM ⊢
    by_cases k6 : (t []).kind = 6
    · simp only [if_pos k6] at ha eM ⊢
      have h6 := ndB_rep hnd k6
      have hK : ∀ b : Nat, At c b (mvs b (cod m (kid t 0) 0)) → Wrk c s b (cod m (kid t 0) 0).length (Mn s m (kid t 0)) := fun b hb => by
        have e := cod_mv (b : Int) m (kid t 0) 0 (hk 0 (by omega))
        rw [Int.add_zero] at e
        rw [e] at hb
        have := cod_wrk (c := c) (s := s) m (kid t 0) b (hk 0 (by omega)) hb
        rwa [← e, mvs_len] at this
      exact (rep_wrk hK _ _ _ (by omega) (by omega) b ha).imp (fun i k => by rw [eM])
    simp only [if_neg k6] at ha eM ⊢
    by_cases k7 : (t []).kind = 7
    · simp only [if_pos k7] at ha eM ⊢
      have h7 := ndB_grp hnd k7
      rw [bcast1] at ha ⊢
      have t1 := ha.head
      have a2 := ha.tail
      have w1 := cod_wrk (c := c) (s := s) m (kid t 0) (b + 1) (hk 0 (by omega)) a2.left
      have t2 := a2.right.head
      generalize cod m (kid t 0) ((b + 1 : Nat) : Int) = p at *
      have o1 : Wrk c s b 1 (fun i j => i = j) := Wrk.one t1 (fun i y j => by
        rw [cap_sti, Int.toNat_natCast]
        exact ⟨fun ⟨h1, h2⟩ => ⟨h2, h1.symm⟩, fun ⟨h1, h2⟩ => ⟨h2.symm, h1⟩⟩)
      have o2 : Wrk c s (b + 1 + p.length) 1 (fun i j => i = j) := Wrk.one t2 (fun i y j => by
        rw [cap_sti, show (((b + 1 : Nat) : Int) + (p.length : Int) + 1).toNat = b + 1 + p.length + 1 by omega]
        exact ⟨fun ⟨h1, h2⟩ => ⟨h2, h1.symm⟩, fun ⟨h1, h2⟩ => ⟨h2.symm, h1⟩⟩)
      have w := (o1.seq w1)
      rw [show b + 1 + p.length = b + (1 + p.length) by omega] at o2
      have w' := w.seq o2
      rw [List.length_cons, List.length_append, List.length_singleton, show p.length + 1 + 1 = 1 + p.length + 1 by omega]
      refine w'.imp (fun i k => ?_)
      rw [eM]
      constructor
      · rintro ⟨q, ⟨q', rfl, h⟩, rfl⟩; exact h
      · intro h; exact ⟨k, ⟨i, rfl, h⟩, rfl⟩
    simp only [if_neg k7] at ha eM ⊢
    by_cases k13 : (t []).kind = 13
    · simp only [if_pos k13] at ha eM ⊢
      exact (Wrk.one ha.head (fun i y j => go_sti (by decide) (by decide))).imp (fun i k => by rw [eM])
    simp only [if_neg k13] at ha eM ⊢
    by_cases k8 : 8 ≤ (t []).kind
    · simp only [if_pos k8] at ha eM ⊢
      exact (Wrk.one ha.head (fun i y j => go_sti (by omega) (by omega))).imp (fun i k => by rw [eM])
    · simp only [if_neg k8] at ha eM ⊢
      exact (Wrk.nil c s b).imp (fun i k => by rw [eM])
end Go.Proofs.YtbciclnffokjjaaDoor
/- What taken answers of a tree's program is what the tree means. -/
namespace Go.Proofs.YtbciclnffokjjaaDoor
open Go.RowKit

theorem RcP_pth {c : List Ia} {s : ByteArray} {i : Nat} {P : Nat → Prop} {x : Nat} (h : RcP c s (i : Int) P x) : ∃ y n, P y ∧ Pth c s n y i x i := by
  refine h (fun x => ∃ y n, P y ∧ Pth c s n y i x i) (fun y hy => ⟨y, 0, hy, rfl, rfl⟩) (fun y ins ⟨z, n, hz, hp⟩ hi hg => ⟨⟨z, n + 1, hz, hp.trans (Pth.one ⟨ins, hi, .inl ⟨hg, rfl, .inl rfl⟩⟩)⟩, fun h3 => ⟨z, n + 1, hz, hp.trans (Pth.one ⟨ins, hi, .inl ⟨hg, rfl, .inr ⟨h3, rfl⟩⟩⟩)⟩⟩)
theorem RcP_of {c : List Ia} {s : ByteArray} {i : Int} {P : Nat → Prop} {x : Nat} (h : P x) : RcP c s i P x := fun _ h0 _ => h0 x h
theorem RcP_go {c : List Ia} {s : ByteArray} {i : Int} {P : Nat → Prop} {x : Nat} {ins : Ia} (h : RcP c s i P x) (hi : c[x]? = some ins) (hg : goB ins.op ins.arg s i = true) : RcP c s i P ins.out.toNat ∧ (ins.op = 3 → RcP c s i P ins.alt.toNat) :=
  ⟨fun Q h0 h1 => (h1 x ins (h Q h0 h1) hi hg).1, fun h3 Q h0 h1 => (h1 x ins (h Q h0 h1) hi hg).2 h3⟩
/-- A way from one of P to the end of the program at the end of the text. -/
def Wy (c : List Ia) (s : ByteArray) (i : Nat) (P : Nat → Prop) : Prop := ∃ y n x ins, P y ∧ Pth c s n y i x s.size ∧ c[x]? = some ins ∧ ins.op = 1
theorem TkF_one {c : List Ia} {s : ByteArray} : ∀ (f i : Nat) (P : Nat → Prop), i ≤ s.size → TkF c s f i P 1 → Wy c s i P
  | 0, _, _, _, h => h.elim
  | f + 1, i, P, hi, h => by
    unfold TkF at h
    by_cases h1 : s.size ≤ i
    · rw [if_pos h1] at h
      have : i = s.size := by omega
      subst this
      rcases h with ⟨_, x, ins, hr, hx, h1⟩ | ⟨e, _⟩
      · obtain ⟨y, n, hy, hp⟩ := RcP_pth hr
        exact ⟨y, n, x, ins, hy, hp, hx, h1⟩
      · exact absurd e (by decide)
    rw [if_neg h1] at h
    by_cases h2 : rnBad s i = true
    · rw [if_pos h2] at h
      exact absurd h (by decide)
    rw [if_neg h2] at h
    have h2' : rnBad s i = false := by simpa using h2
    obtain ⟨w0, w1⟩ := wd_ok s i (by omega) h2'
    obtain ⟨y', n, x, ins, ⟨x0, i0, hr, hx0, o2, hin, rfl⟩, hp, hx, h1'⟩ := TkF_one f _ _ w1 h
    obtain ⟨y, n0, hy, hp0⟩ := RcP_pth hr
    exact ⟨y, n0 + (1 + n), x, ins, hy, hp0.trans ((Pth.one ⟨i0, hx0, .inr ⟨o2, ⟨by omega, h2', hin, rfl⟩, rfl⟩⟩).trans hp), hx, h1'⟩
theorem TkF_zero {c : List Ia} {s : ByteArray} : ∀ (n f i y : Nat) (P : Nat → Prop) (x : Nat) (ins : Ia), TkF c s f i P 0 → RcP c s i P y → Pth c s n y i x s.size → c[x]? = some ins → ins.op = 1 → False
  | 0, f, i, y, P, x, ins, h, hr, hp, hx, h1 => by
    obtain ⟨rfl, rfl⟩ := hp
    cases f with
    | zero => exact h
    | succ f =>
      unfold TkF at h
      rw [if_pos (Nat.le_refl _)] at h
      rcases h with ⟨e, _⟩ | ⟨_, h⟩
      · exact absurd e (by decide)
      · exact h ⟨y, ins, hr, hx, h1⟩
  | n + 1, f, i, y, P, x, ins, h, hr, ⟨x', i', ⟨j, hj, hs⟩, hp⟩, hx, h1 => by
    rcases hs with ⟨hg, rfl, e⟩ | ⟨o2, ⟨q1, q2, q3, e4⟩, e5⟩
    · have := RcP_go hr hj hg
      rcases e with rfl | ⟨h3, rfl⟩
      · exact TkF_zero n f _ _ P x ins h this.1 hp hx h1
      · exact TkF_zero n f _ _ P x ins h (this.2 h3) hp hx h1
    · rw [e4] at hp
      cases f with
      | zero => exact h
      | succ f =>
        unfold TkF at h
        rw [if_neg (by omega), if_neg (by rw [q2]; simp)] at h
        exact TkF_zero n f _ _ _ x ins h (RcP_of ⟨y, j, hr, hj, o2, q3, e5⟩) hp hx h1
theorem TkF_three {c : List Ia} {s : ByteArray} : ∀ (f i : Nat) (P : Nat → Prop) (t : Int), TkF c s f i P t → t = 0 ∨ t = 1 ∨ t = 2
  | 0, _, _, _, h => h.elim
  | f + 1, i, P, t, h => by
    unfold TkF at h
    split at h
    · rcases h with ⟨e, _⟩ | ⟨e, _⟩
      · exact .inr (.inl e)
      · exact .inl e
    split at h
    · exact .inr (.inr h)
    · exact TkF_three f _ _ t h
/-- Is every rune of the text, from i on, well formed? -/
def gdF (s : ByteArray) : Nat → Nat → Prop
  | 0, _ => True
  | f + 1, i => i < s.size → rnBad s i = false ∧ gdF s f (i + (Utf8.encode (rnR s i)).size)
theorem TkF_two {c : List Ia} {s : ByteArray} : ∀ (f i : Nat) (P : Nat → Prop) (t : Int), TkF c s f i P t → gdF s f i → t ≠ 2
  | 0, _, _, _, h, _ => h.elim
  | f + 1, i, P, t, h, hg => by
    unfold TkF at h
    split at h
    · rcases h with ⟨e, _⟩ | ⟨e, _⟩ <;> (rw [e]; decide)
    · rename_i hi
      obtain ⟨g1, g2⟩ := hg (by omega)
      rw [if_neg (by rw [g1]; simp)] at h
      exact TkF_two f _ _ t h g2
theorem gd_two {c : List Ia} {s : ByteArray} : ∀ (f i : Nat) (P : Nat → Prop) (t : Int), TkF c s f i P t → ¬ gdF s f i → t = 2
  | 0, _, _, _, h, _ => h.elim
  | f + 1, i, P, t, h, hg => by
    unfold TkF at h
    split at h
    · rename_i hi
      exact absurd (fun h => absurd h (by omega)) hg
    · split at h
      · exact h
      · rename_i hi hb
        refine gd_two f _ _ t h (fun h' => hg (fun _ => ⟨by simpa using hb, h'⟩))
/-- The end of a tree's program is reached at the end of the text just if the tree takes the text. -/
theorem wy_mn {t : Tr} (hw : WF 8195 t) (s : ByteArray) : Wy (prgC t) s 0 (fun y => y = 0) ↔ Mn s 8195 t 0 s.size := by
  have hA : At (prgC t) 0 (cod 8195 t 0) := fun k ins hk => by
    rw [Nat.zero_add]
    unfold prgC
    rw [List.getElem?_append_left (List.getElem?_eq_some_iff.1 hk).1]
    exact hk
  have W : Wrk (prgC t) s 0 (cod 8195 t 0).length (Mn s 8195 t) := cod_wrk (c := prgC t) (s := s) 8195 t 0 hw hA
  have hend : (prgC t)[(cod 8195 t 0).length]? = some ⟨1, 0, 0, 0, []⟩ := by
    unfold prgC
    rw [List.getElem?_append_right (Nat.le_refl _)]
    simp
  constructor
  · rintro ⟨y, n, x, ins, rfl, hp, hx, h1⟩
    have hxl : x = (cod 8195 t 0).length := by
      have hlt := (List.getElem?_eq_some_iff.1 hx).1
      unfold prgC at hx hlt
      by_cases hlx : x < (cod 8195 t 0).length
      · have hx' : (cod 8195 t 0)[x]? = some ins := by rw [← hx, List.getElem?_append_left hlx]
        exact absurd h1 (cod_op _ _ _ ins (List.mem_of_getElem? hx'))
      · simp at hlt
        omega
    subst hxl
    obtain ⟨n', k, _, hm, hp'⟩ := W.snd n 0 _ s.size hp (by omega)
    cases n' with
    | zero =>
      obtain ⟨_, rfl⟩ := hp'
      exact hm
    | succ n' =>
      obtain ⟨x', i', ⟨j, hj, hs⟩, _⟩ := hp'
      rw [Nat.zero_add, hend] at hj
      cases hj
      rcases hs with ⟨hg, _⟩ | ⟨o2, _⟩
      · exact absurd hg (by unfold goB; simp)
      · exact absurd o2 (by decide)
  · intro hm
    obtain ⟨n, hp⟩ := W.cmp _ _ hm
    rw [Nat.zero_add] at hp
    exact ⟨0, n, _, _, rfl, hp, hend, rfl⟩
/-- What taken answers of a tree's program. -/
theorem taken_mn {t : Tr} (hw : WF 8195 t) {s : ByteArray} {v : Int} (h : TkF (prgC t) s (s.size + 1) 0 (fun y => y = 0) v) : (v = 2 ∧ ¬ gdF s (s.size + 1) 0) ∨ (gdF s (s.size + 1) 0 ∧ ((v = 1 ∧ Mn s 8195 t 0 s.size) ∨ (v = 0 ∧ ¬ Mn s 8195 t 0 s.size))) := by
  by_cases hg : gdF s (s.size + 1) 0
  · refine .inr ⟨hg, ?_⟩
    rcases TkF_three _ _ _ v h with rfl | rfl | rfl
    · refine .inr ⟨rfl, fun hm => ?_⟩
      obtain ⟨y, n, x, ins, hy, hp, hx, h1⟩ := (wy_mn hw s).2 hm
      exact TkF_zero n _ 0 y _ x ins h (RcP_of hy) hp hx h1
    · exact .inl ⟨rfl, (wy_mn hw s).1 (TkF_one _ 0 _ (Nat.zero_le _) h)⟩
    · exact absurd rfl (TkF_two _ _ _ _ h hg)
  · exact .inl ⟨gd_two _ _ _ v h hg, hg⟩
end Go.Proofs.YtbciclnffokjjaaDoor
/- What all texts of a tree begin with. -/
namespace Go.Proofs.YtbciclnffokjjaaDoor
open Go.RowKit

theorem enc_bytes (r : Int) : (Utf8.encode r).data.toList = Lib.encodeRune r := by
  have hv : Utf8.valid r = decide ((0 ≤ r ∧ r < 55296) ∨ (57343 < r ∧ r ≤ 1114111)) := by
    unfold Utf8.valid
    rw [Bool.eq_iff_iff]
    simp
    try omega
  unfold Utf8.encode Lib.encodeRune
  by_cases h : (0 ≤ r ∧ r < 55296) ∨ (57343 < r ∧ r ≤ 1114111)
  · rw [hv, decide_eq_true h]
    obtain ⟨n, rfl⟩ : ∃ n : Nat, r = (n : Int) := ⟨r.toNat, by omega⟩
    by_cases h1 : (n : Int) ≤ 127
    · rw [Lib.encodeRuneZ_one (by omega) h1]
      have : n < 128 := by omega
      simp [this]
    · by_cases h2 : (n : Int) ≤ 2047
      · rw [Lib.encodeRuneZ_two (by omega) h2]
        have a : ¬ n < 128 := by omega
        have b : n < 2048 := by omega
        have z1 : (192 + (n : Int) / 64).toNat = 192 + n / 64 := by omega
        have z2 : (128 + (n : Int) % 64).toNat = 128 + n % 64 := by omega
        simp [a, b, z1, z2]
      · by_cases h3 : (n : Int) ≤ 65535
        · rw [Lib.encodeRuneZ_three (by omega)]
          have a : ¬ n < 128 := by omega
          have b : ¬ n < 2048 := by omega
          have c : n < 65536 := by omega
          have z1 : (224 + (n : Int) / 4096).toNat = 224 + n / 4096 := by omega
          have z2 : (128 + (n : Int) / 64 % 64).toNat = 128 + n / 64 % 64 := by omega
          have z3 : (128 + (n : Int) % 64).toNat = 128 + n % 64 := by omega
          simp [a, b, c, z1, z2, z3]
        · rw [Lib.encodeRuneZ_four (by omega) (by omega)]
          have a : ¬ n < 128 := by omega
          have b : ¬ n < 2048 := by omega
          have c : ¬ n < 65536 := by omega
          have z0 : (240 + (n : Int) / 262144).toNat = 240 + n / 262144 := by omega
          have z1 : (128 + (n : Int) / 4096 % 64).toNat = 128 + n / 4096 % 64 := by omega
          have z2 : (128 + (n : Int) / 64 % 64).toNat = 128 + n / 64 % 64 := by omega
          have z3 : (128 + (n : Int) % 64).toNat = 128 + n % 64 := by omega
          simp [a, b, c, z0, z1, z2, z3]
  · rw [hv, decide_eq_false h]
    have a : ¬ (0 ≤ r ∧ r ≤ 127) := by omega
    have b : ¬ (128 ≤ r ∧ r ≤ 2047) := by omega
    have c : ¬ ((2048 ≤ r ∧ r < 55296) ∨ (57343 < r ∧ r ≤ 65535)) := by omega
    have d : ¬ (65536 ≤ r ∧ r ≤ 1114111) := by omega
    unfold Lib.encodeRuneZ
    rw [if_neg a, if_neg b, if_neg c, if_neg d]
    simp [Utf8.runeError]
theorem size_len (a : ByteArray) : a.data.toList.length = a.size := by rw [Array.length_toList]; rfl
/-- The text has the bytes l from i on. -/
def Bg (s : ByteArray) (i : Nat) (l : List UInt8) : Prop := l <+: s.data.toList.drop i
theorem Bg.nil (s : ByteArray) (i : Nat) : Bg s i [] := List.nil_prefix
theorem Bg.app {s : ByteArray} {i : Nat} {l m : List UInt8} (h : Bg s i l) (h' : Bg s (i + l.length) m) : Bg s i (l ++ m) := by
  obtain ⟨r, hr⟩ := h
  obtain ⟨q, hq⟩ := h'
  refine ⟨q, ?_⟩
  rw [← List.drop_drop, ← hr, List.drop_left] at hq
  rw [List.append_assoc, hq, hr]
theorem Bg.sub {s : ByteArray} {i : Nat} {l m : List UInt8} (h : Bg s i l) (h' : m <+: l) : Bg s i m := h'.trans h
/-- A rune that is well formed stands there in its form. -/
theorem rn_bg {s : ByteArray} {i : Nat} (hi : i < s.size) (hb : rnBad s i = false) : Bg s i (Utf8.encode (rnR s i)).data.toList := by
  have hex : ∀ j, (s.extract i j).data.toList = (s.data.toList.drop i).take (j - i) := fun j => by
    rw [ByteArray.data_extract, Array.toList_extract, List.extract_eq_take_drop]
  by_cases h : rnR s i = 65533
  · unfold rnBad at hb
    rw [Bool.and_eq_false_iff] at hb
    rcases hb with hb | hb
    · rw [h] at hb
      exact absurd hb (by decide)
    · have hb2 := (Bool.or_eq_false_iff.1 hb).2
      rw [toList_eq] at hb2
      have e : (s.extract i (i + (Utf8.encode (rnR s i)).size)).data.toList = (Utf8.encode (rnR s i)).data.toList := by
        rw [show s.extract i (i + (Utf8.encode (rnR s i)).size) = Utf8.encode (rnR s i) by simpa using hb2]
      rw [← e, hex]
      exact List.take_prefix _ _
  · have hlen : (s.extract i s.size).data.toList.length = s.size - i := by
      have : (s.extract i s.size).size = s.size - i := by simp
      rw [← this, Array.length_toList]
      rfl
    have hall : (s.extract i s.size).data.toList = s.data.toList.drop i := by
      rw [hex, List.take_of_length_le (by rw [List.length_drop, size_len]; exact Nat.le_refl _)]
    obtain ⟨l, hl⟩ : ∃ l, l = (s.extract i s.size).data.toList := ⟨_, rfl⟩
    have hd : Utf8.decode (s.extract i s.size) 0 = Lib.decodeL l := by rw [hl]; rfl
    have hne : l ≠ [] := fun e => by rw [← hl, e] at hlen; simp at hlen; omega
    have hr : rnR s i = ((Lib.decodeL l).1 : Int) := by unfold rnR; rw [hd]
    have hed := Lib.encode_decode l hne (fun e => h (by rw [hr, e.1]; rfl))
    unfold Bg
    rw [enc_bytes, hr, hed, ← hall, ← hl]
    exact List.take_prefix _ _
theorem tk_bg {s : ByteArray} {r : Int} {i j : Nat} (h : TkR s [(r, r)] i j) : Bg s i (Utf8.encode r).data.toList ∧ j = i + (Utf8.encode r).data.toList.length := by
  obtain ⟨h1, h2, ⟨x, hx, h3, h4⟩, h5⟩ := h
  rcases List.mem_singleton.1 hx with rfl
  have e : rnR s i = r := by dsimp only at h3 h4; omega
  rw [← e]
  exact ⟨rn_bg h1 h2, by rw [h5, size_len]⟩
/-- A front: a text, and whether it is all. -/
abbrev Fr := List UInt8 × Bool
def rowF (G : Nat → Fr) : Nat → Fr
  | 0 => ([], true)
  | n + 1 => if (rowF G n).2 = true then ((rowF G n).1 ++ (G n).1, (G n).2) else rowF G n
def comF (C : List UInt8 → List UInt8 → List UInt8) (G : Nat → Fr) : Nat → Fr
  | 0 => G 0
  | n + 1 => (C (comF C G n).1 (G (n + 1)).1, (comF C G n).2 && (G (n + 1)).2 && ((G (n + 1)).1 == (comF C G n).1))
def timL (l : List UInt8) : Nat → List UInt8
  | 0 => []
  | n + 1 => timL l n ++ l
theorem timL_len (l : List UInt8) : ∀ n, (timL l n).length = n * l.length
  | 0 => by simp [timL]
  | n + 1 => by unfold timL; rw [List.length_append, timL_len l n, Nat.add_mul, Nat.one_mul]
def repF (k : Fr) (mn mx : Int) : Fr :=
  if mx = 0 then ([], true)
  else if mn = 0 then ([], k.2 && k.1 == [])
  else if k.2 = false then k
  else (timL k.1 mn.toNat, (k.2 && k.1 == []) || mx == mn)
def frF (C : List UInt8 → List UInt8 → List UInt8) : Nat → Tr → Fr
  | 0, _ => ([], false)
  | m + 1, t =>
    if (t []).kind = 2 then (if Utf8.valid (t []).r = true then ((Utf8.encode (t []).r).data.toList, true) else ([], false))
    else if (t []).kind = 3 then ([], false)
    else if (t []).kind = 4 then rowF (fun q => frF C m (kid t q)) (t []).kn
    else if (t []).kind = 5 then comF C (fun q => frF C m (kid t q)) ((t []).kn - 1)
    else if (t []).kind = 6 then repF (frF C m (kid t 0)) (t []).mn (t []).mx
    else if (t []).kind = 7 then frF C m (kid t 0)
    else ([], true)
/-- A front holds of what is taken from i to j. -/
def FrOk (s : ByteArray) (f : Fr) (i j : Nat) : Prop := Bg s i f.1 ∧ (f.2 = true → j = i + f.1.length)
theorem row_ok {s : ByteArray} {G : Nat → Fr} {M : Nat → Nat → Nat → Prop} : ∀ n, (∀ q, q < n → ∀ i j, M q i j → FrOk s (G q) i j) → ∀ i j, catM M n i j → FrOk s (rowF G n) i j
  | 0, _, i, j, h => ⟨Bg.nil s i, fun _ => by have e : i = j := h; simp [rowF, e]⟩
  | n + 1, h, i, j, ⟨k, h1, h2⟩ => by
    have ih := row_ok n (fun q hq => h q (by omega)) i k h1
    have hn := h n (by omega) k j h2
    unfold rowF
    by_cases hb : (rowF G n).2 = true
    · rw [if_pos hb]
      have e := ih.2 hb
      subst e
      refine ⟨ih.1.app hn.1, fun hx => ?_⟩
      rw [hn.2 hx, List.length_append, Nat.add_assoc]
    · rw [if_neg hb]
      exact ⟨ih.1, fun hx => absurd hx hb⟩
theorem com_sub {C : List UInt8 → List UInt8 → List UInt8} (hC : ∀ a b, C a b <+: a ∧ C a b <+: b) (hCC : ∀ a, C a a = a) {G : Nat → Fr} : ∀ n q, q ≤ n → (comF C G n).1 <+: (G q).1 ∧ ((comF C G n).2 = true → (G q).2 = true ∧ (G q).1 = (comF C G n).1)
  | 0, q, hq => by
    have : q = 0 := by omega
    subst this
    exact ⟨List.prefix_refl _, fun h => ⟨h, rfl⟩⟩
  | n + 1, q, hq => by
    have hx : (comF C G (n + 1)).2 = true → (comF C G n).2 = true ∧ (G (n + 1)).2 = true ∧ (G (n + 1)).1 = (comF C G n).1 := fun h => by
      unfold comF at h
      simp at h
      exact ⟨h.1.1, h.1.2, h.2⟩
    have he : (comF C G (n + 1)).2 = true → (comF C G (n + 1)).1 = (comF C G n).1 := fun h => by
      show C _ _ = _
      rw [(hx h).2.2, hCC]
    by_cases e : q = n + 1
    · subst e
      exact ⟨(hC _ _).2, fun h => ⟨(hx h).2.1, by rw [he h]; exact (hx h).2.2⟩⟩
    · have ih := com_sub hC hCC (G := G) n q (by omega)
      refine ⟨(hC _ _).1.trans ih.1, fun h => ?_⟩
      have := ih.2 (hx h).1
      exact ⟨this.1, by rw [he h]; exact this.2⟩
theorem it_bg {s : ByteArray} {K : Nat → Nat → Prop} {l : List UInt8} (h : ∀ i j, K i j → Bg s i l ∧ j = i + l.length) : ∀ n i j, itM K n i j → Bg s i (timL l n) ∧ j = i + n * l.length
  | 0, i, j, hm => ⟨Bg.nil s i, by have e : i = j := hm; simp [e]⟩
  | n + 1, i, j, hm => by
    obtain ⟨k, h1, h2⟩ := itM_snoc.1 hm
    obtain ⟨b1, e1⟩ := it_bg h n i k h1
    obtain ⟨b2, e2⟩ := h k j h2
    refine ⟨?_, by rw [e2, e1, Nat.add_mul, Nat.one_mul, Nat.add_assoc]⟩
    unfold timL
    refine b1.app ?_
    rw [timL_len, ← e1]
    exact b2
theorem timL_pre (l : List UInt8) (n : Nat) : ∀ d, timL l n <+: timL l (n + d)
  | 0 => List.prefix_refl _
  | d + 1 => (timL_pre l n d).trans (List.prefix_append _ _)
theorem rep_ok {s : ByteArray} {k : Fr} {K : Nat → Nat → Prop} (h : ∀ i j, K i j → FrOk s k i j) (mn mx : Int) (h0 : 0 ≤ mn) {n i j : Nat} (h1 : mn ≤ n) (h2 : mx = -1 ∨ (n : Int) ≤ mx) (hm : itM K n i j) : FrOk s (repF k mn mx) i j := by
  unfold repF
  by_cases c1 : mx = 0
  · rw [if_pos c1]
    have : n = 0 := by omega
    subst this
    have e : i = j := hm
    exact ⟨Bg.nil s i, fun _ => by simp [e]⟩
  rw [if_neg c1]
  have hz : (k.2 && k.1 == []) = true → j = i := fun hz => by
    simp at hz
    have := (it_bg (l := k.1) (fun i j hk => ⟨(h i j hk).1, (h i j hk).2 hz.1⟩) n i j hm).2
    rw [this, hz.2]
    simp
  by_cases c2 : mn = 0
  · rw [if_pos c2]
    exact ⟨Bg.nil s i, fun hx => by rw [hz hx]; simp⟩
  rw [if_neg c2]
  by_cases c3 : k.2 = false
  · rw [if_pos c3]
    obtain ⟨n', rfl⟩ : ∃ n', n = n' + 1 := ⟨n - 1, by omega⟩
    obtain ⟨q, hq, _⟩ := hm
    exact ⟨(h i q hq).1, fun hx => by rw [c3] at hx; cases hx⟩
  rw [if_neg c3]
  have c3' : k.2 = true := by simpa using c3
  obtain ⟨b, e⟩ := it_bg (l := k.1) (fun i j hk => ⟨(h i j hk).1, (h i j hk).2 c3'⟩) n i j hm
  refine ⟨b.sub ?_, fun hx => ?_⟩
  · have := timL_pre k.1 mn.toNat (n - mn.toNat)
    rwa [show mn.toNat + (n - mn.toNat) = n by omega] at this
  · rw [Bool.or_eq_true] at hx
    dsimp only
    rw [timL_len]
    rcases hx with hx | hx
    · rw [hz hx]
      simp at hx
      simp [hx.2]
    · have hx' : mx = mn := by simpa using hx
      rw [e, show mn.toNat = n by omega]
/-- All that a tree takes begins with its front. -/
theorem fr_ok {C : List UInt8 → List UInt8 → List UInt8} (hC : ∀ a b, C a b <+: a ∧ C a b <+: b) (hCC : ∀ a, C a a = a) {s : ByteArray} : ∀ (m : Nat) (t : Tr), WF m t → ∀ i j, Mn s m t i j → FrOk s (frF C m t) i j
  | 0, _, h, _, _, _ => by cases h
  | m + 1, t, hw, i, j, hm => by
    obtain ⟨⟨hnd, _⟩, _, hk⟩ := hw
    have hkd := ndB_kind hnd
    unfold Mn at hm
    unfold frF
    by_cases k2 : (t []).kind = 2
    · rw [if_pos k2] at hm ⊢
      split
      · exact ⟨(tk_bg hm).1, fun _ => (tk_bg hm).2⟩
      · exact ⟨Bg.nil s i, fun h => by cases h⟩
    rw [if_neg k2] at hm ⊢
    by_cases k3 : (t []).kind = 3
    · rw [if_pos k3]
      exact ⟨Bg.nil s i, fun h => by cases h⟩
    rw [if_neg k3] at hm ⊢
    by_cases k4 : (t []).kind = 4
    · rw [if_pos k4] at hm ⊢
      exact row_ok _ (fun q hq i j h => fr_ok hC hCC m _ (hk q hq) i j h) i j hm
    rw [if_neg k4] at hm ⊢
    by_cases k5 : (t []).kind = 5
    · rw [if_pos k5] at hm ⊢
      obtain ⟨q, hq, hm⟩ := hm
      have ho := fr_ok hC hCC m _ (hk q hq) i j hm
      obtain ⟨c1, c2⟩ := com_sub hC hCC (G := fun q => frF C m (kid t q)) ((t []).kn - 1) q (by omega)
      refine ⟨ho.1.sub c1, fun hx => ?_⟩
      obtain ⟨d1, d2⟩ := c2 hx
      rw [← d2]
      exact ho.2 d1
    rw [if_neg k5] at hm ⊢
    by_cases k6 : (t []).kind = 6
    · rw [if_pos k6] at hm ⊢
      have h6 := ndB_rep hnd k6
      obtain ⟨n, h1, h2, hm⟩ := hm
      exact rep_ok (fun i j h => fr_ok hC hCC m _ (hk 0 (by omega)) i j h) _ _ (by omega) h1 h2 hm
    rw [if_neg k6] at hm ⊢
    by_cases k7 : (t []).kind = 7
    · rw [if_pos k7] at hm ⊢
      have h7 := ndB_grp hnd k7
      exact fr_ok hC hCC m _ (hk 0 (by omega)) i j hm
    rw [if_neg k7] at hm ⊢
    have e : j = i := by
      split at hm
      · exact hm.2
      split at hm
      · exact hm.2
      · exact hm.symm
    exact ⟨Bg.nil s i, fun _ => by simp [e]⟩
end Go.Proofs.YtbciclnffokjjaaDoor
