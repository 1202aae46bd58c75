/- A bundle of texts. -/
import Derived.Test.YtbciclnffokjjaaBm25
/- What a tree means, and that its code says so. -/
namespace Go.Proofs.Ytbciclnffokjjaa
open Go.RowKit

/-- The code p lies from b on. -/
def At (c : List Ia) (b : Nat) (p : List Ia) : Prop := ∀ k ins, p[k]? = some ins → c[b + k]? = some ins
theorem At.left {c p q : List Ia} {b : Nat} (h : At c b (p ++ q)) : At c b p := fun k ins hk => h k ins (by rw [List.getElem?_append_left (List.getElem?_eq_some_iff.1 hk).1]; exact hk)
theorem At.right {c p q : List Ia} {b : Nat} (h : At c b (p ++ q)) : At c (b + p.length) q := fun k ins hk => by
  rw [Nat.add_assoc]
  exact h _ ins (by rw [List.getElem?_append_right (by omega), Nat.add_sub_cancel_left]; exact hk)
theorem At.head {c q : List Ia} {i : Ia} {b : Nat} (h : At c b (i :: q)) : c[b]? = some i := h 0 i rfl
theorem At.tail {c q : List Ia} {i : Ia} {b : Nat} (h : At c b (i :: q)) : At c (b + 1) q := fun k ins hk => by
  rw [Nat.add_assoc, Nat.add_comm 1]
  exact h (k + 1) ins (by simpa using hk)
theorem bcast (b L : Nat) : (b : Int) + (L : Int) = ((b + L : Nat) : Int) := by omega
theorem bcast1 (b : Nat) : (b : Int) + 1 = ((b + 1 : Nat) : Int) := by omega

def catM (M : Nat → Nat → Nat → Prop) : Nat → Nat → Nat → Prop
  | 0, i, j => i = j
  | n + 1, i, j => ∃ k, catM M n i k ∧ M n k j
theorem cat_wrk {c : List Ia} {s : ByteArray} {F : Nat → Int → List Ia} {M : Nat → Nat → Nat → Prop} (b : Nat) : ∀ j, (∀ i, i < j → ∀ b : Nat, At c b (F i b) → Wrk c s b (F i b).length (M i)) → At c b (catF F j b) → Wrk c s b (catF F j b).length (catM M j)
  | 0, _, _ => Wrk.nil c s b
  | j + 1, h, ha => by
    unfold catF at ha ⊢
    have w1 := cat_wrk b j (fun i hi => h i (by omega)) ha.left
    have a2 := ha.right
    rw [bcast] at a2 ⊢
    rw [List.length_append]
    exact w1.seq (h j (by omega) _ a2)
theorem alt_pre {c : List Ia} {F : Nat → Int → List Ia} {e : Int} {b : Nat} {n : Nat} : ∀ d q, q + d = n → At c b (altF F e n b) → At c b (altF F e q b)
  | 0, q, h, ha => by have : q = n := by omega
                      subst this; exact ha
  | d + 1, q, h, ha => by
    have := alt_pre d (q + 1) (by omega) ha
    unfold altF at this
    exact this.left
theorem jmp_sti {s : ByteArray} {e : Int} {i y j : Nat} : StI s ⟨10, e, 0, 0, []⟩ i y j ↔ (j = i ∧ y = e.toNat) := by
  unfold StI
  have hg : goB 10 0 s i = true := by unfold goB; simp
  simp [hg]
theorem two_sti {s : ByteArray} {a b : Int} {i y j : Nat} : StI s ⟨3, a, b, 0, []⟩ i y j ↔ (j = i ∧ (y = a.toNat ∨ y = b.toNat)) := by
  unfold StI
  have hg : goB 3 0 s i = true := by unfold goB; simp
  simp [hg]
theorem cap_sti {s : ByteArray} {a g : Int} {i y j : Nat} : StI s ⟨4, a, 0, g, []⟩ i y j ↔ (j = i ∧ y = a.toNat) := by
  unfold StI
  have hg : goB 4 g s i = true := by unfold goB; simp
  simp [hg]
theorem alt_wrk {c : List Ia} {s : ByteArray} {F : Nat → Int → List Ia} {M : Nat → Nat → Nat → Prop} (b n E : Nat) (h : ∀ i, i ≤ n → ∀ b : Nat, At c b (F i b) → Wrk c s b (F i b).length (M i)) (ha : At c b (altF F E n b)) (hl : At c (b + (altF F E n b).length) (F n ((b + (altF F E n b).length : Nat) : Int)))
    (hE : E = b + (altF F E n b).length + (F n ((b + (altF F E n b).length : Nat) : Int)).length) : ∀ d q, q + d = n → ∃ L, b + (altF F E q b).length + L = E ∧ Wrk c s (b + (altF F E q b).length) L (fun i j => ∃ r, q ≤ r ∧ r ≤ n ∧ M r i j)
  | 0, q, hq => by
    have : q = n := by omega
    subst this
    refine ⟨_, hE.symm, (h q (Nat.le_refl _) _ hl).imp (fun i k => ⟨fun hm => ⟨q, Nat.le_refl _, Nat.le_refl _, hm⟩, fun ⟨r, h1, h2, hm⟩ => ?_⟩)⟩
    have : r = q := by omega
    subst this
    exact hm
  | d + 1, q, hq => by
    obtain ⟨L2, hL2, w2⟩ := alt_wrk b n E h ha hl hE d (q + 1) (by omega)
    have a1 := alt_pre d (q + 1) (by omega) ha
    have hlen : (altF F E (q + 1) b).length = (altF F E q b).length + 1 + (F q (b + (altF F E q b).length + 1)).length + 1 := by
      conv => lhs; unfold altF
      simp
      omega
    unfold altF at a1
    generalize hB : (altF F E q b).length = B at *
    have a2 := a1.right
    rw [hB] at a2
    rw [bcast, bcast1] at a2 hlen
    have t1 := a2.head
    have a3 := a2.tail
    have w1 := h q (by omega) _ a3.left
    have t2 := a3.right.head
    generalize (F q ((b + B + 1 : Nat) : Int)).length = L1 at *
    rw [show b + (altF F E (q + 1) b).length = b + B + 1 + L1 + 1 by omega] at w2 hL2
    refine ⟨1 + L1 + 1 + L2, by omega, (Wrk.alt t1 t2 (fun i y j => ?_) (fun i y j => ?_) w1 w2).imp (fun i k => ⟨fun hm => ?_, fun ⟨r, h1, h2, hm⟩ => ?_⟩)⟩
    · rw [two_sti]
      have z1 : ((b + B + 1 : Nat) : Int).toNat = b + B + 1 := by omega
      have z2 : (((b + B + 1 : Nat) : Int) + (L1 : Int) + 1).toNat = b + B + 1 + L1 + 1 := by omega
      rw [z1, z2]
    · rw [jmp_sti]
      have z1 : (E : Int).toNat = b + B + 1 + L1 + 1 + L2 := by omega
      rw [z1]
    · rcases hm with hm | ⟨r, h1, h2, hm⟩
      · exact ⟨q, Nat.le_refl _, by omega, hm⟩
      · exact ⟨r, by omega, h2, hm⟩
    · by_cases e : r = q
      · subst e; exact .inl hm
      · exact .inr ⟨r, by omega, h2, hm⟩
theorem lay_wrk {c k : List Ia} {s : ByteArray} {K : Nat → Nat → Prop} (hK : ∀ b : Nat, At c b (mvs b k) → Wrk c s b k.length K) (b : Nat) : ∀ j, At c b (layF k j b) → Wrk c s b (j * k.length) (itM K j)
  | 0, _ => by
    rw [Nat.zero_mul]
    exact Wrk.nil c s b
  | j + 1, ha => by
    unfold layF at ha
    have w1 := lay_wrk hK b j ha.left
    have a2 := ha.right
    rw [layF_len, bcast] at a2
    rw [Nat.add_mul, Nat.one_mul]
    exact (w1.seq (hK _ a2)).imp (fun i k => itM_snoc.symm)
theorem opt_pre {c k : List Ia} {lz : Bool} {e : Int} {b : Nat} {n : Nat} : ∀ d q, q + d = n → At c b (optF k lz e n b) → At c b (optF k lz e q b)
  | 0, q, h, ha => by have : q = n := by omega
                      subst this; exact ha
  | d + 1, q, h, ha => by
    have := opt_pre d (q + 1) (by omega) ha
    unfold optF at this
    exact this.left
theorem opt_wrk {c k : List Ia} {s : ByteArray} {K : Nat → Nat → Prop} {lz : Bool} (hK : ∀ b : Nat, At c b (mvs b k) → Wrk c s b k.length K) (b n E : Nat) (hE : E = b + n * (1 + k.length)) (ha : At c b (optF k lz E n b)) : ∀ d q, q + d = n → Wrk c s (b + q * (1 + k.length)) (d * (1 + k.length)) (fun i j => ∃ r, r ≤ d ∧ itM K r i j)
  | 0, q, hq => by
    rw [Nat.zero_mul]
    refine (Wrk.nil c s _).imp (fun i k => ⟨fun e => ⟨0, Nat.le_refl _, e⟩, fun ⟨r, hr, h⟩ => ?_⟩)
    have : r = 0 := by omega
    subst this
    exact h
  | d + 1, q, hq => by
    have w2 := opt_wrk hK b n E hE ha d (q + 1) (by omega)
    have a1 := opt_pre d (q + 1) (by omega) ha
    unfold optF at a1
    have a2 := a1.right
    rw [optF_len, bcast, bcast1] at a2
    have t1 := a2.head
    have w1 := hK _ a2.tail
    have eE : E = b + q * (1 + k.length) + 1 + k.length + d * (1 + k.length) := by
      rw [hE, ← hq, Nat.add_mul q, Nat.add_mul d, Nat.one_mul]
      omega
    rw [show b + (q + 1) * (1 + k.length) = b + q * (1 + k.length) + 1 + k.length by rw [Nat.add_mul, Nat.one_mul]; omega] at w2
    rw [show (d + 1) * (1 + k.length) = 1 + k.length + d * (1 + k.length) by rw [Nat.add_mul, Nat.one_mul]; omega]
    generalize b + q * (1 + k.length) = B at *
    generalize d * (1 + k.length) = R at *
    refine (Wrk.opt t1 (fun i y j => ?_) w1 w2).imp (fun i k => ⟨fun hm => ?_, fun ⟨r, hr, h⟩ => ?_⟩)
    · rw [spl_sti]
      have z1 : ((B : Int) + 1).toNat = B + 1 := by omega
      have z2 : (E : Int).toNat = B + 1 + k.length + R := by omega
      rw [z1, z2]
    · rcases hm with e | ⟨q, h1, r, hr, h2⟩
      · exact ⟨0, by omega, e⟩
      · exact ⟨r + 1, by omega, q, h1, h2⟩
    · cases r with
      | zero => exact .inl h
      | succ r =>
        obtain ⟨q, h1, h2⟩ := h
        exact .inr ⟨q, h1, r, by omega, h2⟩
end Go.Proofs.Ytbciclnffokjjaa
/- What a tree means: its code says so, and so does the law's matcher. -/
namespace Go.Proofs.Ytbciclnffokjjaa
open Go.RowKit

theorem rep_wrk {c k : List Ia} {s : ByteArray} {K : Nat → Nat → Prop} (hK : ∀ b : Nat, At c b (mvs b k) → Wrk c s b k.length K) (mn mx : Int) (lz : Bool) (h0 : 0 ≤ mn) (hx : mx = -1 ∨ mn ≤ mx) (b : Nat) (ha : At c b (repC k mn mx lz b)) :
    Wrk c s b (repC k mn mx lz b).length (fun i j => ∃ n : Nat, mn ≤ n ∧ (mx = -1 ∨ (n : Int) ≤ mx) ∧ itM K n i j) := by
  unfold repC at ha ⊢
  by_cases h1 : mx = 0
  · rw [if_pos h1]
    refine (Wrk.nil c s b).imp (fun i k => ⟨fun e => ⟨0, by omega, .inr (by omega), e⟩, fun ⟨n, q1, q2, h⟩ => ?_⟩)
    have : n = 0 := by omega
    subst this
    exact h
  rw [if_neg h1] at ha ⊢
  by_cases h2 : mx = -1
  · rw [if_pos h2] at ha ⊢
    have w1 := lay_wrk hK b mn.toNat ha.left
    have a2 := ha.right
    rw [layF_len, bcast, bcast1] at a2
    have t1 := a2.head
    have a3 := a2.tail
    have w2 := hK _ a3.left
    have t2 := a3.right.head
    rw [mvs_len] at t2
    have hL : (layF k mn.toNat (b : Int) ++ spl ((b + mn.toNat * k.length : Nat) : Int) (((b + mn.toNat * k.length + 1 : Nat) : Int) + (k.length : Int) + 1) lz :: (mvs ((b + mn.toNat * k.length + 1 : Nat) : Int) k ++ [⟨10, ((b + mn.toNat * k.length : Nat) : Int), 0, 0, []⟩])).length = mn.toNat * k.length + (1 + k.length + 1) := by
      rw [List.length_append, List.length_cons, List.length_append, mvs_len, layF_len]
      simp
      omega
    rw [layF_len, bcast, bcast1, hL]
    have w3 : Wrk c s (b + mn.toNat * k.length) (1 + k.length + 1) (fun i j => ∃ n, itM K n i j) := by
      generalize b + mn.toNat * k.length = B at t1 t2 w2 ⊢
      refine Wrk.star t1 t2 (fun i y j => ?_) (fun i y j => ?_) w2
      · rw [spl_sti]
        have z1 : ((B : Int) + 1).toNat = B + 1 := by omega
        have z2 : (((B + 1 : Nat) : Int) + (k.length : Int) + 1).toNat = B + 1 + k.length + 1 := by omega
        rw [z1, z2]
      · rw [jmp_sti, Int.toNat_natCast]
    refine (w1.seq w3).imp (fun i k => ⟨fun ⟨q, m1, n, m2⟩ => ⟨mn.toNat + n, by omega, .inl h2, itM_add.2 ⟨q, m1, m2⟩⟩, fun ⟨n, q1, _, h⟩ => ?_⟩)
    · obtain ⟨n', rfl⟩ : ∃ n', n = mn.toNat + n' := ⟨n - mn.toNat, by omega⟩
      obtain ⟨q, m1, m2⟩ := itM_add.1 h
      exact ⟨q, m1, n', m2⟩
  · rw [if_neg h2] at ha ⊢
    have w1 := lay_wrk hK b mn.toNat ha.left
    have a2 := ha.right
    rw [layF_len, bcast] at a2
    obtain ⟨D, hD⟩ : ∃ D : Nat, mx - mn = (D : Int) := ⟨(mx - mn).toNat, by omega⟩
    have eE : ((b + mn.toNat * k.length : Nat) : Int) + (mx - mn) * (1 + (k.length : Int)) = ((b + mn.toNat * k.length + D * (1 + k.length) : Nat) : Int) := by
      rw [hD]
      push_cast
      rfl
    rw [eE, hD, Int.toNat_natCast] at a2
    have w2 := opt_wrk hK (b + mn.toNat * k.length) D _ rfl a2 D 0 (by omega)
    rw [List.length_append, layF_len, optF_len, hD, Int.toNat_natCast]
    rw [Nat.zero_mul, Nat.add_zero] at w2
    refine (w1.seq w2).imp (fun i k => ⟨fun ⟨q, m1, n, hn, m2⟩ => ⟨mn.toNat + n, by omega, .inr (by omega), itM_add.2 ⟨q, m1, m2⟩⟩, fun ⟨n, q1, q2, h⟩ => ?_⟩)
    obtain ⟨n', rfl⟩ : ∃ n', n = mn.toNat + n' := ⟨n - mn.toNat, by omega⟩
    obtain ⟨q, m1, m2⟩ := itM_add.1 h
    exact ⟨q, m1, n', by omega, m2⟩
/-- What a tree takes: from the place i to the place j. -/
def Mn (s : ByteArray) : Nat → Tr → Nat → Nat → Prop
  | 0, _, _, _ => False
  | m + 1, t, i, j =>
    if (t []).kind = 2 then TkR s [((t []).r, (t []).r)] i j
    else if (t []).kind = 3 then TkR s (rsL (t [])) i j
    else if (t []).kind = 4 then catM (fun q => Mn s m (kid t q)) (t []).kn i j
    else if (t []).kind = 5 then ∃ q, q < (t []).kn ∧ Mn s m (kid t q) i j
    else if (t []).kind = 6 then ∃ n : Nat, (t []).mn ≤ n ∧ ((t []).mx = -1 ∨ (n : Int) ≤ (t []).mx) ∧ itM (Mn s m (kid t 0)) n i j
    else if (t []).kind = 7 then Mn s m (kid t 0) i j
    else if (t []).kind = 13 then goB 9 1 s i = true ∧ j = i
    else if 8 ≤ (t []).kind then goB ((t []).kind - 3) 0 s i = true ∧ j = i
    else i = j
theorem tk_sti {s : ByteArray} {rs : List Rg} {b i y j : Nat} : StI s ⟨2, (b : Int) + 1, 0, 0, rs⟩ i y j ↔ (y = b + 1 ∧ TkR s rs i j) := by
  unfold StI
  have hg : goB 2 0 s i = false := by unfold goB; simp
  have z1 : ((b : Int) + 1).toNat = b + 1 := by omega
  simp only [hg, z1]
  simp
  exact And.comm
theorem go_sti {s : ByteArray} {op arg : Int} {b i y j : Nat} (h2 : op ≠ 2) (h3 : op ≠ 3) : StI s ⟨op, (b : Int) + 1, 0, arg, []⟩ i y j ↔ (y = b + 1 ∧ (goB op arg s i = true ∧ j = i)) := by
  unfold StI
  have z1 : ((b : Int) + 1).toNat = b + 1 := by omega
  simp only [z1, h2, h3, false_and, or_false]
  constructor
  · rintro ⟨h, e, e'⟩; exact ⟨e', h, e⟩
  · rintro ⟨e', h, e⟩; exact ⟨h, e, e'⟩
theorem cod_wrk {c : List Ia} {s : ByteArray} : ∀ (m : Nat) (t : Tr) (b : Nat), WF m t → At c b (cod m t b) → Wrk c s b (cod m t b).length (Mn s m t)
  | 0, _, _, h, _ => by cases h
  | m + 1, t, b, hw, ha => by
    obtain ⟨⟨hnd, _⟩, _, hk⟩ := hw
    have hkd := ndB_kind hnd
    have eM : ∀ i j, Mn s (m + 1) t i j = if (t []).kind = 2 then TkR s [((t []).r, (t []).r)] i j
      else if (t []).kind = 3 then TkR s (rsL (t [])) i j
      else if (t []).kind = 4 then catM (fun q => Mn s m (kid t q)) (t []).kn i j
      else if (t []).kind = 5 then ∃ q, q < (t []).kn ∧ Mn s m (kid t q) i j
      else if (t []).kind = 6 then ∃ n : Nat, (t []).mn ≤ n ∧ ((t []).mx = -1 ∨ (n : Int) ≤ (t []).mx) ∧ itM (Mn s m (kid t 0)) n i j
      else if (t []).kind = 7 then Mn s m (kid t 0) i j
      else if (t []).kind = 13 then goB 9 1 s i = true ∧ j = i
      else if 8 ≤ (t []).kind then goB ((t []).kind - 3) 0 s i = true ∧ j = i
      else i = j := fun i j => rfl
    unfold cod at ha ⊢
    by_cases k2 : (t []).kind = 2
    · simp only [if_pos k2] at ha eM ⊢
      exact (Wrk.one ha.head (fun i y j => tk_sti)).imp (fun i k => by rw [eM])
    simp only [if_neg k2] at ha eM ⊢
    by_cases k3 : (t []).kind = 3
    · simp only [if_pos k3] at ha eM ⊢
      by_cases hz : (rsL (t [])).length = 0
      · have hc := ha.head
        unfold clsC at hc
        rw [if_pos hz] at hc
        refine Wrk.one hc (fun i y j => ?_)
        rw [eM, List.length_eq_zero_iff.1 hz]
        unfold StI TkR inR
        have hg : goB 11 0 s i = false := by unfold goB; simp
        simp [hg]
      · have hc := ha.head
        unfold clsC at hc
        rw [if_neg hz] at hc
        exact (Wrk.one hc (fun i y j => tk_sti)).imp (fun i k => by rw [eM])
    simp only [if_neg k3] at ha eM ⊢
    by_cases k4 : (t []).kind = 4
    · simp only [if_pos k4] at ha eM ⊢
      exact (cat_wrk b _ (fun i hi b hb => cod_wrk m (kid t i) b (hk i hi) hb) ha).imp (fun i k => by rw [eM])
    simp only [if_neg k4] at ha eM ⊢
    by_cases k5 : (t []).kind = 5
    · simp only [if_pos k5] at ha eM ⊢
      have h2 := ndB_row hnd (.inr k5)
      generalize hn : (t []).kn - 1 = n at *
      have hF : ∀ i, i ≤ n → ∀ b : Nat, At c b (cod m (kid t i) b) → Wrk c s b (cod m (kid t i) b).length (Mn s m (kid t i)) := fun i hi b hb => cod_wrk m (kid t i) b (hk i (by omega)) hb
      obtain ⟨F, hFd⟩ : ∃ F : Nat → Int → List Ia, F = fun j b => cod m (kid t j) b := ⟨_, rfl⟩
      rw [← hFd] at ha ⊢
      have hF' : ∀ i, i ≤ n → ∀ b : Nat, At c b (F i b) → Wrk c s b (F i b).length (Mn s m (kid t i)) := by rw [hFd]; exact hF
      unfold altC at ha ⊢
      obtain ⟨E, hE⟩ : ∃ E : Nat, (b : Int) + (altF F 0 n b).length + (F n (b + (altF F 0 n b).length)).length = (E : Int) := ⟨b + (altF F 0 n b).length + (F n (b + (altF F 0 n b).length)).length, by omega⟩
      rw [hE] at ha ⊢
      have hl := altF_len F 0 (E : Int) b n
      rw [hl, bcast] at hE
      rw [hl, bcast] at ha ⊢
      obtain ⟨L, hL, w⟩ := alt_wrk b n E hF' ha.left ha.right (by omega) n 0 (by omega)
      have hz : (altF F (E : Int) 0 b).length = 0 := rfl
      rw [hz, Nat.add_zero] at w hL
      rw [List.length_append, show (altF F (E : Int) n b).length + (F n ((b + (altF F (E : Int) n b).length : Nat) : Int)).length = L by omega]
      exact w.imp (fun i k => by
        rw [eM]
        exact ⟨fun ⟨r, _, h2, h3⟩ => ⟨r, by omega, h3⟩, fun ⟨r, h2, h3⟩ => ⟨r, by omega, by omega, h3⟩⟩)
    simp only [if_neg k5] at ha eM ⊢
    by_cases k6 : (t []).kind = 6
    · simp only [if_pos k6] at ha eM ⊢
      have h6 := ndB_rep hnd k6
      have hK : ∀ b : Nat, At c b (mvs b (cod m (kid t 0) 0)) → Wrk c s b (cod m (kid t 0) 0).length (Mn s m (kid t 0)) := fun b hb => by
        have e := cod_mv (b : Int) m (kid t 0) 0 (hk 0 (by omega))
        rw [Int.add_zero] at e
        rw [e] at hb
        have := cod_wrk (c := c) (s := s) m (kid t 0) b (hk 0 (by omega)) hb
        rwa [← e, mvs_len] at this
      exact (rep_wrk hK _ _ _ (by omega) (by omega) b ha).imp (fun i k => by rw [eM])
    simp only [if_neg k6] at ha eM ⊢
    by_cases k7 : (t []).kind = 7
    · simp only [if_pos k7] at ha eM ⊢
      have h7 := ndB_grp hnd k7
      rw [bcast1] at ha ⊢
      have t1 := ha.head
      have a2 := ha.tail
      have w1 := cod_wrk (c := c) (s := s) m (kid t 0) (b + 1) (hk 0 (by omega)) a2.left
      have t2 := a2.right.head
      generalize cod m (kid t 0) ((b + 1 : Nat) : Int) = p at *
      have o1 : Wrk c s b 1 (fun i j => i = j) := Wrk.one t1 (fun i y j => by
        rw [cap_sti, Int.toNat_natCast]
        exact ⟨fun ⟨h1, h2⟩ => ⟨h2, h1.symm⟩, fun ⟨h1, h2⟩ => ⟨h2.symm, h1⟩⟩)
      have o2 : Wrk c s (b + 1 + p.length) 1 (fun i j => i = j) := Wrk.one t2 (fun i y j => by
        rw [cap_sti, show (((b + 1 : Nat) : Int) + (p.length : Int) + 1).toNat = b + 1 + p.length + 1 by omega]
        exact ⟨fun ⟨h1, h2⟩ => ⟨h2, h1.symm⟩, fun ⟨h1, h2⟩ => ⟨h2.symm, h1⟩⟩)
      have w := (o1.seq w1)
      rw [show b + 1 + p.length = b + (1 + p.length) by omega] at o2
      have w' := w.seq o2
      rw [List.length_cons, List.length_append, List.length_singleton, show p.length + 1 + 1 = 1 + p.length + 1 by omega]
      refine w'.imp (fun i k => ?_)
      rw [eM]
      constructor
      · rintro ⟨q, ⟨q', rfl, h⟩, rfl⟩; exact h
      · intro h; exact ⟨k, ⟨i, rfl, h⟩, rfl⟩
    simp only [if_neg k7] at ha eM ⊢
    by_cases k13 : (t []).kind = 13
    · simp only [if_pos k13] at ha eM ⊢
      exact (Wrk.one ha.head (fun i y j => go_sti (by decide) (by decide))).imp (fun i k => by rw [eM])
    simp only [if_neg k13] at ha eM ⊢
    by_cases k8 : 8 ≤ (t []).kind
    · simp only [if_pos k8] at ha eM ⊢
      exact (Wrk.one ha.head (fun i y j => go_sti (by omega) (by omega))).imp (fun i k => by rw [eM])
    · simp only [if_neg k8] at ha eM ⊢
      exact (Wrk.nil c s b).imp (fun i k => by rw [eM])
end Go.Proofs.Ytbciclnffokjjaa
/- What taken answers of a tree's program is what the tree means. -/
namespace Go.Proofs.Ytbciclnffokjjaa
open Go.RowKit

theorem RcP_pth {c : List Ia} {s : ByteArray} {i : Nat} {P : Nat → Prop} {x : Nat} (h : RcP c s (i : Int) P x) : ∃ y n, P y ∧ Pth c s n y i x i := by
  refine h (fun x => ∃ y n, P y ∧ Pth c s n y i x i) (fun y hy => ⟨y, 0, hy, rfl, rfl⟩) (fun y ins ⟨z, n, hz, hp⟩ hi hg => ⟨⟨z, n + 1, hz, hp.trans (Pth.one ⟨ins, hi, .inl ⟨hg, rfl, .inl rfl⟩⟩)⟩, fun h3 => ⟨z, n + 1, hz, hp.trans (Pth.one ⟨ins, hi, .inl ⟨hg, rfl, .inr ⟨h3, rfl⟩⟩⟩)⟩⟩)
theorem RcP_of {c : List Ia} {s : ByteArray} {i : Int} {P : Nat → Prop} {x : Nat} (h : P x) : RcP c s i P x := fun _ h0 _ => h0 x h
theorem RcP_go {c : List Ia} {s : ByteArray} {i : Int} {P : Nat → Prop} {x : Nat} {ins : Ia} (h : RcP c s i P x) (hi : c[x]? = some ins) (hg : goB ins.op ins.arg s i = true) : RcP c s i P ins.out.toNat ∧ (ins.op = 3 → RcP c s i P ins.alt.toNat) :=
  ⟨fun Q h0 h1 => (h1 x ins (h Q h0 h1) hi hg).1, fun h3 Q h0 h1 => (h1 x ins (h Q h0 h1) hi hg).2 h3⟩
/-- A way from one of P to the end of the program at the end of the text. -/
def Wy (c : List Ia) (s : ByteArray) (i : Nat) (P : Nat → Prop) : Prop := ∃ y n x ins, P y ∧ Pth c s n y i x s.size ∧ c[x]? = some ins ∧ ins.op = 1
theorem TkF_one {c : List Ia} {s : ByteArray} : ∀ (f i : Nat) (P : Nat → Prop), i ≤ s.size → TkF c s f i P 1 → Wy c s i P
  | 0, _, _, _, h => h.elim
  | f + 1, i, P, hi, h => by
    unfold TkF at h
    by_cases h1 : s.size ≤ i
    · rw [if_pos h1] at h
      have : i = s.size := by omega
      subst this
      rcases h with ⟨_, x, ins, hr, hx, h1⟩ | ⟨e, _⟩
      · obtain ⟨y, n, hy, hp⟩ := RcP_pth hr
        exact ⟨y, n, x, ins, hy, hp, hx, h1⟩
      · exact absurd e (by decide)
    rw [if_neg h1] at h
    by_cases h2 : rnBad s i = true
    · rw [if_pos h2] at h
      exact absurd h (by decide)
    rw [if_neg h2] at h
    have h2' : rnBad s i = false := by simpa using h2
    obtain ⟨w0, w1⟩ := wd_ok s i (by omega) h2'
    obtain ⟨y', n, x, ins, ⟨x0, i0, hr, hx0, o2, hin, rfl⟩, hp, hx, h1'⟩ := TkF_one f _ _ w1 h
    obtain ⟨y, n0, hy, hp0⟩ := RcP_pth hr
    exact ⟨y, n0 + (1 + n), x, ins, hy, hp0.trans ((Pth.one ⟨i0, hx0, .inr ⟨o2, ⟨by omega, h2', hin, rfl⟩, rfl⟩⟩).trans hp), hx, h1'⟩
theorem TkF_zero {c : List Ia} {s : ByteArray} : ∀ (n f i y : Nat) (P : Nat → Prop) (x : Nat) (ins : Ia), TkF c s f i P 0 → RcP c s i P y → Pth c s n y i x s.size → c[x]? = some ins → ins.op = 1 → False
  | 0, f, i, y, P, x, ins, h, hr, hp, hx, h1 => by
    obtain ⟨rfl, rfl⟩ := hp
    cases f with
    | zero => exact h
    | succ f =>
      unfold TkF at h
      rw [if_pos (Nat.le_refl _)] at h
      rcases h with ⟨e, _⟩ | ⟨_, h⟩
      · exact absurd e (by decide)
      · exact h ⟨y, ins, hr, hx, h1⟩
  | n + 1, f, i, y, P, x, ins, h, hr, ⟨x', i', ⟨j, hj, hs⟩, hp⟩, hx, h1 => by
    rcases hs with ⟨hg, rfl, e⟩ | ⟨o2, ⟨q1, q2, q3, e4⟩, e5⟩
    · have := RcP_go hr hj hg
      rcases e with rfl | ⟨h3, rfl⟩
      · exact TkF_zero n f _ _ P x ins h this.1 hp hx h1
      · exact TkF_zero n f _ _ P x ins h (this.2 h3) hp hx h1
    · rw [e4] at hp
      cases f with
      | zero => exact h
      | succ f =>
        unfold TkF at h
        rw [if_neg (by omega), if_neg (by rw [q2]; simp)] at h
        exact TkF_zero n f _ _ _ x ins h (RcP_of ⟨y, j, hr, hj, o2, q3, e5⟩) hp hx h1
theorem TkF_three {c : List Ia} {s : ByteArray} : ∀ (f i : Nat) (P : Nat → Prop) (t : Int), TkF c s f i P t → t = 0 ∨ t = 1 ∨ t = 2
  | 0, _, _, _, h => h.elim
  | f + 1, i, P, t, h => by
    unfold TkF at h
    split at h
    · rcases h with ⟨e, _⟩ | ⟨e, _⟩
      · exact .inr (.inl e)
      · exact .inl e
    split at h
    · exact .inr (.inr h)
    · exact TkF_three f _ _ t h
/-- Is every rune of the text, from i on, well formed? -/
def gdF (s : ByteArray) : Nat → Nat → Prop
  | 0, _ => True
  | f + 1, i => i < s.size → rnBad s i = false ∧ gdF s f (i + (Utf8.encode (rnR s i)).size)
theorem TkF_two {c : List Ia} {s : ByteArray} : ∀ (f i : Nat) (P : Nat → Prop) (t : Int), TkF c s f i P t → gdF s f i → t ≠ 2
  | 0, _, _, _, h, _ => h.elim
  | f + 1, i, P, t, h, hg => by
    unfold TkF at h
    split at h
    · rcases h with ⟨e, _⟩ | ⟨e, _⟩ <;> (rw [e]; decide)
    · rename_i hi
      obtain ⟨g1, g2⟩ := hg (by omega)
      rw [if_neg (by rw [g1]; simp)] at h
      exact TkF_two f _ _ t h g2
theorem gd_two {c : List Ia} {s : ByteArray} : ∀ (f i : Nat) (P : Nat → Prop) (t : Int), TkF c s f i P t → ¬ gdF s f i → t = 2
  | 0, _, _, _, h, _ => h.elim
  | f + 1, i, P, t, h, hg => by
    unfold TkF at h
    split at h
    · rename_i hi
      exact absurd (fun h => absurd h (by omega)) hg
    · split at h
      · exact h
      · rename_i hi hb
        refine gd_two f _ _ t h (fun h' => hg (fun _ => ⟨by simpa using hb, h'⟩))
/-- The end of a tree's program is reached at the end of the text just if the tree takes the text. -/
theorem wy_mn {t : Tr} (hw : WF 8195 t) (s : ByteArray) : Wy (prgC t) s 0 (fun y => y = 0) ↔ Mn s 8195 t 0 s.size := by
  have hA : At (prgC t) 0 (cod 8195 t 0) := fun k ins hk => by
    rw [Nat.zero_add]
    unfold prgC
    rw [List.getElem?_append_left (List.getElem?_eq_some_iff.1 hk).1]
    exact hk
  have W : Wrk (prgC t) s 0 (cod 8195 t 0).length (Mn s 8195 t) := cod_wrk (c := prgC t) (s := s) 8195 t 0 hw hA
  have hend : (prgC t)[(cod 8195 t 0).length]? = some ⟨1, 0, 0, 0, []⟩ := by
    unfold prgC
    rw [List.getElem?_append_right (Nat.le_refl _)]
    simp
  constructor
  · rintro ⟨y, n, x, ins, rfl, hp, hx, h1⟩
    have hxl : x = (cod 8195 t 0).length := by
      have hlt := (List.getElem?_eq_some_iff.1 hx).1
      unfold prgC at hx hlt
      by_cases hlx : x < (cod 8195 t 0).length
      · have hx' : (cod 8195 t 0)[x]? = some ins := by rw [← hx, List.getElem?_append_left hlx]
        exact absurd h1 (cod_op _ _ _ ins (List.mem_of_getElem? hx'))
      · simp at hlt
        omega
    subst hxl
    obtain ⟨n', k, _, hm, hp'⟩ := W.snd n 0 _ s.size hp (by omega)
    cases n' with
    | zero =>
      obtain ⟨_, rfl⟩ := hp'
      exact hm
    | succ n' =>
      obtain ⟨x', i', ⟨j, hj, hs⟩, _⟩ := hp'
      rw [Nat.zero_add, hend] at hj
      cases hj
      rcases hs with ⟨hg, _⟩ | ⟨o2, _⟩
      · exact absurd hg (by unfold goB; simp)
      · exact absurd o2 (by decide)
  · intro hm
    obtain ⟨n, hp⟩ := W.cmp _ _ hm
    rw [Nat.zero_add] at hp
    exact ⟨0, n, _, _, rfl, hp, hend, rfl⟩
/-- What taken answers of a tree's program. -/
theorem taken_mn {t : Tr} (hw : WF 8195 t) {s : ByteArray} {v : Int} (h : TkF (prgC t) s (s.size + 1) 0 (fun y => y = 0) v) : (v = 2 ∧ ¬ gdF s (s.size + 1) 0) ∨ (gdF s (s.size + 1) 0 ∧ ((v = 1 ∧ Mn s 8195 t 0 s.size) ∨ (v = 0 ∧ ¬ Mn s 8195 t 0 s.size))) := by
  by_cases hg : gdF s (s.size + 1) 0
  · refine .inr ⟨hg, ?_⟩
    rcases TkF_three _ _ _ v h with rfl | rfl | rfl
    · refine .inr ⟨rfl, fun hm => ?_⟩
      obtain ⟨y, n, x, ins, hy, hp, hx, h1⟩ := (wy_mn hw s).2 hm
      exact TkF_zero n _ 0 y _ x ins h (RcP_of hy) hp hx h1
    · exact .inl ⟨rfl, (wy_mn hw s).1 (TkF_one _ 0 _ (Nat.zero_le _) h)⟩
    · exact absurd rfl (TkF_two _ _ _ _ h hg)
  · exact .inl ⟨gd_two _ _ _ v h hg, hg⟩
end Go.Proofs.Ytbciclnffokjjaa
