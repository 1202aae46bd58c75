/- How the reference reads bytes; that it reads what the program reads. Plain mathematics. -/
import Derived.Test.YtedlmjieclaojabDoorFa
namespace Go.Proofs.YtedlmjieclaojabDoor
open Go.RowKit

/-- A value, as the reference reads it: two places more where it says bad. -/
def rfX (B : Nat → Nat) (N : Nat) (s : Rs) : Bool := (decide ((wyF B N 3 s.p).1 = 1) && decide (s.r.to = 0)) || (decide ((wyF B N 3 s.p).1 = 2) && decide (64 < rdF1 B N (rdW B N s)))
def rfN (B : Nat → Nat) (N : Nat) (s : Rs) : Rs := if rfX B N (rdT B N s) = true then { rdN B N s with b := true } else rdN B N s
def rfF (B : Nat → Nat) (N : Nat) : Nat → Rs → Option (List Smp)
  | 0, _ => some []
  | k + 1, s => if (rfN B N s).b = true then none else (rfF B N k (rfN B N s)).map (rdO B N s :: ·)
def rfR (xs : List Int) : Option (List Smp) := if 8 * xs.length < 17 then none else if 100000 < bv (bt 8 xs) 0 17 then none else rfF (bt 8 xs) (8 * xs.length) (bv (bt 8 xs) 0 17) ⟨17, false, t0⟩
def rfU (xs : List Int) : Option (List Smp) := match rfR xs with
  | none => none
  | some l => if pkE l = 0 ∧ pk (frm l) = xs then some l else none
theorem rfX_ok {B : Nat → Nat} {N p : Nat} (r : Trl) (hr : Gt r) (x : Smp) (hx : Sok x) (h : Bt B N p (smb r x)) : rfX B N (rdT B N ⟨p, false, r⟩) = false := by
  unfold smb at h
  rw [rdT_ok r x.t ⟨hx.1, hx.2.1⟩ h.left]
  have hr1 : Gt { r with tm := x.t, st := if r.n = 0 then r.st else s64 (x.t - r.tm) } := by
    refine ⟨⟨hx.1, hx.2.1⟩, ?_, hr.vl, hr.fr⟩
    show _ ≤ (if r.n = 0 then r.st else s64 (x.t - r.tm)) ∧ (if r.n = 0 then r.st else s64 (x.t - r.tm)) ≤ _
    split
    · exact hr.st
    · exact s64_bd _
  obtain ⟨_, _, e1, e2⟩ := rdV_ok _ hr1 x hx (show Bt B N (p + (tmb r x.t).length) (vlb { r with tm := x.t, st := if r.n = 0 then r.st else s64 (x.t - r.tm) } x) from h.right)
  unfold rfX
  rw [Bool.or_eq_false_iff]
  refine ⟨?_, ?_⟩
  · rw [Bool.and_eq_false_iff]
    by_cases hw : (wyF B N 3 (p + (tmb r x.t).length)).1 = 1
    · exact .inr (decide_eq_false (e1 hw))
    · exact .inl (decide_eq_false hw)
  · rw [Bool.and_eq_false_iff]
    by_cases hw : (wyF B N 3 (p + (tmb r x.t).length)).1 = 2
    · exact .inr (decide_eq_false (e2 hw))
    · exact .inl (decide_eq_false hw)
theorem rfF_ok {B : Nat → Nat} {N : Nat} : ∀ (l : List Smp) (p : Nat) (r : Trl), Gt r → (∀ x ∈ l, Sok x) → Bt B N p (bod r l) → rfF B N l.length ⟨p, false, r⟩ = some (l.map nrm)
  | [], _, _, _, _, _ => rfl
  | x :: l, p, r, hr, hl, h => by
    have hx := hl x (List.mem_cons_self ..)
    obtain ⟨e1, e2⟩ := rdN_ok r hr x hx (Bt.left h)
    have e3 : rfN B N ⟨p, false, r⟩ = ⟨p + (smb r x).length, false, nxt r x⟩ := by
      unfold rfN
      rw [rfX_ok r hr x hx (Bt.left h), if_neg Bool.false_ne_true, e2]
    show (if (rfN B N ⟨p, false, r⟩).b = true then none else (rfF B N l.length (rfN B N ⟨p, false, r⟩)).map (rdO B N ⟨p, false, r⟩ :: ·)) = _
    rw [e1, e3, if_neg Bool.false_ne_true, rfF_ok l _ _ (hr.nxt x hx) (fun y hy => hl y (List.mem_cons_of_mem _ hy)) (Bt.right h)]
    rfl
/-- The form is read back by the reference. -/
theorem rf_back (l : List Smp) (hl : ∀ x ∈ l, Sok x) (h : pkE l = 0) : rfR (pk (frm l)) = some (l.map nrm) := by
  have hn := (pkE_zero h).1
  have hb := pk_bt (frm l) (bin_frm l)
  unfold rfR
  have h1 := hb.1
  obtain ⟨xs, hxs⟩ : ∃ xs, pk (frm l) = xs := ⟨_, rfl⟩
  rw [hxs] at hb h1 ⊢
  unfold frm at hb
  have hlen : 17 ≤ (frm l).length := by unfold frm; rw [List.length_append, nb_len]; omega
  rw [if_neg (by omega)]
  have e : bv (bt 8 xs) 0 17 = l.length := by
    rw [bv_nb _ 0 l.length 17 (fun i hi => hb.left.2 i (by rw [nb_len]; exact hi))]
    exact Nat.mod_eq_of_lt (by omega)
  have h2 := hb.right
  rw [nb_len, Nat.zero_add] at h2
  rw [e, if_neg (by omega)]
  exact rfF_ok l 17 t0 gt0 hl h2
theorem rfU_yes {xs : List Int} {l : List Smp} (h : rfR xs = some l) (hc : pkE l = 0 ∧ pk (frm l) = xs) : rfU xs = some l := by unfold rfU; rw [h]; exact if_pos hc
theorem rfU_no {xs : List Int} {l : List Smp} (h : rfR xs = some l) (hc : ¬ (pkE l = 0 ∧ pk (frm l) = xs)) : rfU xs = none := by unfold rfU; rw [h]; exact if_neg hc
theorem rfU_none {xs : List Int} (h : rfR xs = none) : rfU xs = none := by unfold rfU; rw [h]
/-- What is unpacked is as it is read. -/
theorem unp_nrm {xs : List Int} {l : List Smp} (h : unp xs = some l) : l.map nrm = l := by
  obtain ⟨h1, h2, h3⟩ := unp_form h
  have e := unp_pk l h3 h1
  rw [h2, h] at e
  exact (Option.some.inj e).symm
theorem rf_eq (xs : List Int) (hs : ∀ l, rfR xs = some l → ∀ x ∈ l, Sok x) : rfU xs = unp xs := by
  have fwd : ∀ l, unp xs = some l → rfU xs = some l := fun l h => by
    obtain ⟨h1, h2, h3⟩ := unp_form h
    have e := rf_back l h3 h1
    rw [h2, unp_nrm h] at e
    exact rfU_yes e ⟨h1, h2⟩
  cases hu : unp xs with
  | some l => exact fwd l hu
  | none =>
    cases hf : rfR xs with
    | none => exact rfU_none hf
    | some l =>
      by_cases hc : pkE l = 0 ∧ pk (frm l) = xs
      · have := unp_pk l (hs l hf) hc.1
        rw [hc.2, hu] at this
        cases this
      · exact rfU_no hf hc
/-- Between. -/
def btw (after upto : Int) (l : List Smp) : List Smp := l.filter fun x => decide (after < x.t) && decide (x.t ≤ upto)
theorem btw_snoc (a u : Int) (l : List Smp) (x : Smp) : btw a u (l ++ [x]) = btw a u l ++ if (decide (a < x.t) && decide (x.t ≤ u)) = true then [x] else [] := by
  unfold btw
  rw [List.filter_append]
  congr 1
  cases h : (decide (a < x.t) && decide (x.t ≤ u)) <;> simp [h]
theorem btw_len (a u : Int) (l : List Smp) : (btw a u l).length ≤ l.length := List.length_filter_le _ _
end Go.Proofs.YtedlmjieclaojabDoor
