/- ChunkBack: what was packed comes back, as mathematics. -/
import Derived.Test.YtedlmjieclaojaaDoorDi
import Derived.Test.YtedlmjieclaojaaDoorFc
namespace Go.Proofs.YtedlmjieclaojaaDoor
open Go.RowKit

theorem nrm_t (x : Smp) : (nrm x).t = x.t := by unfold nrm; split <;> rfl
theorem nrm_s (x : Smp) : (nrm x).s = x.s := by
  unfold nrm
  by_cases h : x.s = true
  · rw [if_pos h, h]
  · rw [if_neg h]; simp at h; rw [h]
theorem nrm_v (x : Smp) (h : x.s = false) : (nrm x).v = cb x.v := by unfold nrm; rw [if_neg (by rw [h]; decide)]
theorem nrm_z (x : Smp) (h : x.s = true) : (nrm x).v = 0 := by unfold nrm; rw [if_pos h]
theorem vlb_nrm (r : Trl) (x : Smp) : vlb r (nrm x) = vlb r x := by
  unfold vlb
  rw [nrm_s]
  cases h : x.s
  · rw [nrm_v x h, cb_cb]
  · rfl
theorem smb_nrm (r : Trl) (x : Smp) : smb r (nrm x) = smb r x := by unfold smb; rw [nrm_t, vlb_nrm]
theorem nxt_nrm (r : Trl) (x : Smp) : nxt r (nrm x) = nxt r x := by
  unfold nxt
  rw [nrm_s, nrm_t]
  cases h : x.s
  · rw [nrm_v x h, cb_cb]
  · rfl
theorem bod_nrm (l : List Smp) : ∀ r, bod r (l.map nrm) = bod r l := by
  induction l with
  | nil => intro r; rfl
  | cons x l ih =>
    intro r
    show smb r (nrm x) ++ bod (nxt r (nrm x)) (l.map nrm) = smb r x ++ bod (nxt r x) l
    rw [smb_nrm, nxt_nrm, ih]
theorem frm_nrm (l : List Smp) : frm (l.map nrm) = frm l := by unfold frm; rw [bod_nrm, List.length_map]
theorem rsF_nrm (l : List Smp) : ∀ r, rsF r (l.map nrm) = rsF r l := by
  induction l with
  | nil => intro r; rfl
  | cons x l ih =>
    intro r
    show ((decide (r.n = 0) || decide (r.tm < (nrm x).t)) && rsF (nxt r (nrm x)) (l.map nrm)) = ((decide (r.n = 0) || decide (r.tm < x.t)) && rsF (nxt r x) l)
    rw [nrm_t, nxt_nrm, ih]
theorem pkE_nrm (l : List Smp) : pkE (l.map nrm) = pkE l := by unfold pkE rsB; rw [rsF_nrm, List.length_map]
theorem pkE_zero {l : List Smp} (h : pkE l = 0) : l.length ≤ 100000 ∧ rsB l = true := by
  unfold pkE at h
  split at h
  · cases h
  · split at h
    · exact ⟨by omega, by assumption⟩
    · cases h
/-- Unpack of the form. -/
theorem unp_pk (l : List Smp) (hl : ∀ x ∈ l, Sok x) (h : pkE l = 0) : unp (pk (frm l)) = some (l.map nrm) :=
  unp_yes _ _ (back l hl (by have := (pkE_zero h).1; omega)) ⟨by rw [pkE_nrm]; exact h, by rw [frm_nrm]⟩
/-- What is unpacked is packed again to the same bytes. -/
theorem unp_form {xs : List Int} {l : List Smp} (h : unp xs = some l) : pkE l = 0 ∧ pk (frm l) = xs ∧ ∀ x ∈ l, Sok x := by
  unfold unp at h
  cases hr : rd xs with
  | none => rw [hr] at h; cases h
  | some m =>
    rw [hr] at h
    simp only at h
    split at h
    · rename_i hc
      cases h
      exact ⟨hc.1, hc.2, (rd_sok xs _ hr).1⟩
    · cases h
theorem up_cases (xs : List Int) : (upE xs = 171 ∧ upL xs = []) ∨ ∃ l, unp xs = some l ∧ upE xs = 0 ∧ upL xs = l := by
  cases h : unp xs with
  | none => exact .inl ⟨by unfold upE; rw [h]; rfl, by unfold upL; rw [h]; rfl⟩
  | some l => exact .inr ⟨l, rfl, by unfold upE; rw [h]; rfl, by unfold upL; rw [h]; rfl⟩
theorem alk_nrm (x : Smp) : Alk true (nrm x) x := by
  refine ⟨nrm_t x, nrm_s x, ?_⟩
  cases h : x.s
  · left; rw [nrm_v x h, cl_cb]
  · right; exact ⟨rfl, by rw [nrm_s, h]⟩
theorem alk_refl (b : Bool) (x : Smp) : Alk b x x := ⟨rfl, rfl, .inl rfl⟩
end Go.Proofs.YtedlmjieclaojaaDoor
