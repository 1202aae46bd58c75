/- ChunkKeeps: mathematics. -/
import Derived.Test.YtedlmjieclaojaaDoorFa
import Derived.Test.YtedlmjieclaojaaDoorXd
namespace Go.Proofs.YtedlmjieclaojaaDoor
open Go.RowKit

/-- A sample written over. -/
def ovs (x : Smp) : Smp := ⟨x.t, 4613937818241073152, !x.s⟩
theorem ovs_sok (l : List Smp) (h : ∀ x ∈ l, Sok x) : ∀ x ∈ l.map ovs, Sok x := by
  intro x hx
  obtain ⟨y, hy, rfl⟩ := List.mem_map.1 hx
  exact ⟨(h y hy).1, (h y hy).2.1, by show (4613937818241073152 : Nat) < _; decide⟩
/-- Other samples, other bytes. -/
theorem pk_ovs (l : List Smp) (h : ∀ x ∈ l, Sok x) (hp : pkE l = 0) (hq : pkE (l.map ovs) = 0) (hl : 0 < l.length) : ¬ pk (frm (l.map ovs)) = pk (frm l) := by
  intro e
  have h1 := unp_pk l h hp
  have h2 := unp_pk (l.map ovs) (ovs_sok l h) hq
  rw [e, h1] at h2
  have h3 := Option.some.inj h2
  cases l with
  | nil => simp at hl
  | cons x l =>
    simp only [List.map_cons] at h3
    have h4 := congrArg Smp.s (List.cons.inj h3).1
    rw [nrm_s, nrm_s] at h4
    unfold ovs at h4
    cases hs : x.s <;> rw [hs] at h4 <;> cases h4
theorem pk_nil : pk (frm []) = [0, 0, 0] := by decide +kernel
theorem pkE_nil : pkE [] = 0 := by decide +kernel
theorem rd_zero (n : Nat) : rd (List.replicate n 0) = if 8 * n < 17 then none else some [] := by
  unfold rd
  rw [List.length_replicate]
  split
  · rfl
  · rw [bv_zero _ _ _ (fun i _ _ => by unfold bt; simp [List.getD, List.getElem?_replicate]; try split <;> simp)]
    rfl
/-- Noughts are a chunk just where they are three. -/
theorem up_zero (n : Nat) : upE (List.replicate n 0) = if n = 3 then 0 else 171 := by
  have hu : (unp (List.replicate n 0)).isSome = true ↔ n = 3 := by
    unfold unp
    rw [rd_zero]
    by_cases h : 8 * n < 17
    · rw [if_pos h]
      simp
      omega
    · rw [if_neg h]
      show (if pkE [] = 0 ∧ pk (frm []) = List.replicate n 0 then some ([] : List Smp) else none).isSome = true ↔ _
      rw [pk_nil, pkE_nil]
      by_cases h3 : n = 3
      · subst h3
        simp
      · rw [if_neg (fun e => h3 (by have := congrArg List.length e.2; simp at this; omega))]
        simp [h3]
  unfold upE
  by_cases h3 : n = 3
  · rw [if_pos (hu.2 h3), if_pos h3]
  · rw [if_neg (fun e => h3 (hu.1 e)), if_neg h3]
theorem rs_ovs (l : List Smp) : rsB (l.map ovs) = rsB l := by
  have : ∀ (l : List Smp) (r : Trl) (s : Trl), r.n = s.n → r.tm = s.tm → rsF r (l.map ovs) = rsF s l := by
    intro l
    induction l with
    | nil => intros; rfl
    | cons x l ih =>
      intro r s h1 h2
      simp only [List.map_cons, rsF]
      rw [h1, h2]
      congr 1
      exact ih _ _ (by simp [nxt, h1]) (by simp [nxt, ovs])
  unfold rsB
  exact this l _ _ rfl rfl
end Go.Proofs.YtedlmjieclaojaaDoor
