/- A number of seconds' text read back. -/
import Derived.Test.YtmfeckpcnofkhabDoorSeB
import Derived.Test.YtmfeckpcnofkhabDoorOfC
import Derived.Test.YtmfeckpcnofkhabDoorStC
namespace Go.Proofs.YtmfeckpcnofkhabDoor
open Go.RowKit Go.Lib

theorem rn_k (t : ByteArray) (k : Nat) (hk : k ≤ t.size) (hd : ∀ i, i < k → isD t i) (hn : ¬ isD t k) : rn t 0 = k := by
  have go : ∀ (i f : Nat), i + f = k → runF t (t.size - i) i = k := by
    intro i f
    induction f generalizing i with
    | zero =>
      intro e
      obtain rfl : i = k := by omega
      exact runF_end t _ i hn
    | succ f ih =>
      intro e
      rw [runF_go t _ i (hd i (by omega)) (by omega), show t.size - i - 1 = t.size - (i + 1) by omega]
      exact ih (i + 1) (by omega)
  exact go 0 k (by omega)
theorem take_mk (l : List UInt8) (k : Nat) (hk : k ≤ l.length) : (mk l).extract 0 k = mk (l.take k) := by
  have := pre_mk (l.take k) (l.drop k)
  rw [List.take_append_drop, List.length_take, Nat.min_eq_left hk] at this
  exact this

theorem dd_dig : ∀ (n u : Nat), u ≤ n → ∀ x ∈ decDigits u, 48 ≤ x.toNat ∧ x.toNat ≤ 57
  | 0, u, h, x, hx => by
    rw [dd1 u (by omega)] at hx
    rw [List.mem_singleton] at hx
    rw [hx, UInt8.toNat_ofNat']
    omega
  | n + 1, u, h, x, hx => by
    by_cases h10 : u < 10
    · rw [dd1 u h10] at hx
      rw [List.mem_singleton] at hx
      rw [hx, UInt8.toNat_ofNat']
      omega
    · rw [decDigits, dif_neg h10] at hx
      rcases List.mem_append.1 hx with q | q
      · exact dd_dig n (u / 10) (by omega) x q
      · rw [List.mem_singleton] at q
        rw [q, UInt8.toNat_ofNat']
        omega
theorem dd_isD (u : Nat) (r : List UInt8) (i : Nat) (hi : i < (decDigits u).length) : isD (mk (decDigits u ++ r)) i := by
  have hl : i < (decDigits u ++ r).length := by rw [List.length_append]; omega
  have hm := dd_dig u u (Nat.le_refl _) _ (List.getElem_mem hi)
  have e : (decDigits u ++ r).getD i 0 = (decDigits u)[i] := by
    simp only [List.getD]
    rw [List.getElem?_append_left hi, List.getElem?_eq_getElem hi]
    rfl
  refine ⟨by rw [mk_size]; exact hl, ?_⟩
  rw [bt_mk _ _ hl, e]
  omega
theorem vl_dd : ∀ (n u : Nat), u ≤ n → ∀ r : List UInt8, vl (mk (decDigits u ++ r)) (decDigits u).length = (u : Int)
  | 0, u, h, r => by
    obtain rfl : u = 0 := by omega
    rw [dd1 0 (by omega)]
    show vl _ 1 = _
    rw [vl, vl, bt_mk _ _ (by simp)]
    rfl
  | n + 1, u, h, r => by
    by_cases h10 : u < 10
    · rw [dd1 u h10]
      show vl _ 1 = _
      rw [vl, vl, bt_mk _ _ (by simp)]
      have : (([UInt8.ofNat (48 + u)] ++ r).getD 0 0) = UInt8.ofNat (48 + u) := rfl
      rw [this, u8v u (by omega)]
      omega
    · have ih := vl_dd n (u / 10) (by omega) (UInt8.ofNat (48 + u % 10) :: r)
      have e : decDigits u = decDigits (u / 10) ++ [UInt8.ofNat (48 + u % 10)] := by rw [decDigits, dif_neg h10]
      rw [e, List.append_assoc, List.length_append]
      show vl (mk (decDigits (u / 10) ++ (UInt8.ofNat (48 + u % 10) :: r))) ((decDigits (u / 10)).length + 1) = _
      rw [vl, ih, bt_mk _ _ (by rw [List.length_append]; simp)]
      have e2 : (decDigits (u / 10) ++ (UInt8.ofNat (48 + u % 10) :: r)).getD (decDigits (u / 10)).length 0 = UInt8.ofNat (48 + u % 10) := by
        simp only [List.getD]
        rw [List.getElem?_append_right (Nat.le_refl _), Nat.sub_self]
        rfl
      rw [e2, u8v _ (by omega)]
      omega
theorem dd_pos (u : Nat) : 0 < (decDigits u).length := by
  rw [decDigits]
  split <;> simp

theorem p3s (r : Nat) (hr : r < 1000) : bt (mk (p3 r)) 0 = 48 + ((r / 100 : Nat) : Int) ∧ bt (mk (p3 r)) 1 = 48 + ((r / 10 % 10 : Nat) : Int) ∧ bt (mk (p3 r)) 2 = 48 + ((r % 10 : Nat) : Int) := by
  have hl : (p3 r).length = 3 := rfl
  refine ⟨?_, ?_, ?_⟩
  · rw [bt_mk _ _ (by omega)]; exact u8v _ (by omega)
  · rw [bt_mk _ _ (by omega)]; exact u8v _ (by omega)
  · rw [bt_mk _ _ (by omega)]; exact u8v _ (by omega)

/-- The fraction's digits as a list. -/
def frL (r : Nat) : List UInt8 := (p3 r).take (trm (mk (p3 r)) 3)
theorem fr3_eq (r : Nat) : fr3 r = mk (frL r) := by
  unfold fr3 frL
  have hz : (mk (p3 r)).size = 3 := rfl
  rw [hz]
  exact take_mk (p3 r) _ (trm_le (mk (p3 r)) 3)
theorem fr_facts (r : Nat) (hr : r < 1000) (h0 : r ≠ 0) : 0 < (frL r).length ∧ (frL r).length ≤ 3 ∧ (∀ i, i < (frL r).length → isD (mk (frL r)) i) ∧ thV (mk (frL r)) = r ∧ hfV (mk (frL r)) = -1 := by
  obtain ⟨e0, e1, e2⟩ := p3s r hr
  have hl : (p3 r).length = 3 := rfl
  have ht := trm_le (mk (p3 r)) 3
  have hz := trm_zero (mk (p3 r)) 3
  have hlen : (frL r).length = trm (mk (p3 r)) 3 := by unfold frL; rw [List.length_take]; omega
  have hb : ∀ i, i < trm (mk (p3 r)) 3 → bt (mk (frL r)) i = bt (mk (p3 r)) i := fun i hi => by
    rw [bt_mk _ _ (by omega), bt_mk _ _ (by omega)]
    unfold frL
    simp only [List.getD]
    rw [List.getElem?_take_of_lt hi]
  have hdg : ∀ i, i < 3 → dg0 (mk (frL r)) i = bt (mk (p3 r)) i - 48 := fun i hi => by
    unfold dg0
    rw [mk_size, hlen]
    by_cases c : i < trm (mk (p3 r)) 3
    · rw [if_pos c, hb i c]
    · rw [if_neg c, hz i (by omega) hi]
      rfl
  refine ⟨?_, by omega, fun i hi => ?_, ?_, ?_⟩
  · rw [hlen]
    by_cases c : trm (mk (p3 r)) 3 = 0
    · exfalso
      have q0 := hz 0 (by omega) (by omega)
      have q1 := hz 1 (by omega) (by omega)
      have q2 := hz 2 (by omega) (by omega)
      omega
    · omega
  · rw [hlen] at hi
    have hd : isD (mk (p3 r)) i := by
      have : i = 0 ∨ i = 1 ∨ i = 2 := by omega
      rcases this with rfl | rfl | rfl
      · exact digit_of (by rw [mk_size]; omega) e0 (by omega)
      · exact digit_of (by rw [mk_size]; omega) e1 (by omega)
      · exact digit_of (by rw [mk_size]; omega) e2 (by omega)
    refine ⟨by rw [mk_size]; omega, ?_⟩
    rw [hb i hi]
    exact hd.2
  · unfold thV
    rw [hdg 0 (by omega), hdg 1 (by omega), hdg 2 (by omega), e0, e1, e2]
    omega
  · have : dg0 (mk (frL r)) 3 = 0 := by unfold dg0; rw [if_neg (by rw [mk_size]; omega)]
    unfold hfV
    rw [this, if_pos (by omega)]

/-- What stands behind the whole seconds. -/
def tl (r : Nat) : List UInt8 := if r = 0 then [] else 46 :: frL r
theorem secT_eq (ng : Bool) (n : Nat) : secT ng n = mk ((if ng then [45] else []) ++ (decDigits (n / 1000) ++ tl (n % 1000))) := by
  unfold secT tl
  by_cases c : n % 1000 = 0
  · rw [if_pos c, if_pos c]
    cases ng <;> (apply Go.WideShapes.bytes_inj; simp)
  · rw [if_neg c, if_neg c, fr3_eq]
    cases ng <;> (apply Go.WideShapes.bytes_inj; simp)

theorem sec_parse (ng : Bool) (n : Nat) : okS (secT ng n) ∧ secV (mn (secT ng n)) (min (nmS (secT ng n)) 315360000001 * 1000) (frS (secT ng n)) = (if ng = true then -((min ((n / 1000 : Nat) : Int) 315360000001) * 1000 + ((n % 1000 : Nat) : Int)) else (min ((n / 1000 : Nat) : Int) 315360000001) * 1000 + ((n % 1000 : Nat) : Int)) := by
  rw [secT_eq]
  have hd0 := dd_pos (n / 1000)
  have d0 : isD (mk (decDigits (n / 1000) ++ tl (n % 1000))) 0 := dd_isD _ _ 0 hd0
  obtain ⟨s, hs⟩ : ∃ s, s = mk ((if ng then [45] else []) ++ (decDigits (n / 1000) ++ tl (n % 1000))) := ⟨_, rfl⟩
  rw [← hs]
  have hmn : mn s = ng ∧ sT s = mk (decDigits (n / 1000) ++ tl (n % 1000)) := by
    cases ng with
    | true =>
      have e : s = mk (45 :: (decDigits (n / 1000) ++ tl (n % 1000))) := hs
      have h45 : hp s 45 := by
        rw [e]
        exact ⟨by rw [mk_size]; simp, by rw [bt_mk _ _ (by simp)]; rfl⟩
      refine ⟨decide_eq_true h45, ?_⟩
      have hsa : sa s = 1 := if_pos (.inl h45)
      unfold sT
      rw [hsa, e]
      exact ext_mk [45] _
    | false =>
      have e : s = mk (decDigits (n / 1000) ++ tl (n % 1000)) := hs
      have hb := d0.2
      rw [← e] at hb
      have h45 : ¬ hp s 45 := fun q => by have := q.2; simp at this; omega
      have h43 : ¬ hp s 43 := fun q => by have := q.2; simp at this; omega
      refine ⟨decide_eq_false h45, ?_⟩
      have hsa : sa s = 0 := if_neg (fun q => q.elim h45 h43)
      unfold sT
      rw [hsa, ← e]
      exact ext0 s
  obtain ⟨hmn, hT⟩ := hmn
  have hrn : rn (sT s) 0 = (decDigits (n / 1000)).length := by
    rw [hT]
    refine rn_k _ _ (by rw [mk_size, List.length_append]; omega) (fun i hi => dd_isD _ _ i hi) (fun q => ?_)
    by_cases c : n % 1000 = 0
    · have := q.1
      rw [mk_size, List.length_append, tl, if_pos c] at this
      simp at this
    · have := q.2
      rw [bt_mk _ _ (by rw [List.length_append, tl, if_neg c]; simp)] at this
      have e2 : (decDigits (n / 1000) ++ tl (n % 1000)).getD (decDigits (n / 1000)).length 0 = 46 := by
        simp only [List.getD]
        rw [List.getElem?_append_right (Nat.le_refl _), Nat.sub_self, tl, if_neg c]
        rfl
      rw [e2] at this
      simp at this
  have hR : sR s = mk (tl (n % 1000)) := by
    unfold sR
    rw [hrn, hT]
    exact ext_mk _ _
  have hnm : nmS s = ((n / 1000 : Nat) : Int) := by
    unfold nmS
    rw [hrn, hT, pre_mk, mk_size]
    have := vl_dd (n / 1000) (n / 1000) (Nat.le_refl _) []
    rwa [List.append_nil] at this
  have hsec : ∀ F : ByteArray, thV F = ((n % 1000 : Nat) : Int) → hfV F = -1 → secV ng (min (nmS s) 315360000001 * 1000) F = (if ng = true then -((min ((n / 1000 : Nat) : Int) 315360000001) * 1000 + ((n % 1000 : Nat) : Int)) else (min ((n / 1000 : Nat) : Int) 315360000001) * 1000 + ((n % 1000 : Nat) : Int)) := fun F h1 h2 => by
    unfold secV
    rw [h1, h2, hnm]
    cases ng <;> simp <;> omega
  rw [hmn]
  by_cases c : n % 1000 = 0
  · have hRz : (sR s).size = 0 := by rw [hR, mk_size, tl, if_pos c]; rfl
    refine ⟨⟨by rw [hrn]; omega, .inl hRz⟩, ?_⟩
    unfold frS
    rw [if_pos hRz]
    exact hsec _ (by rw [c]; decide +kernel) (by decide +kernel)
  · obtain ⟨f0, f1, f2, f3, f4⟩ := fr_facts (n % 1000) (by omega) c
    have hR' : sR s = mk (46 :: frL (n % 1000)) := by rw [hR, tl, if_neg c]
    have hRz : ¬ (sR s).size = 0 := by rw [hR', mk_size]; simp
    have hU : sU s = mk (frL (n % 1000)) := by
      unfold sU
      rw [hR']
      exact ext_mk [46] _
    have hrU : rn (sU s) 0 = (frL (n % 1000)).length := by
      rw [hU]
      refine rn_k _ _ (by rw [mk_size]; omega) f2 (fun q => ?_)
      have := q.1
      rw [mk_size] at this
      omega
    refine ⟨⟨by rw [hrn]; omega, .inr ⟨?_, by rw [hrU]; exact f0, by rw [hrU, hU, mk_size]⟩⟩, ?_⟩
    · rw [hR']
      exact ⟨by rw [mk_size]; simp, by rw [bt_mk _ _ (by simp)]; rfl⟩
    · unfold frS
      rw [if_neg hRz, hU]
      exact hsec _ f3 f4
end Go.Proofs.YtmfeckpcnofkhabDoor
