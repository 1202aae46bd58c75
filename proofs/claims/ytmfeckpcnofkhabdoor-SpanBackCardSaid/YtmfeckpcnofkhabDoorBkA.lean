/- A duration's text read back. -/
import Derived.Test.YtmfeckpcnofkhabDoorTxA
import Derived.Test.YtmfeckpcnofkhabDoorSeC
import Derived.Test.YtmfeckpcnofkhabDoorDurH
namespace Go.Proofs.YtmfeckpcnofkhabDoor
open Go.RowKit Go.Lib

theorem rn_at (t : ByteArray) (p k : Nat) (hk : p + k ≤ t.size) (hd : ∀ i, p ≤ i → i < p + k → isD t i) (hn : ¬ isD t (p + k)) : rn t p = p + k := by
  have go : ∀ (f i : Nat), i + f = p + k → p ≤ i → runF t (t.size - i) i = p + k := by
    intro f
    induction f with
    | zero =>
      intro i e hi
      obtain rfl : i = p + k := by omega
      exact runF_end t _ _ hn
    | succ f ih =>
      intro i e hi
      rw [runF_go t _ i (hd i hi (by omega)) (by omega), show t.size - i - 1 = t.size - (i + 1) by omega]
      exact ih (i + 1) (by omega) (by omega)
  exact go k p rfl (Nat.le_refl _)
theorem bt_pre (a l : List UInt8) (i : Nat) (hi : i < l.length) : bt (mk (a ++ l)) (a.length + i) = bt (mk l) i := by
  rw [bt_mk _ _ (by rw [List.length_append]; omega), bt_mk _ _ hi]
  congr 2
  simp only [List.getD]
  rw [List.getElem?_append_right (by omega), Nat.add_sub_cancel_left]
theorem isD_pre (a l : List UInt8) (i : Nat) : isD (mk (a ++ l)) (a.length + i) ↔ isD (mk l) i := by
  unfold isD
  rw [mk_size, mk_size, List.length_append]
  by_cases hi : i < l.length
  · rw [bt_pre a l i hi]
    constructor
    · rintro ⟨_, b⟩; exact ⟨hi, b⟩
    · rintro ⟨_, b⟩; exact ⟨by omega, b⟩
  · constructor
    · rintro ⟨b, _⟩; omega
    · rintro ⟨b, _⟩; omega
theorem uAt_pr (a l : List UInt8) (i : Nat) : uAt (mk (a ++ l)) (a.length + i) = uAt (mk l) i := by
  have := uAt_ext (mk (a ++ l)) (a.length + i)
  have e : (mk (a ++ l)).extract (a.length + i) (mk (a ++ l)).size = (mk l).extract i (mk l).size := by
    have h1 := ext_mk a l
    by_cases hi : i ≤ l.length
    · refine ba_ext (by simp only [ByteArray.size_extract, mk_size, List.length_append]; omega) (fun j hj => ?_)
      simp only [ByteArray.size_extract, mk_size, List.length_append] at hj
      rw [bt_extract, bt_extract, Nat.add_assoc, bt_pre a l (i + j) (by omega)]
    · refine ba_ext (by simp only [ByteArray.size_extract, mk_size, List.length_append]; omega) (fun j hj => ?_)
      simp only [ByteArray.size_extract, mk_size, List.length_append] at hj
      omega
  rw [e, uAt_ext] at this
  exact this.symm

/-- The text of what is left, from a unit on. -/
def suf : Nat → Nat → Nat → List UInt8
  | 0, _, _ => []
  | f + 1, m, k => (if 0 < m / uN k then decDigits (m / uN k) ++ uL k else []) ++ suf f (m % uN k) (k + 1)
theorem tx_suf (ms : Nat) : ∀ (f k : Nat), f + k = 7 → tx ms 7 = tx ms k ++ suf f (rm ms k) k
  | 0, k, h => by
    obtain rfl : k = 7 := by omega
    simp [suf]
  | f + 1, k, h => by
    rw [tx_suf ms f (k + 1) (by omega), tx, suf, rm, List.append_assoc]
theorem uN_pos (k : Nat) : 0 < uN k := by unfold uN; split <;> omega
theorem uN_ulen (k : Nat) (h : k < 7) : ((uN k : Nat) : Int) = ulen k := by
  have : k = 0 ∨ k = 1 ∨ k = 2 ∨ k = 3 ∨ k = 4 ∨ k = 5 ∨ k = 6 := by omega
  rcases this with rfl | rfl | rfl | rfl | rfl | rfl | rfl <;> rfl
theorem uL_uw (k : Nat) (h : k < 7) : (uL k).length = uw k := by
  have : k = 0 ∨ k = 1 ∨ k = 2 ∨ k = 3 ∨ k = 4 ∨ k = 5 ∨ k = 6 := by omega
  rcases this with rfl | rfl | rfl | rfl | rfl | rfl | rfl <;> rfl

/-- What stands behind a text: nothing, a digit, or a minus. -/
def Nx (l : List UInt8) : Prop := ∀ x, l.head? = some x → x = 45 ∨ 48 ≤ x.toNat ∧ x.toNat ≤ 57
theorem nx_suf (r : List UInt8) (hr : Nx r) : ∀ (f m k : Nat), Nx (suf f m k ++ r)
  | 0, _, _ => by simpa [suf] using hr
  | f + 1, m, k => by
    rw [suf]
    by_cases c : 0 < m / uN k
    · rw [if_pos c]
      intro x hx
      right
      obtain ⟨a, l, e⟩ := List.exists_cons_of_length_pos (dd_pos (m / uN k))
      rw [e] at hx
      simp at hx
      subst hx
      exact dd_dig _ _ (Nat.le_refl _) _ (by rw [e]; simp)
    · rw [if_neg c]
      exact nx_suf r hr f _ _
theorem nx_not_s (l : List UInt8) (h : Nx l) (hl : 0 < l.length) : bt (mk l) 0 ≠ 115 ∧ True := by
  obtain ⟨a, t, rfl⟩ := List.exists_cons_of_length_pos hl
  refine ⟨fun q => ?_, trivial⟩
  rw [bt_mk _ _ (by simp)] at q
  have e : (a :: t).getD 0 0 = a := rfl
  rw [e] at q
  rcases h a rfl with rfl | q2
  · simp at q
  · omega

theorem u_at (k : Nat) (hk : k < 7) (l : List UInt8) (h : Nx l) : uAt (mk (uL k ++ l)) 0 = k ∧ ¬ isD (mk (uL k ++ l)) 0 := by
  have hp : 0 < (uL k ++ l).length := by rw [List.length_append]; have := uL_uw k hk; unfold uw at this; split at this <;> omega
  have hb := bt_mk (uL k ++ l) 0 hp
  have hz : 0 < (mk (uL k ++ l)).size := by rw [mk_size]; exact hp
  have : k = 0 ∨ k = 1 ∨ k = 2 ∨ k = 3 ∨ k = 4 ∨ k = 5 ∨ k = 6 := by omega
  have h1 : k = 4 → ¬ (0 + 1 < (mk (uL k ++ l)).size ∧ bt (mk (uL k ++ l)) (0 + 1) = 115) := fun e q => by
    subst e
    have hl : 0 < l.length := by have := q.1; rw [mk_size, List.length_append] at this; have e2 : (uL 4).length = 1 := rfl; omega
    have := bt_pre (uL 4) l 0 hl
    have e2 : (uL 4).length + 0 = 0 + 1 := rfl
    rw [e2] at this
    exact (nx_not_s l h hl).1 (this ▸ q.2)
  have h2 : k = 6 → (0 + 1 < (mk (uL k ++ l)).size ∧ bt (mk (uL k ++ l)) (0 + 1) = 115) := fun e => by
    subst e
    refine ⟨by rw [mk_size, List.length_append]; have e2 : (uL 6).length = 2 := rfl; omega, ?_⟩
    rw [bt_mk _ _ (by rw [List.length_append]; have e2 : (uL 6).length = 2 := rfl; omega)]
    rfl
  rcases this with rfl | rfl | rfl | rfl | rfl | rfl | rfl
  · have e : bt (mk (uL 0 ++ l)) 0 = 121 := hb
    exact ⟨by unfold uAt; rw [if_pos hz, e]; rfl, fun q => by have := q.2; omega⟩
  · have e : bt (mk (uL 1 ++ l)) 0 = 119 := hb
    exact ⟨by unfold uAt; rw [if_pos hz, e]; rfl, fun q => by have := q.2; omega⟩
  · have e : bt (mk (uL 2 ++ l)) 0 = 100 := hb
    exact ⟨by unfold uAt; rw [if_pos hz, e]; rfl, fun q => by have := q.2; omega⟩
  · have e : bt (mk (uL 3 ++ l)) 0 = 104 := hb
    exact ⟨by unfold uAt; rw [if_pos hz, e]; rfl, fun q => by have := q.2; omega⟩
  · have e : bt (mk (uL 4 ++ l)) 0 = 109 := hb
    exact ⟨by unfold uAt; rw [if_pos hz, e, if_neg (h1 rfl)]; rfl, fun q => by have := q.2; omega⟩
  · have e : bt (mk (uL 5 ++ l)) 0 = 115 := hb
    exact ⟨by unfold uAt; rw [if_pos hz, e]; rfl, fun q => by have := q.2; omega⟩
  · have e : bt (mk (uL 6 ++ l)) 0 = 109 := hb
    exact ⟨by unfold uAt; rw [if_pos hz, e, if_pos (h2 rfl)]; rfl, fun q => by have := q.2; omega⟩

theorem suf_sum : ∀ (f m k : Nat), f + k = 7 → 0 < f → suf f m k ≠ [] ∨ m = 0
  | 0, _, _, _, h => by omega
  | f + 1, m, k, h, _ => by
    rw [suf]
    by_cases c : 0 < m / uN k
    · left
      rw [if_pos c]
      intro q
      have := congrArg List.length q
      have hd := dd_pos (m / uN k)
      simp only [List.length_append, List.length_nil] at this
      omega
    · have hm : m % uN k = m := Nat.mod_eq_of_lt (by
        have hu := uN_pos k
        rcases Nat.lt_or_ge m (uN k) with q | q
        · exact q
        · exact absurd (Nat.div_pos q hu) c)
      rw [if_neg c, hm, List.nil_append]
      by_cases hf : 0 < f
      · exact suf_sum f m (k + 1) (by omega) hf
      · right
        obtain rfl : k = 6 := by omega
        have e : uN 6 = 1 := rfl
        rw [e] at c
        omega

/-- What the program reads, part by part. -/
theorem hd_suf (r : List UInt8) (hr : Nx r) (hr0 : ∀ x, r.head? = some x → ¬ (48 ≤ x.toNat ∧ x.toNat ≤ 57)) :
    ∀ (f k m l g : Nat) (pre : List UInt8) (x : Int), f + k = 7 → l ≤ k → f ≤ g → m ≤ 315360000000000 → (f = 0 → m = 0) →
      hdG (V1 (mk (pre ++ (suf f m k ++ r)))) (mk (pre ++ (suf f m k ++ r))) g l pre.length x = (pre.length + (suf f m k).length, x + m)
  | 0, k, m, l, g, pre, x, h, hl, hg, hm, h0 => by
    have hm0 := h0 rfl
    subst hm0
    rw [suf, List.nil_append]
    have hnd : ¬ isD (mk (pre ++ r)) (pre.length + 0) := by
      rw [isD_pre]
      intro q
      have hz := q.1
      rw [mk_size] at hz
      obtain ⟨a, t, rfl⟩ := List.exists_cons_of_length_pos hz
      have hb := q.2
      rw [bt_mk _ _ (by simp)] at hb
      have e : (a :: t).getD 0 0 = a := rfl
      rw [e] at hb
      exact hr0 a rfl (by omega)
    have hrn := rn_at (mk (pre ++ r)) pre.length 0 (by rw [mk_size, List.length_append]; omega) (fun i h1 h2 => by omega) hnd
    rw [hdG_stop _ _ _ _ _ _ (.inl hrn)]
    simp
  | f + 1, k, m, l, g, pre, x, h, hl, hg, hm, _ => by
    have hk : k < 7 := by omega
    have hu := uN_pos k
    by_cases c : 0 < m / uN k
    · have e : suf (f + 1) m k = decDigits (m / uN k) ++ (uL k ++ suf f (m % uN k) (k + 1)) := by rw [suf, if_pos c, List.append_assoc]
      rw [e]
      obtain ⟨q, hq⟩ : ∃ q, q = m / uN k := ⟨_, rfl⟩
      rw [← hq]
      have hnx := nx_suf r hr f (m % uN k) (k + 1)
      obtain ⟨hua, hun⟩ := u_at k hk _ hnx
      have et : pre ++ ((decDigits q ++ (uL k ++ suf f (m % uN k) (k + 1))) ++ r) = pre ++ (decDigits q ++ (uL k ++ (suf f (m % uN k) (k + 1) ++ r))) := by simp
      rw [et]
      obtain ⟨t, ht⟩ : ∃ t, t = mk (pre ++ (decDigits q ++ (uL k ++ (suf f (m % uN k) (k + 1) ++ r)))) := ⟨_, rfl⟩
      rw [← ht]
      have hsz : t.size = pre.length + ((decDigits q).length + ((uL k).length + ((suf f (m % uN k) (k + 1)).length + r.length))) := by rw [ht, mk_size]; simp
      have hdg : ∀ i, pre.length ≤ i → i < pre.length + (decDigits q).length → isD t i := fun i h1 h2 => by
        obtain ⟨j, rfl⟩ : ∃ j, i = pre.length + j := ⟨i - pre.length, by omega⟩
        rw [ht, isD_pre]
        exact dd_isD q _ j (by omega)
      have hnd : ¬ isD t (pre.length + (decDigits q).length) := by
        rw [ht, isD_pre]
        exact fun z => hun ((isD_pre (decDigits q) (uL k ++ (suf f (m % uN k) (k + 1) ++ r)) 0).1 z)
      have hrn := rn_at t pre.length (decDigits q).length (by omega) hdg hnd
      have huA : uAt t (pre.length + (decDigits q).length) = k := by
        rw [ht, uAt_pr]
        exact (uAt_pr (decDigits q) (uL k ++ (suf f (m % uN k) (k + 1) ++ r)) 0).trans hua
      have hd0 := dd_pos q
      have hex : t.extract pre.length (pre.length + (decDigits q).length) = mk (decDigits q) := by
        have hmin : min (pre.length + (decDigits q).length) t.size = pre.length + (decDigits q).length := Nat.min_eq_left (by rw [hsz]; omega)
        refine ba_ext (by rw [ByteArray.size_extract, hmin, mk_size]; omega) (fun i hi => ?_)
        rw [ByteArray.size_extract, hmin] at hi
        rw [bt_ext t _ _ i (by omega) (by omega), ht, bt_pre _ _ i (by rw [List.length_append]; omega), bt_mk _ _ (by rw [List.length_append]; omega), bt_mk _ _ (by omega)]
        congr 2
        simp only [List.getD]
        rw [List.getElem?_append_left (by omega)]
      have hv : V1 t pre.length (pre.length + (decDigits q).length) k = (q : Int) * ulen k := by
        unfold V1 pN
        rw [hex, mk_size]
        have hvl := vl_dd q q (Nat.le_refl _) []
        rw [List.append_nil] at hvl
        rw [hvl]
        have hqm : q * uN k ≤ 315360000000000 := by rw [hq]; exact Nat.le_trans (Nat.div_mul_le_self m (uN k)) hm
        have hle : q ≤ 315360000000000 / uN k := (Nat.le_div_iff_mul_le hu).2 hqm
        have hcast : ((315360000000000 / uN k : Nat) : Int) = 315360000000000 / ulen k := by rw [← uN_ulen k hk]; exact Int.natCast_ediv _ _
        rw [Int.min_eq_left (by omega)]
      have hns : ¬ (rn t pre.length = pre.length ∨ 7 ≤ uAt t (rn t pre.length) ∨ uAt t (rn t pre.length) < l) := by
        rw [hrn, huA]
        omega
      rw [hdG_go _ _ _ _ _ _ hns (by omega), hrn, huA, hv]
      have ih := hd_suf r hr hr0 f (k + 1) (m % uN k) (k + 1) (g - 1) (pre ++ (decDigits q ++ uL k)) (x + (q : Int) * ulen k) (by omega) (Nat.le_refl _) (by omega) (Nat.le_trans (Nat.mod_le _ _) hm) (fun hf => by
        obtain rfl : k = 6 := by omega
        have e6 : uN 6 = 1 := rfl
        rw [e6]
        exact Nat.mod_one m)
      have et2 : (pre ++ (decDigits q ++ uL k)) ++ (suf f (m % uN k) (k + 1) ++ r) = pre ++ (decDigits q ++ (uL k ++ (suf f (m % uN k) (k + 1) ++ r))) := by simp
      rw [et2, ← ht] at ih
      have el : (pre ++ (decDigits q ++ uL k)).length = pre.length + (decDigits q).length + uw k := by rw [List.length_append, List.length_append, uL_uw k hk]; omega
      rw [el] at ih
      rw [ih]
      have hsum : (q : Int) * ulen k + ((m % uN k : Nat) : Int) = (m : Int) := by
        rw [← uN_ulen k hk, hq]
        have := Nat.div_add_mod m (uN k)
        rw [Nat.mul_comm] at this
        exact_mod_cast this
      have hlen : (decDigits q ++ (uL k ++ suf f (m % uN k) (k + 1))).length = (decDigits q).length + (uw k + (suf f (m % uN k) (k + 1)).length) := by rw [List.length_append, List.length_append, uL_uw k hk]
      rw [hlen]
      exact Prod.ext (by show _ = _; omega) (by show _ = _; omega)
    · have hmm : m % uN k = m := Nat.mod_eq_of_lt (by
        rcases Nat.lt_or_ge m (uN k) with q | q
        · exact q
        · exact absurd (Nat.div_pos q hu) c)
      have e : suf (f + 1) m k = suf f m (k + 1) := by rw [suf, if_neg c, hmm, List.nil_append]
      rw [e]
      exact hd_suf r hr hr0 f (k + 1) m l g pre x (by omega) (by omega) (by omega) hm (fun hf => by
        obtain rfl : k = 6 := by omega
        have e6 : uN 6 = 1 := rfl
        rw [e6] at c
        omega)
end Go.Proofs.YtmfeckpcnofkhabDoor
