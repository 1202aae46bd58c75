/- The head of a text that is a duration: both sides' sums. -/
import Derived.Test.YtmfeckpcnofkhabDoorDurB
namespace Go.Proofs.YtmfeckpcnofkhabDoor
open Go.RowKit

/-- The walk part by part from a place on, under any worth of a part. -/
def hdG (V : Nat → Nat → Nat → Int) (s : ByteArray) : Nat → Nat → Nat → Int → Nat × Int
  | 0, _, p, x => (p, x)
  | f + 1, l, p, x => if rn s p = p ∨ 7 ≤ uAt s (rn s p) ∨ uAt s (rn s p) < l then (p, x) else hdG V s f (uAt s (rn s p) + 1) (rn s p + uw (uAt s (rn s p))) (x + V p (rn s p) (uAt s (rn s p)))
/-- A part's number. -/
def pN (s : ByteArray) (p j : Nat) : Int := vl (s.extract p j) (s.extract p j).size
/-- A part's worth, on either side. -/
def V1 (s : ByteArray) (p j u : Nat) : Int := min (pN s p j) (315360000000000 / ulen u + 1) * ulen u
def V2 (s : ByteArray) (p j u : Nat) : Int := if pN s p j ≤ 315360000000000 / ulen u then pN s p j * ulen u else 315360000000001
theorem hdG_stop (V : Nat → Nat → Nat → Int) (s : ByteArray) (f l p : Nat) (x : Int) (h : rn s p = p ∨ 7 ≤ uAt s (rn s p) ∨ uAt s (rn s p) < l) : hdG V s f l p x = (p, x) := by
  cases f with
  | zero => rfl
  | succ f => rw [hdG, if_pos h]
theorem hdG_go (V : Nat → Nat → Nat → Int) (s : ByteArray) (f l p : Nat) (x : Int) (h : ¬ (rn s p = p ∨ 7 ≤ uAt s (rn s p) ∨ uAt s (rn s p) < l)) (hf : 0 < f) :
    hdG V s f l p x = hdG V s (f - 1) (uAt s (rn s p) + 1) (rn s p + uw (uAt s (rn s p))) (x + V p (rn s p) (uAt s (rn s p))) := by
  cases f with
  | zero => omega
  | succ f => rw [hdG, if_neg h]; rfl
theorem hdG_fst (V W : Nat → Nat → Nat → Int) (s : ByteArray) : ∀ (f l p : Nat) (x y : Int), (hdG V s f l p x).1 = (hdG W s f l p y).1
  | 0, _, _, _, _ => rfl
  | f + 1, l, p, x, y => by
    rw [hdG, hdG]
    split
    · rfl
    · exact hdG_fst V W s f _ _ _ _
theorem uw_pos (u : Nat) : 1 ≤ uw u ∧ uw u ≤ 2 := by unfold uw; split <;> omega
theorem hdG_bd (V : Nat → Nat → Nat → Int) (s : ByteArray) : ∀ (f l p : Nat) (x : Int), p ≤ s.size → p ≤ (hdG V s f l p x).1 ∧ (hdG V s f l p x).1 ≤ s.size
  | 0, _, p, _, h => by simp [hdG]; exact h
  | f + 1, l, p, x, h => by
    rw [hdG]
    split
    · simp; exact h
    · rename_i hc
      have h1 := rn_bd s p h
      have h2 := uAt_fit s (rn s p) (by omega)
      have h3 := hdG_bd V s f (uAt s (rn s p) + 1) (rn s p + uw (uAt s (rn s p))) (x + V p (rn s p) (uAt s (rn s p))) h2
      omega
theorem part_digits (s : ByteArray) (p : Nat) (hp : p ≤ s.size) : ∀ i, i < (s.extract p (rn s p)).size → isD (s.extract p (rn s p)) i := by
  intro i hi
  have hb := rn_bd s p hp
  have e : (s.extract p (rn s p)).size = rn s p - p := by simp; omega
  rw [e] at hi
  have h := runF_digits s (s.size - p) p (p + i) (by omega) (by show p + i < rn s p; omega)
  refine ⟨by omega, ?_⟩
  rw [bt_ext s p (rn s p) i (by omega) hb.2]
  exact h.2
theorem pN_nn (s : ByteArray) (p : Nat) (hp : p ≤ s.size) : 0 ≤ pN s p (rn s p) := vl_nn _ (part_digits s p hp) _ (Nat.le_refl _)
theorem ulen_bd (u : Nat) : 1 ≤ ulen u ∧ ulen u ≤ 31536000000 := by
  match u with
  | 0 => decide
  | 1 => decide
  | 2 => decide
  | 3 => decide
  | 4 => decide
  | 5 => decide
  | _ + 6 => exact ⟨Int.le_refl _, by show (1 : Int) ≤ _; omega⟩
/-- One worth, or both too far. -/
theorem V_rel (n L : Int) (h0 : 0 ≤ n) (hL1 : 1 ≤ L) (hL2 : L ≤ 31536000000) : 0 ≤ min n (315360000000000 / L + 1) * L ∧ min n (315360000000000 / L + 1) * L ≤ 315391536000000 ∧
    0 ≤ (if n ≤ 315360000000000 / L then n * L else 315360000000001) ∧
    (min n (315360000000000 / L + 1) * L = (if n ≤ 315360000000000 / L then n * L else 315360000000001) ∨ 315360000000000 < min n (315360000000000 / L + 1) * L ∧ 315360000000000 < (if n ≤ 315360000000000 / L then n * L else 315360000000001)) := by
  have e1 := Int.ediv_mul_le 315360000000000 (show L ≠ 0 by omega)
  have e2 : 315360000000000 < (315360000000000 / L + 1) * L := Int.lt_ediv_add_one_mul_self _ (by omega)
  have e0 : 0 ≤ 315360000000000 / L := Int.ediv_nonneg (by omega) (by omega)
  rw [Int.add_mul, Int.one_mul] at e2
  by_cases c : n ≤ 315360000000000 / L
  · rw [if_pos c, show min n (315360000000000 / L + 1) = n by omega]
    have h1 : 0 ≤ n * L := Int.mul_nonneg h0 (by omega)
    have h2 : n * L ≤ 315360000000000 / L * L := Int.mul_le_mul_of_nonneg_right c (by omega)
    exact ⟨h1, by omega, h1, .inl rfl⟩
  · rw [if_neg c, show min n (315360000000000 / L + 1) = 315360000000000 / L + 1 by omega, Int.add_mul, Int.one_mul]
    exact ⟨by omega, by omega, by omega, .inr ⟨by omega, by omega⟩⟩
/-- The sums are one, or both too far. -/
def far2 (x y : Int) : Prop := x = y ∨ 315360000000000 < x ∧ 315360000000000 < y
theorem hdG_snd (s : ByteArray) : ∀ (f l p : Nat) (x y : Int), p ≤ s.size → 0 ≤ x → 0 ≤ y → far2 x y → far2 (hdG (V1 s) s f l p x).2 (hdG (V2 s) s f l p y).2
  | 0, _, _, _, _, _, _, _, h => h
  | f + 1, l, p, x, y, hp, hx, hy, h => by
    rw [hdG, hdG]
    split
    · exact h
    · rename_i hc
      have h1 := pN_nn s p hp
      have h2 := ulen_bd (uAt s (rn s p))
      have h3 := V_rel _ _ h1 h2.1 h2.2
      have hb := rn_bd s p hp
      have h4 := uAt_fit s (rn s p) (by omega)
      refine hdG_snd s f _ _ _ _ h4 ?_ ?_ ?_
      · unfold V1; omega
      · unfold V2; omega
      · unfold far2 at h ⊢; unfold V1 V2; omega
end Go.Proofs.YtmfeckpcnofkhabDoor
