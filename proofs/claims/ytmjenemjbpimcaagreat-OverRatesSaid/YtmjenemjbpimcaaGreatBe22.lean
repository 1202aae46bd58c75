/- A bundle of texts. -/
import Derived.Test.YtmjenemjbpimcaaGreatBe21
/- Over: the law's small functions. -/
namespace Go.Proofs.YtmjenemjbpimcaaGreat
open Go.RowKit

/-- The law's list of names, by the places in the table. -/
def piF (j : Nat) : Nat := ([5, 22, 12, 0, 16, 19, 21, 2, 18, 15, 17, 3, 11, 8, 9, 20, 1, 10, 14, 13, 6, 7, 4] : List Nat).getD j 0
theorem pi_lt : ∀ j, j < 23 → piF j < 23 := by decide +kernel
theorem str_cell {w : World} {g : Nat} {cs : Array Value} (h : w.heap[g]? = some (.cells cs 9)) (j : Nat) (s : ByteArray) (hj : cs[j]? = some (.string s)) : w.cell? ⟨g, j, none⟩ = some (.string s) := by
  unfold World.cell?
  rw [h]
  exact hj
/-- As many numbers as a function asks for. -/
def nums (k a b : Nat) : List Nat := if (fnAt k).2.1 = 1 then [a] else if (fnAt k).2.1 = 2 then [a, b] else []
theorem nums_len (k a b : Nat) (hk : k < 23) : (nums k a b).length = (fnAt k).2.1 := by
  have h : ∀ k, k < 23 → (fnAt k).2.1 = 0 ∨ (fnAt k).2.1 = 1 ∨ (fnAt k).2.1 = 2 := by decide +kernel
  unfold nums
  rcases h k hk with e | e | e <;> rw [e] <;> rfl
def q1 : ByteArray := ⟨#[113, 117, 97, 110, 116, 105, 108, 101, 95, 111, 118, 101, 114, 95, 116, 105, 109, 101]⟩
def q2 : ByteArray := ⟨#[112, 114, 101, 100, 105, 99, 116, 95, 108, 105, 110, 101, 97, 114]⟩
def q3 : ByteArray := ⟨#[98, 101, 97, 116, 95, 111, 118, 101, 114, 95, 116, 105, 109, 101]⟩
def q4 : ByteArray := ⟨#[100, 111, 117, 98, 108, 101, 95, 101, 120, 112, 111, 110, 101, 110, 116, 105, 97, 108, 95, 115, 109, 111, 111, 116, 104, 105, 110, 103]⟩
theorem nm_q : ∀ k, k < 23 → ((fnAt k).2.1 = 1 ↔ (fnAt k).1 = q1 ∨ (fnAt k).1 = q2 ∨ (fnAt k).1 = q3) ∧ ((fnAt k).2.1 = 2 ↔ (fnAt k).1 = q4) ∧ ¬ ((fnAt k).1 = q1 ∧ (fnAt k).1 = q2) := by decide +kernel
theorem eqB (a b : ByteArray) (l : List UInt8) (h : b.toList = l) : ∃ c, (a.toList == l) = c ∧ (c = true ↔ a = b) := ⟨_, rfl, by rw [← h]; exact teq a b⟩
theorem fm_new (w : World) (xs : List Nat) (t : TypeId) : Fm (w.alloc (.cells (xs.map (Value.float .f64)).toArray t)) (some ⟨w.heap.size, 0, none⟩) xs := .inr ⟨w.heap.size, 0, rfl, by simp, fun j hj => by
  unfold World.cell?
  rw [heap_alloc_new]
  simp [List.getD, hj]⟩
end Go.Proofs.YtmjenemjbpimcaaGreat
/- Over: same and made. -/
namespace Go.Proofs.YtmjenemjbpimcaaGreat
open Go.RowKit

def smB (a b : Option Nat) : Bool := decide (a = b)
theorem fo_refl (x : Nat) : (FloatKind.f64.format.order x x != some .eq) = (cl x).isNone := by
  rw [fo_self, ← nan_cl]
  cases nanB x <;> rfl
set_option maxHeartbeats 4000000 in
set_option maxRecDepth 100000 in
theorem same_any (a b : Nat) (w : World) : Calls Tryz.prog 7 #[.float .f64 a, .float .f64 b] w fun r w' => r = .returned (.bool (smB (cl a) (cl b))) ∧ w' = w := by
  have h3 := callBits
  have d1 := fo_refl a
  have d2 := fo_refl b
  have HS : Hid (smB (cl a) (cl b) = (decide (a = b) || ((cl a).isNone && (cl b).isNone))) := (show _ = _ by
    unfold smB
    by_cases h : a = b
    · subst h
      simp
    · simp [h]
      unfold cl
      cases nanB a <;> cases nanB b <;> simp [h])
  generalize smB (cl a) (cl b) = R at *
  by_cases h : a = b
  · subst h
    have HR : Hid (R = true) := (show _ = _ by rw [HS.out]; simp)
    clear HS d2
    go_enter Tryz.func7, Tryz.ntmps7
    go_wp2
    go_ret
    exact ⟨by rw [HR.out]; rfl, rfl⟩
  · have hi : ((a : Int) == (b : Int)) = false := by
      rw [beq_eq_false_iff_ne]
      omega
    have h' : decide (a = b) = false := decide_eq_false h
    rw [h'] at HS
    cases e1 : (cl a).isNone
    · rw [e1] at HS d1
      have HR : Hid (R = false) := HS.out
      clear HS e1 h h'
      go_enter Tryz.func7, Tryz.ntmps7
      go_wp2
      go_ret
      exact ⟨by rw [HR.out]; rfl, rfl⟩
    · rw [e1] at HS d1
      cases e2 : (cl b).isNone
      · rw [e2] at HS d2
        have HR : Hid (R = false) := HS.out
        clear HS e1 e2 h h'
        go_enter Tryz.func7, Tryz.ntmps7
        go_wp2
        go_ret
        exact ⟨by rw [HR.out]; rfl, rfl⟩
      · rw [e2] at HS d2
        have HR : Hid (R = true) := HS.out
        clear HS e1 e2 h h'
        go_enter Tryz.func7, Tryz.ntmps7
        go_wp2
        go_ret
        exact ⟨by rw [HR.out]; rfl, rfl⟩
end Go.Proofs.YtmjenemjbpimcaaGreat
/- Over: made. -/
namespace Go.Proofs.YtmjenemjbpimcaaGreat
open Go.RowKit

/-- A point that stands in the window, behind the one ahead. -/
def GdW (ss : Nat → Smp) (F T : Int) (i : Nat) : Prop := (ss i).s = false ∧ (ss i).t ≤ T ∧ F < (ss i).t ∧ (i = 0 ∨ (ss (i - 1)).t < (ss i).t)
theorem snd_of (ss : Nat → Smp) (n : Nat) (F T N : Int) (hB : Bds F T N) (h : ∀ i, i < n → GdW ss F T i) : Snd ss n F T N := by
  refine ⟨hB, fun i hi => ⟨(h i hi).1, ?_⟩, ?_⟩
  · unfold pv
    split
    · exact (h i hi).2.2.1
    · rcases (h i hi).2.2.2 with e | e
      · omega
      · exact e
  · unfold pv
    split
    · exact hB.2.1
    · exact (h (n - 1) (by omega)).2.1
theorem pv_low {ss : Nat → Smp} {n : Nat} {F T N : Int} (h : Snd ss n F T N) : ∀ i, i ≤ n → F ≤ pv ss F i
  | 0, _ => by unfold pv; rw [if_pos rfl]; exact Int.le_refl _
  | i + 1, hi => by
    rw [pv_succ]
    have a := pv_low h i (by omega)
    have b := (h.2.1 i (by omega)).2
    omega
theorem pv_high {ss : Nat → Smp} {n : Nat} {F T N : Int} (h : Snd ss n F T N) : ∀ k i, i + k = n → pv ss F i ≤ T
  | 0, i, e => by
    obtain rfl : i = n := by omega
    exact h.2.2
  | k + 1, i, e => by
    have a := pv_high h k (i + 1) (by omega)
    rw [pv_succ] at a
    have b := (h.2.1 i (by omega)).2
    omega
theorem snd_gd {ss : Nat → Smp} {n : Nat} {F T N : Int} (h : Snd ss n F T N) (i : Nat) (hi : i < n) : GdW ss F T i := by
  have a := pv_low h i (by omega)
  have b := pv_high h (n - (i + 1)) (i + 1) (by omega)
  rw [pv_succ] at b
  have c := h.2.1 i hi
  refine ⟨c.1, b, by omega, ?_⟩
  by_cases h0 : i = 0
  · exact .inl h0
  · right
    have d := c.2
    unfold pv at d
    rw [if_neg h0] at d
    exact d

end Go.Proofs.YtmjenemjbpimcaaGreat
