/- Labels: Make's answer is a label set; Get and Valid over a row. -/
import Derived.Test.YtjmninjaoemhjaaDoorFc
namespace Go.Proofs.YtjmninjaoemhjaaDoor
open Go.RowKit Go.Lib

theorem sel_mem (f : Nat → Lb) : ∀ n x, x ∈ sel f n → ∃ j, j < n ∧ x = f j ∧ x.2 ≠ ⟨#[]⟩
  | n + 1, x, h => by
    unfold sel at h
    rcases List.mem_append.1 h with h | h
    · obtain ⟨j, hj, e⟩ := sel_mem f n x h
      exact ⟨j, by omega, e⟩
    · split at h
      · simp at h
      · rename_i hne
        have e : x = f n := by simpa using h
        refine ⟨n, by omega, e, fun h0 => hne ?_⟩
        rw [← e]
        exact (tempty _).2 h0
theorem sel_ne (f : Nat → Lb) : ∀ n, Gd f n → (sel f n).Pairwise fun x y => x.1 ≠ y.1
  | 0, _ => .nil
  | n + 1, hG => by
    have ih := sel_ne f n (fun j hj => hG j (by omega))
    unfold sel
    rw [List.pairwise_append]
    refine ⟨ih, ?_, fun x hx y hy => ?_⟩
    · split
      · exact .nil
      · simp
    · split at hy
      · simp at hy
      · have e : y = f n := by simpa using hy
        obtain ⟨j, hj, ex, _⟩ := sel_mem f n x hx
        have := (hG n (by omega)).2.2 j hj
        rw [e, ex]
        intro h
        rw [h] at this
        have e2 : ((f n).1 == (f n).1) = true := by
          obtain ⟨d⟩ := (f n).1
          first
          | exact beq_self_eq_true _
          | exact (show (d == d) = true from beq_self_eq_true _)
          | (unfold BEq.beq; exact (show (d == d) = true from beq_self_eq_true _))
          | decide
        rw [this] at e2
        cases e2
/-- What Make answers is a label set. -/
theorem ls_make {f : Nat → Lb} {n : Nat} {ks : List Lb} (hG : Gd f n) (hp : ks.Perm (sel f n)) (hs : ks.Pairwise fun x y => Op.bytesLess y.1.toList x.1.toList = false) : Ls ks := by
  refine ⟨fun x hx => ?_, ?_⟩
  · obtain ⟨j, hj, e, hne⟩ := sel_mem f n x (hp.mem_iff.1 hx)
    have := hG j hj
    rw [← e] at this
    exact ⟨this.1, hne, this.2.1⟩
  · have hd : ks.Pairwise fun x y => x.1 ≠ y.1 := (hp.pairwise_iff (fun h => fun e => h e.symm)).2 (sel_ne f n hG)
    refine (hs.and hd).imp ?_
    rintro x y ⟨h1, h2⟩
    have a := od_od.anti x.1 y.1
    rcases od_cases x.1 y.1 with ⟨_, h, _⟩ | ⟨_, _, h⟩ | ⟨h, _, _⟩
    · exact h
    · exact absurd ((teq _ _).1 h) h2
    · rcases od_cases y.1 x.1 with ⟨_, g, _⟩ | ⟨g, _, _⟩ | ⟨g, _, _⟩
      · rw [g] at h1; cases h1
      · omega
      · omega
theorem ls_mem {f : Nat → Lb} {n : Nat} {ks : List Lb} (hp : ks.Perm (sel f n)) {x : Lb} (hx : x ∈ ks) : ∃ j, j < n ∧ x = f j := by
  obtain ⟨j, hj, e, _⟩ := sel_mem f n x (hp.mem_iff.1 hx)
  exact ⟨j, hj, e⟩
theorem ls_len {f : Nat → Lb} {n : Nat} {ks : List Lb} (hp : ks.Perm (sel f n)) : ks.length ≤ n := by
  rw [hp.length_eq]
  exact sel_len f n
theorem gL_at (ks : List Lb) (j : Nat) (h : j < ks.length) : K.gL ks j = ks[j] := by
  unfold K.gL
  simp [h]
theorem gL_mem (ks : List Lb) (j : Nat) (h : j < ks.length) : K.gL ks j ∈ ks := by
  rw [gL_at ks j h]
  exact List.getElem_mem h
theorem va_all (f : Nat → Lb) : ∀ k i, (∀ j, i ≤ j → j < i + k → okL f j = true) → vaF f k i = true
  | 0, _, _ => rfl
  | k + 1, i, h => by
    unfold vaF
    rw [h i (by omega) (by omega), va_all f k (i + 1) (fun j h1 h2 => h j (by omega) (by omega))]
    rfl
theorem Ls.valid {ks : List Lb} (h : Ls ks) : vaF (K.gL ks) ks.length 0 = true := by
  refine va_all _ _ _ fun j _ hj => ?_
  have hj : j < ks.length := by omega
  have hx := h.1 _ (gL_mem ks j hj)
  have h2 : (K.gL ks j).2.toList.isEmpty = false := by
    rw [← Bool.not_eq_true, tempty]
    exact hx.2.1
  unfold okL
  rw [hx.1, h2, hx.2.2]
  by_cases h0 : j = 0
  · simp [h0]
  · have := (List.pairwise_iff_getElem.1 h.2) (j - 1) j (by omega) hj (by omega)
    rw [gL_at ks j hj, gL_at ks (j - 1) (by omega), this]
    simp
/-- Get over a row of one's own. -/
theorem get_row (W : World) (S c : Nat) (a : Option Addr) (ks : List Lb) (k : ByteArray) (o : W.ownsRow S 26 2 (.slice a ks.length c) ks.length (lcL ks)) (hn : ks.length ≤ 140737488355328) (hs : ∀ x ∈ ks, x.2.size ≤ 140737488355328) :
    Calls Tryd.prog 12 #[.slice a ks.length c, .string k] W fun e w' => e = .returned (.string (gvL k ks)) ∧ Below W.heap.size W w' := by
  have h := get_any a (K.gL ks) ks.length c k W (K.row_lm o) hn (fun j hj => hs _ (gL_mem ks j hj))
  rw [gvF_gL] at h
  exact h
theorem valid_row (W : World) (S c : Nat) (a : Option Addr) (ks : List Lb) (o : W.ownsRow S 26 2 (.slice a ks.length c) ks.length (lcL ks)) (hn : ks.length ≤ 140737488355328) (hs : ∀ x ∈ ks, x.1.size ≤ 140737488355328 ∧ x.2.size ≤ 140737488355328) (h : Ls ks) (hT : Lib.Utf8Tabs 1 2 W) :
    Calls Tryd.prog 14 #[.slice a ks.length c] W fun e w' => e = .returned (.bool true) ∧ Below W.heap.size W w' := by
  have k := validL_any a (K.gL ks) ks.length c W (K.row_lm o) hn (fun j hj => hs _ (gL_mem ks j hj)) hT
  rw [h.valid] at k
  exact k
end Go.Proofs.YtjmninjaoemhjaaDoor
