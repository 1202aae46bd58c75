
/- PileSorts: what its walk wants. -/
import Derived.Test.YtcgpjmpppajfdabKg
namespace Go.Proofs.Ytcgpjmpppajfdab
open Go.RowKit

def f00 : Nat → Rk := fun _ => ((0, 0), 0)
theorem flat_rs (l : List It) : RS (Kf true) l l := by
  intro B hB e
  refine ⟨B, e, List.Perm.refl _, ?_⟩
  exact hB.imp (fun {x y} h hc => by
    have : (0 : Int) < 0 ∨ ((0 : Int) = 0 ∧ y.2 < x.2) := hc
    omega)
theorem sortedK (a : Option Addr) (c n : Nat) (xs : Nat → It) (w : World) (ys : List It) (hr : RS (Kf false) (il xs n) ys) (hyl : ys.length = n) (hf : Iml w a xs n) (hl : n * 24 ≤ 140737488355328) :
    Calls Try.prog 4 #[.slice a n c, .func (.func 6) #[] #[]] w fun r w' => ∃ v, r = .returned v ∧ Own w.heap.size w' v ys ∧ Below w.heap.size w w' := by
  refine (sorted_any (inO lsK) lvK lvK f00 (fun w => new_some 6 f00 w) aheadK a c n xs w hf hl).mono ?_
  rintro r w' ⟨v, rfl, o, b⟩
  rw [out_is isK f00 xs n hr] at o
  exact ⟨v, rfl, by unfold Own; rw [hyl]; exact o, b⟩
theorem sortedN (a : Option Addr) (c n : Nat) (xs : Nat → It) (w : World) (hf : Iml w a xs n) (hl : n * 24 ≤ 140737488355328) :
    Calls Try.prog 4 #[.slice a n c, .nilFunc] w fun r w' => ∃ v, r = .returned v ∧ Own w.heap.size w' v (il xs n) ∧ Below w.heap.size w w' := by
  refine (sorted_any (inO lsN) lvN .nilFunc f00 (fun w => new_nil f00 w) aheadN a c n xs w hf hl).mono ?_
  rintro r w' ⟨v, rfl, o, b⟩
  rw [out_is isN f00 xs n (flat_rs _)] at o
  exact ⟨v, rfl, by unfold Own; rw [show (il xs n).length = n from il_len xs n]; exact o, b⟩
theorem bestK (a : Option Addr) (c n : Nat) (xs : Nat → It) (kk : Int) (w : World) (ys : List It) (hr : RS (Kf false) (il xs n) ys) (hyl : ys.length = n) (hf : Iml w a xs n) (hl : n * 24 ≤ 140737488355328) :
    Calls Try.prog 10 #[.slice a n c, .int .i64 kk, .func (.func 6) #[] #[]] w fun r w' => ∃ v, r = .returned v ∧ Own w.heap.size w' v (ys.take kk.toNat) ∧ Below w.heap.size w w' :=
  best_any (inO lsK) (fun x => x.1) lvK lvK f00 (fun w => new_some 6 f00 w) (fun w => order_some 6 w) aheadK isK a c n xs kk w ys hr hyl hf hl
theorem bestN (a : Option Addr) (c n : Nat) (xs : Nat → It) (kk : Int) (w : World) (hf : Iml w a xs n) (hl : n * 24 ≤ 140737488355328) :
    Calls Try.prog 10 #[.slice a n c, .int .i64 kk, .nilFunc] w fun r w' => ∃ v, r = .returned v ∧ Own w.heap.size w' v ((il xs n).take kk.toNat) ∧ Below w.heap.size w w' :=
  best_any (inO lsN) (fun _ => 0) lvN .nilFunc f00 (fun w => new_nil f00 w) (fun w => order_nil w) aheadN isN a c n xs kk w (il xs n) (flat_rs _) (il_len xs n) hf hl
theorem RS.uniq {K : It → Int} {l y1 y2 : List It} (h1 : RS K l y1) (h2 : RS K l y2) : y1 = y2 := by
  obtain ⟨R1, e1, s1⟩ := h1 (Rv.zs (lk l) l.length) (Rv.zs_up _ _) (by rw [Rv.zs_map, il_lk])
  obtain ⟨R2, e2, s2⟩ := h2 (Rv.zs (lk l) l.length) (Rv.zs_up _ _) (by rw [Rv.zs_map, il_lk])
  rw [← e1, ← e2, s1.uniq s2 (Rv.zs_up _ _).dst]
theorem Own.iml {B : Nat} {W : World} {v : Value} {xs : List It} (h : Own B W v xs) : ∃ a c, v = .slice a xs.length c ∧ Iml W a (lk xs) xs.length := by
  obtain ⟨a, c, e, im, _⟩ := Ir.iml h
  exact ⟨a, c, e, im⟩

/-- The answers so far, side by side, and the list of them. -/
structure AL (B : Nat) (W0 W : World) (q : Nat) (va : Value) (V : Nat → Value) (X : Nat → List It) : Prop where
  row : W.ownsRow B 22 1 va q ((List.range q).map V)
  own : ∀ i, i < q → Own B W (V i) (X i)
  dis : ∀ i j g, i < q → j < q → (V i).ownBlock = some g → (V j).ownBlock = some g → i = j
  disA : ∀ i g, i < q → (V i).ownBlock = some g → va.ownBlock ≠ some g
  below : Below B W0 W
  size : B ≤ W.heap.size
section
variable {B q : Nat} {W0 W W' : World} {va : Value} {V : Nat → Value} {X : Nat → List It}
theorem AL.later (h : AL B W0 W q va V X) (b : Below W.heap.size W W') : AL B W0 W' q va V X :=
  ⟨(Kp.of (M := fun _ => False) b).row h.row (fun _ _ => id), fun i hi => (Kp.of (M := fun _ => False) b).row (h.own i hi) (fun _ _ => id), h.dis, h.disA, h.below.trans (b.mono h.size), Nat.le_trans h.size b.size⟩
/-- The colours that apart asks for. -/
theorem AL.colours (h : AL B W0 W q va V X) (hq : 0 < q) : ∃ BL cap col, va = .slice (some ⟨BL, 0, none⟩) q cap ∧ St0 q B BL V col W ∧ P1 q B V col X 0 W := by
  have hrow := h.row
  rcases h.row.2 with ⟨_, h0⟩ | ⟨BL, cap, cur, e, hb, _⟩
  · omega
  · subst e
    obtain ⟨col, hc1, hc2, hc3⟩ : ∃ col : Nat → Nat, col BL = q ∧ (∀ i g, i < q → (V i).ownBlock = some g → col g = i) ∧ ∀ b, col b < q + 3 → B ≤ b := by
      have hfd : ∀ b j, (List.range q).find? (fun i => decide ((V i).ownBlock = some b)) = some j → j < q ∧ (V j).ownBlock = some b := fun b j e => ⟨List.mem_range.1 (List.mem_of_find?_eq_some e), by simpa using List.find?_some e⟩
      refine ⟨fun b => if b = BL then q else ((List.range q).find? (fun i => decide ((V i).ownBlock = some b))).getD (q + 3), if_pos rfl, fun i g hi e => ?_, fun b hb2 => ?_⟩
      · have hne : g ≠ BL := fun x => h.disA i g hi e (by rw [x]; rfl)
        show (if g = BL then q else _) = i
        rw [if_neg hne]
        cases hf : (List.range q).find? (fun i => decide ((V i).ownBlock = some g)) with
        | none =>
          have := List.find?_eq_none.1 hf i (List.mem_range.2 hi)
          exact absurd e (by simpa using this)
        | some j =>
          obtain ⟨h1, h2⟩ := hfd g j hf
          exact (h.dis i j g hi h1 e h2).symm
      · by_cases hbl : b = BL
        · rw [hbl]; exact hb
        · have hb3 : ((List.range q).find? (fun i => decide ((V i).ownBlock = some b))).getD (q + 3) < q + 3 := by
            have := hb2
            simp only [if_neg hbl] at this
            exact this
          cases hf : (List.range q).find? (fun i => decide ((V i).ownBlock = some b)) with
          | none => rw [hf] at hb3; exact absurd hb3 (by simp)
          | some j =>
            obtain ⟨h1, h2⟩ := hfd b j hf
            exact ((h.own j h1).blk b h2).1
    refine ⟨BL, cap, col, rfl, ⟨fun i hi => ?_, hc1, hc3, h.size, hq⟩, fun i hi => ?_⟩
    · have := World.ownsRow.cells hrow (g := BL) rfl i (V i) (by simp [hi])
      rw [Go.WideShapes.add_plain, Nat.zero_add] at this
      exact this
    · rw [if_neg (by omega)]
      exact ⟨h.own i hi, fun g e => hc2 i g hi e⟩
/-- Two slices as a row of their own. -/
theorem pair_cell (w : World) (v u : Value) (j : Nat) (x : Value) (h : [v, u][j]? = some x) : (w.alloc (.cells #[v, u] 22)).cell? ⟨w.heap.size, j, none⟩ = some x := by
  unfold World.cell?
  rw [show (w.alloc (.cells #[v, u] 22)).heap[w.heap.size]? = some (.cells #[v, u] 22) from heap_alloc_new w _]
  simpa using h
theorem range_two (q : Nat) (V : Nat → Value) (v u : Value) : (List.range q).map V ++ [v, u] = (List.range (q + 2)).map (fun i => if i < q then V i else if i = q then v else u) := by
  rw [List.range_succ, List.range_succ, List.map_append, List.map_append]
  have e : (List.range q).map (fun i => if i < q then V i else if i = q then v else u) = (List.range q).map V := List.map_congr_left fun i hi => if_pos (List.mem_range.1 hi)
  rw [e]
  simp
  intro h
  omega
/-- Two answers more. -/
theorem AL.two (h : AL B W0 W q va V X) {v u : Value} {x y : List It} {S : Nat} (hS : ∀ i g, i < q → (V i).ownBlock = some g → g < S) (hSa : ∀ g, va.ownBlock = some g → g < S) (hBS : B ≤ S) (ov : Own S W v x) (ou : Own S W u y) (hvu : ∀ g, v.ownBlock = some g → u.ownBlock ≠ some g) (h1v : v.oneCell' = true) (h1u : u.oneCell' = true) (hq : q ≤ 1073741824) :
    ∃ va' w', (Builtin.append_ #[32, 32] 32 #[va, .slice (some ⟨W.heap.size, 0, none⟩) 2 2]).run Try.prog (W.alloc (.cells #[v, u] 22)) = .ok va' w' ∧ AL B W0 w' (q + 2) va' (fun i => if i < q then V i else if i = q then v else u) (fun i => if i < q then X i else if i = q then x else y) := by
  obtain ⟨i0, hi, hz0, hz1, hz2⟩ := info_parts infBk
  have ha := h.later (W' := W.alloc (.cells #[v, u] 22)) ((Below.refl _ W).alloc (Nat.le_refl _) _)
  have hsz : W.heap.size ≤ (W.alloc (.cells #[v, u] 22)).heap.size := by simp
  obtain ⟨va', w', r, o', g, _, h5⟩ := run_append_own_at (P := Try.prog) (W.alloc (.cells #[v, u] 22)) B 32 32 22 i0 _ 1 24 Try.underlying32 hi hz0 hz1 hz2 rfl (by decide) va q _ ha.row ⟨W.heap.size, 0, none⟩ 2 2 [v, u] rfl (fun j x hj => by
    rw [Go.WideShapes.add_plain, Nat.zero_add]
    exact pair_cell W v u j x hj) (by intro z hz; simp at hz; rcases hz with rfl | rfl <;> assumption) (by unfold maxLen; omega) (by omega) (Nat.le_trans h.size hsz)
  rw [range_two] at o'
  have kp : Kp (fun k => va.ownBlock = some k) (W.alloc (.cells #[v, u] 22)) w' := (Kp.refl _ _).grown g (fun k e _ => e)
  have ba := (Below.refl W.heap.size W).alloc (Nat.le_refl _) (.cells #[v, u] 22)
  have lb : ∀ {S' : Nat} {z : Value} {l : List It}, Own S' W z l → (∀ k, z.ownBlock = some k → va.ownBlock ≠ some k) → Own S' w' z l := fun o hne => kp.row ((Kp.of (M := fun _ => False) ba).row o (fun _ _ => id)) (fun k e => hne k e)
  have hva' : ∀ k, va'.ownBlock = some k → va.ownBlock = some k ∨ W.heap.size ≤ k := fun k e => by
    rcases h5 with h5 | h5
    · exact .inl (h5 ▸ e)
    · rw [h5] at e
      have := Option.some.inj e
      simp at this
      exact .inr (by omega)
  have vb : ∀ k, v.ownBlock = some k → S ≤ k ∧ k < W.heap.size := ov.blk
  have ub : ∀ k, u.ownBlock = some k → S ≤ k ∧ k < W.heap.size := ou.blk
  have down : ∀ {z : Value} {l : List It}, Own S w' z l → Own B w' z l := fun o => row_base o hBS
  refine ⟨va', w', r, o', fun i hi => ?_, fun i j k hi hj e1 e2 => ?_, fun i k hi e => ?_, ?_, ?_⟩
  · by_cases h1 : i < q
    · rw [if_pos h1, if_pos h1]
      exact lb (h.own i h1) (fun k e => h.disA i k h1 e)
    · rw [if_neg h1, if_neg h1]
      by_cases h2 : i = q
      · rw [if_pos h2, if_pos h2]
        exact down (lb ov (fun k e x => by have := (vb k e).1; have := hSa k x; omega))
      · rw [if_neg h2, if_neg h2]
        exact down (lb ou (fun k e x => by have := (ub k e).1; have := hSa k x; omega))
  · by_cases a1 : i < q
    · rw [if_pos a1] at e1
      by_cases a2 : j < q
      · rw [if_pos a2] at e2
        exact h.dis i j k a1 a2 e1 e2
      · exfalso
        have := hS i k a1 e1
        rw [if_neg a2] at e2
        split at e2
        · have := (vb k e2).1; omega
        · have := (ub k e2).1; omega
    · rw [if_neg a1] at e1
      by_cases a2 : j < q
      · exfalso
        rw [if_pos a2] at e2
        have := hS j k a2 e2
        split at e1
        · have := (vb k e1).1; omega
        · have := (ub k e1).1; omega
      · rw [if_neg a2] at e2
        by_cases b1 : i = q
        · rw [if_pos b1] at e1
          by_cases b2 : j = q
          · omega
          · rw [if_neg b2] at e2
            exact absurd e2 (hvu k e1)
        · rw [if_neg b1] at e1
          by_cases b2 : j = q
          · rw [if_pos b2] at e2
            exact absurd e1 (hvu k e2)
          · omega
  · intro x
    have hk : k < W.heap.size := by
      by_cases a1 : i < q
      · rw [if_pos a1] at e; exact ((h.own i a1).blk k e).2
      · rw [if_neg a1] at e
        split at e
        · exact (vb k e).2
        · exact (ub k e).2
    rcases hva' k x with y | y
    · by_cases a1 : i < q
      · rw [if_pos a1] at e; exact h.disA i k a1 e y
      · rw [if_neg a1] at e
        have := hSa k y
        split at e
        · have := (vb k e).1; omega
        · have := (ub k e).1; omega
    · omega
  · exact (h.below.alloc h.size _).trans (kp.below (Nat.le_trans h.size hsz) (fun k hk e => by have := (World.ownsRow.lt h.row k e).1; omega))
  · exact Nat.le_trans (Nat.le_trans h.size hsz) kp.size
end
end Go.Proofs.Ytcgpjmpppajfdab
