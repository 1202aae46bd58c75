
/- Answers side by side (PileMerges). -/
import Derived.Test.YtcgpjmpppajfdaaLt
import Derived.Test.YtcgpjmpppajfdaaKg
import Derived.Test.YtcgpjmpppajfdaaKf
namespace Go.Proofs.Ytcgpjmpppajfdaa
open Go.RowKit

theorem Own.iml {B : Nat} {W : World} {v : Value} {xs : List It} (h : Own B W v xs) : ∃ a c, v = .slice a xs.length c ∧ Iml W a (lk xs) xs.length := by
  obtain ⟨a, c, e, im, _⟩ := Ir.iml h
  exact ⟨a, c, e, im⟩

/-- The answers so far, side by side, and the list of them. -/
structure AL (B : Nat) (W0 W : World) (q : Nat) (va : Value) (V : Nat → Value) (X : Nat → List It) : Prop where
  row : W.ownsRow B 22 1 va q ((List.range q).map V)
  own : ∀ i, i < q → Own B W (V i) (X i)
  dis : ∀ i j g, i < q → j < q → (V i).ownBlock = some g → (V j).ownBlock = some g → i = j
  disA : ∀ i g, i < q → (V i).ownBlock = some g → va.ownBlock ≠ some g
  below : Below B W0 W
  size : B ≤ W.heap.size
section
variable {B q : Nat} {W0 W W' : World} {va : Value} {V : Nat → Value} {X : Nat → List It}
theorem AL.later (h : AL B W0 W q va V X) (b : Below W.heap.size W W') : AL B W0 W' q va V X :=
  ⟨(Kp.of (M := fun _ => False) b).row h.row (fun _ _ => id), fun i hi => (Kp.of (M := fun _ => False) b).row (h.own i hi) (fun _ _ => id), h.dis, h.disA, h.below.trans (b.mono h.size), Nat.le_trans h.size b.size⟩
/-- The colours that apart asks for. -/
theorem AL.colours (h : AL B W0 W q va V X) (hq : 0 < q) : ∃ BL cap col, va = .slice (some ⟨BL, 0, none⟩) q cap ∧ St0 q B BL V col W ∧ P1 q B V col X 0 W := by
  have hrow := h.row
  rcases h.row.2 with ⟨_, h0⟩ | ⟨BL, cap, cur, e, hb, _⟩
  · omega
  · subst e
    obtain ⟨col, hc1, hc2, hc3⟩ : ∃ col : Nat → Nat, col BL = q ∧ (∀ i g, i < q → (V i).ownBlock = some g → col g = i) ∧ ∀ b, col b < q + 3 → B ≤ b := by
      have hfd : ∀ b j, (List.range q).find? (fun i => decide ((V i).ownBlock = some b)) = some j → j < q ∧ (V j).ownBlock = some b := fun b j e => ⟨List.mem_range.1 (List.mem_of_find?_eq_some e), by simpa using List.find?_some e⟩
      refine ⟨fun b => if b = BL then q else ((List.range q).find? (fun i => decide ((V i).ownBlock = some b))).getD (q + 3), if_pos rfl, fun i g hi e => ?_, fun b hb2 => ?_⟩
      · have hne : g ≠ BL := fun x => h.disA i g hi e (by rw [x]; rfl)
        show (if g = BL then q else _) = i
        rw [if_neg hne]
        cases hf : (List.range q).find? (fun i => decide ((V i).ownBlock = some g)) with
        | none =>
          have := List.find?_eq_none.1 hf i (List.mem_range.2 hi)
          exact absurd e (by simpa using this)
        | some j =>
          obtain ⟨h1, h2⟩ := hfd g j hf
          exact (h.dis i j g hi h1 e h2).symm
      · by_cases hbl : b = BL
        · rw [hbl]; exact hb
        · have hb3 : ((List.range q).find? (fun i => decide ((V i).ownBlock = some b))).getD (q + 3) < q + 3 := by
            have := hb2
            simp only [if_neg hbl] at this
            exact this
          cases hf : (List.range q).find? (fun i => decide ((V i).ownBlock = some b)) with
          | none => rw [hf] at hb3; exact absurd hb3 (by simp)
          | some j =>
            obtain ⟨h1, h2⟩ := hfd b j hf
            exact ((h.own j h1).blk b h2).1
    refine ⟨BL, cap, col, rfl, ⟨fun i hi => ?_, hc1, hc3, h.size, hq⟩, fun i hi => ?_⟩
    · have := World.ownsRow.cells hrow (g := BL) rfl i (V i) (by simp [hi])
      rw [Go.WideShapes.add_plain, Nat.zero_add] at this
      exact this
    · rw [if_neg (by omega)]
      exact ⟨h.own i hi, fun g e => hc2 i g hi e⟩
end
theorem AL.start {W0 w8 w9 w10 : World} {v8 v9 v10 : Value} {x8 x9 x10 : List It} (o8 : Own W0.heap.size w8 v8 x8) (b8 : Below W0.heap.size W0 w8) (o9 : Own w8.heap.size w9 v9 x9) (b9 : Below w8.heap.size w8 w9) (o10 : Own w9.heap.size w10 v10 x10) (b10 : Below w9.heap.size w9 w10) :
    AL W0.heap.size W0 (w10.alloc (.cells #[v8, v9, v10] 22)) 3 (.slice (some ⟨w10.heap.size, 0, none⟩) 3 3) (fun i => if i = 0 then v8 else if i = 1 then v9 else v10) (fun i => if i = 0 then x8 else if i = 1 then x9 else x10) := by
  have s8 := b8.size
  have s9 := b9.size
  have s10 := b10.size
  have ba := (Below.refl w10.heap.size w10).alloc (Nat.le_refl _) (.cells #[v8, v9, v10] 22)
  have k8 : Kp (fun _ => False) w8 (w10.alloc (.cells #[v8, v9, v10] 22)) := ((Kp.of b9).trans (Kp.of b10)).trans (Kp.of ba)
  have k9 : Kp (fun _ => False) w9 (w10.alloc (.cells #[v8, v9, v10] 22)) := (Kp.of b10).trans (Kp.of ba)
  have k10 : Kp (fun _ => False) w10 (w10.alloc (.cells #[v8, v9, v10] 22)) := Kp.of ba
  have p8 : Own W0.heap.size (w10.alloc (.cells #[v8, v9, v10] 22)) v8 x8 := k8.row o8 (fun _ _ => id)
  have p9 : Own W0.heap.size (w10.alloc (.cells #[v8, v9, v10] 22)) v9 x9 := row_base (k9.row o9 (fun _ _ => id)) s8
  have p10 : Own W0.heap.size (w10.alloc (.cells #[v8, v9, v10] 22)) v10 x10 := row_base (k10.row o10 (fun _ _ => id)) (Nat.le_trans s8 s9)
  have l8 := o8.blk
  have l9 := o9.blk
  have l10 := o10.blk
  have i3 : ∀ i, i < 3 → i = 0 ∨ i = 1 ∨ i = 2 := fun i hi => by omega
  refine ⟨⟨by simp, .inr ⟨w10.heap.size, 3, #[v8, v9, v10], rfl, by omega, heap_alloc_new w10 _, Nat.le_refl _, by unfold maxLen; omega, rfl, rfl⟩⟩, fun i hi => ?_, fun i j g hi hj e1 e2 => ?_, fun i g hi e => ?_, ?_, by simp; omega⟩
  · rcases i3 i hi with rfl | rfl | rfl
    · exact p8
    · exact p9
    · exact p10
  · rcases i3 i hi with rfl | rfl | rfl <;> rcases i3 j hj with rfl | rfl | rfl
    · rfl
    · have := l8 g e1; have := l9 g e2; omega
    · have := l8 g e1; have := l10 g e2; omega
    · have := l9 g e1; have := l8 g e2; omega
    · rfl
    · have := l9 g e1; have := l10 g e2; omega
    · have := l10 g e1; have := l8 g e2; omega
    · have := l10 g e1; have := l9 g e2; omega
    · rfl
  · have hg : g < w10.heap.size := by
      rcases i3 i hi with rfl | rfl | rfl
      · have := l8 g e; omega
      · have := l9 g e; omega
      · exact (l10 g e).2
    intro x
    have : w10.heap.size = g := Option.some.inj x
    omega
  · exact (b8.trans (b9.mono s8)).trans ((b10.mono (Nat.le_trans s8 s9)).trans (ba.mono (by omega)))
end Go.Proofs.Ytcgpjmpppajfdaa
