/- Several rows of floats that a call makes side by side. -/
import Derived.Test.YtfjfpplemgjcmabOw
import Derived.Maps.AppendAt
namespace Go.Proofs.Ytfjfpplemgjcmab
open Go.RowKit

/-- The block of a row, if it has one, is of the colour k. -/
def Co (col : Nat → Nat) (k : Nat) (v : Value) : Prop := ∀ g, v.ownBlock = some g → col g = k
theorem Co.nil (col : Nat → Nat) (k : Nat) : Co col k (.slice none 0 0) := fun g h => by simp [Value.ownBlock] at h

theorem append_c (w : World) (S : Nat) (col : Nat → Nat) (k : Nat) (v : Value) (ys : List Nat) (x : Nat) (hS : S ≤ w.heap.size) (hn : (ys.length + 1) * 8 ≤ 140737488355328) (o : Fr w S v ys) (hc : Co col k v) :
    ∃ v' w' col', (Builtin.append_ #[35, 35] 35 #[v, .slice (some ⟨w.heap.size, 0, none⟩) 1 1]).run Try.prog (w.alloc (.cells #[.float .f64 x] 23)) = .ok v' w' ∧ Fr w' S v' (ys ++ [x]) ∧ Co col' k v' ∧ Below S w w' ∧
      ∀ u zs i, i ≠ k → Fr w S u zs → Co col i u → Fr w' S u zs ∧ Co col' i u := by
  obtain ⟨i0, hi, hz0, hz1, hz2⟩ := info_parts info23
  have o0 := World.ownsRow.alloc o (.cells #[.float .f64 x] 23)
  obtain ⟨v', w', r, o', g, _, h5⟩ := run_append_own_at (P := Try.prog) (w.alloc (.cells #[.float .f64 x] 23)) S 35 35 23 i0 (.float .f64 0) 1 8 Try.underlying35 hi hz0 hz1 hz2 rfl (by decide) _ ys.length (fc ys) o0 ⟨w.heap.size, 0, none⟩ 1 1 [.float .f64 x] (by simp)
    (fun j u hj => by
      rw [Go.WideShapes.add_plain]
      unfold World.cell?
      rw [show (w.alloc (.cells #[.float .f64 x] 23)).heap[w.heap.size]? = some (.cells #[.float .f64 x] 23) from heap_alloc_new w _]
      simpa using hj) (by intro u hu; simp at hu; subst hu; rfl) (by unfold maxLen; omega) hn (by simp; omega)
  refine ⟨v', w', fun b => if b < w.heap.size then col b else k, r, ?_, fun b hb => ?_, ?_, fun u zs i hik hu hcu => ⟨?_, fun b hb => ?_⟩⟩
  · unfold Fr
    rw [List.length_append, fc_app]; exact o'
  · rcases h5 with h5 | h5
    · rw [h5] at hb
      show (if b < w.heap.size then col b else k) = k
      split
      · exact hc b hb
      · rfl
    · rw [h5] at hb
      have hsz : (w.alloc (.cells #[.float .f64 x] 23)).heap.size = w.heap.size + 1 := by simp
      have := Option.some.inj hb
      show (if b < w.heap.size then col b else k) = k
      rw [if_neg (by omega)]
  · exact ((Below.refl S w).alloc hS _).grown g (by simp; omega) (fun k hk => (World.ownsRow.lt o k hk).1)
  · refine (World.ownsRow.alloc hu (.cells #[.float .f64 x] 23)).kept g ?_
    cases hub : u.ownBlock with
    | none => exact .inl rfl
    | some b =>
      refine .inr fun e => hik ?_
      rw [← hcu b hub, hc b e.symm]
  · show (if b < w.heap.size then col b else k) = i
    rw [if_pos (World.ownsRow.lt hu b hb).2]
    exact hcu b hb
end Go.Proofs.Ytfjfpplemgjcmab
