
/- PileMerges: the walk, its beginning. -/
import Derived.Test.YtcgpjmpppajfdaaLv
namespace Go.Proofs.Ytcgpjmpppajfdaa.Li
open Go.RowKit

def qq (B : Nat) : Nat → Ls := fun i => if i = 0 then (some ⟨B + 1, 0, none⟩, 1, 1, fun _ => (2, 1)) else (some ⟨B + 3, 0, none⟩, 1, 1, fun _ => (1, 2))
theorem qq_mrg (B : Nat) : mrA false 2 (QL (qq B)) = [(1, 2), (2, 1)] := rfl
theorem qq_tot (B : Nat) : tot (QL (qq B)) 2 = 2 := rfl
abbrev fiveW (w : World) : World := ((((w.alloc (.cells #[.int .i64 2, .int .i64 1] 24)).alloc (.cells #[.int .i64 2, .int .i64 1] 24)).alloc (.cells #[.int .i64 1, .int .i64 2] 24)).alloc (.cells #[.int .i64 1, .int .i64 2] 24)).alloc (.cells #[.slice (some ⟨w.heap.size + 1, 0, none⟩) 1 1, .slice (some ⟨w.heap.size + 3, 0, none⟩) 1 1] 22)
theorem qq_lml (w : World) : Lml (fiveW w) (some ⟨w.heap.size + 4, 0, none⟩) (qq w.heap.size) 2 := by
  obtain ⟨w1, hw1⟩ : ∃ w1, w1 = w.alloc (.cells #[.int .i64 2, .int .i64 1] 24) := ⟨_, rfl⟩
  obtain ⟨w2, hw2⟩ : ∃ w2, w2 = w1.alloc (.cells #[.int .i64 2, .int .i64 1] 24) := ⟨_, rfl⟩
  obtain ⟨w3, hw3⟩ : ∃ w3, w3 = w2.alloc (.cells #[.int .i64 1, .int .i64 2] 24) := ⟨_, rfl⟩
  obtain ⟨w4, hw4⟩ : ∃ w4, w4 = w3.alloc (.cells #[.int .i64 1, .int .i64 2] 24) := ⟨_, rfl⟩
  have s1 : w1.heap.size = w.heap.size + 1 := by rw [hw1]; simp
  have s2 : w2.heap.size = w.heap.size + 2 := by rw [hw2]; simp [s1]
  have s3 : w3.heap.size = w.heap.size + 3 := by rw [hw3]; simp [s2]
  have s4 : w4.heap.size = w.heap.size + 4 := by rw [hw4]; simp [s3]
  have e5 : fiveW w = w4.alloc (.cells #[.slice (some ⟨w.heap.size + 1, 0, none⟩) 1 1, .slice (some ⟨w.heap.size + 3, 0, none⟩) 1 1] 22) := by rw [hw4, hw3, hw2, hw1]
  rw [e5]
  have h4 : (w4.alloc (.cells #[.slice (some ⟨w.heap.size + 1, 0, none⟩) 1 1, .slice (some ⟨w.heap.size + 3, 0, none⟩) 1 1] 22)).heap[w.heap.size + 4]? = some (.cells #[.slice (some ⟨w.heap.size + 1, 0, none⟩) 1 1, .slice (some ⟨w.heap.size + 3, 0, none⟩) 1 1] 22) := by rw [← s4]; exact heap_alloc_new w4 _
  have h3 : (w4.alloc (.cells #[.slice (some ⟨w.heap.size + 1, 0, none⟩) 1 1, .slice (some ⟨w.heap.size + 3, 0, none⟩) 1 1] 22)).heap[w.heap.size + 3]? = some (.cells #[.int .i64 1, .int .i64 2] 24) := by
    rw [Below.heap_alloc _ _ _ (by omega), hw4, ← s3]; exact heap_alloc_new w3 _
  have h1 : (w4.alloc (.cells #[.slice (some ⟨w.heap.size + 1, 0, none⟩) 1 1, .slice (some ⟨w.heap.size + 3, 0, none⟩) 1 1] 22)).heap[w.heap.size + 1]? = some (.cells #[.int .i64 2, .int .i64 1] 24) := by
    rw [Below.heap_alloc _ _ _ (by omega), hw4, Below.heap_alloc _ _ _ (by omega), hw3, Below.heap_alloc _ _ _ (by omega), hw2, ← s1]; exact heap_alloc_new w1 _
  have s5 : (w4.alloc (.cells #[.slice (some ⟨w.heap.size + 1, 0, none⟩) 1 1, .slice (some ⟨w.heap.size + 3, 0, none⟩) 1 1] 22)).heap.size = w.heap.size + 5 := by simp [s4]
  clear e5 hw1 hw2 hw3 hw4
  generalize w4.alloc (.cells #[.slice (some ⟨w.heap.size + 1, 0, none⟩) 1 1, .slice (some ⟨w.heap.size + 3, 0, none⟩) 1 1] 22) = W at *
  refine .inr ⟨w.heap.size + 4, 0, rfl, by omega, fun j hj => ?_⟩
  rcases (by omega : j = 0 ∨ j = 1) with rfl | rfl
  · refine ⟨?_, .inr ⟨w.heap.size + 1, 0, rfl, by omega, fun j hj => ?_⟩, Nat.le_refl _⟩
    · unfold World.cell?; rw [h4]; rfl
    · have hj' : j < 1 := hj
      obtain rfl : j = 0 := by omega
      constructor
      · unfold World.cell?; rw [h1]; rfl
      · unfold World.cell?; rw [h1]; rfl
  · refine ⟨?_, .inr ⟨w.heap.size + 3, 0, rfl, by omega, fun j hj => ?_⟩, Nat.le_refl _⟩
    · unfold World.cell?; rw [h4]; rfl
    · have hj' : j < 1 := hj
      obtain rfl : j = 0 := by omega
      constructor
      · unfold World.cell?; rw [h3]; rfl
      · unfold World.cell?; rw [h3]; rfl
end Go.Proofs.Ytcgpjmpppajfdaa.Li
