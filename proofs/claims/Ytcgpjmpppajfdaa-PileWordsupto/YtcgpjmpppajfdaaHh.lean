/- A pile: New, Len. -/
import Derived.Test.YtcgpjmpppajfdaaHb
import Derived.Test.YtcgpjmpppajfdaaHf
import Derived.Test.YtcgpjmpppajfdaaHg
namespace Go.Proofs.Ytcgpjmpppajfdaa
open Go.RowKit

/-- A pile in memory. -/
structure Pl (w : World) (b bx : Nat) (lv v : Value) (n : Nat) (f : Nat → Rk) (m : Nat) : Prop where
  hp : Hp w b bx lv v n f
  cm : w.cell? ⟨b, 2, none⟩ = some (.int .i64 (m : Int))
  fm : w.frozen? ⟨b, 2, none⟩ = false
theorem Pl.kp {w w' : World} {b bx n m : Nat} {lv v : Value} {f : Nat → Rk} {M : Nat → Prop} (h : Pl w b bx lv v n f m) (k : Kp M w w') (h1 : ¬ M b) (h2 : ¬ M bx) (h3 : ∀ j, v.ownBlock = some j → ¬ M j) : Pl w' b bx lv v n f m :=
  ⟨h.hp.kp k h1 h2 h3, k.cell h.cm h1, k.frozen h.cm h.fm h1⟩
theorem Pl.below {w w' : World} {b bx n m : Nat} {lv v : Value} {f : Nat → Rk} (h : Pl w b bx lv v n f m) (k : Below w.heap.size w w') : Pl w' b bx lv v n f m := h.kp (Kp.of (M := fun _ => False) k) id id (fun _ _ => id)

theorem laid_pl (w : World) (lv : Value) (f : Nat → Rk) : Pl ((w.alloc (.cells #[lv] 27)).alloc (.cells #[av w.heap.size, .slice none 0 0, .int .i64 0] 75)) (w.heap.size + 1) w.heap.size lv (.slice none 0 0) 0 f 0 := by
  have e1 : ((w.alloc (.cells #[lv] 27)).alloc (.cells #[av w.heap.size, .slice none 0 0, .int .i64 0] 75)).heap[w.heap.size + 1]? = some (.cells #[av w.heap.size, .slice none 0 0, .int .i64 0] 75) := heap_alloc2_new w _ _
  have e0 : ((w.alloc (.cells #[lv] 27)).alloc (.cells #[av w.heap.size, .slice none 0 0, .int .i64 0] 75)).heap[w.heap.size]? = some (.cells #[lv] 27) := (Below.heap_alloc _ _ _ (by simp)).trans (heap_alloc_new w _)
  refine ⟨⟨?_, ?_, ?_, ?_, World.ownsRow_nil _ 0 78 3, by simp [Value.ownBlock], by simp [Value.ownBlock], by omega⟩, ?_, ?_⟩
  · unfold World.cell?; rw [e1]; rfl
  · unfold World.cell?; rw [e1]; rfl
  · unfold World.frozen?; rw [e1]; rfl
  · unfold World.cell?; rw [e0]; rfl
  · unfold World.cell?; rw [e1]; rfl
  · unfold World.frozen?; rw [e1]; rfl

theorem eqIn_fn (d L : Nat) (lb : Array Value) (w : World) : (Op.equalIn (d + 1) 27 (.func (.func L) #[] lb) .nilFunc).run Try.prog w = .ok false w := by
  simp [Op.equalIn, run_underlying Try.underlying27]
theorem eqIn_nil (d : Nat) (w : World) : (Op.equalIn (d + 1) 27 .nilFunc .nilFunc).run Try.prog w = .ok true w := by
  simp [Op.equalIn, run_underlying Try.underlying27]
theorem eq_fn (L : Nat) (lb : Array Value) (w : World) : (binOp .eql 27 (.func (.func L) #[] lb) .nilFunc).run Try.prog w = .ok (.bool false) w := by
  simp only [binOp]
  simp [Op.equal, Op.maxDepth, eqIn_fn 9999 L lb w]
theorem eq_nil (w : World) : (binOp .eql 27 .nilFunc .nilFunc).run Try.prog w = .ok (.bool true) w := by
  simp only [binOp]
  simp [Op.equal, Op.maxDepth, eqIn_nil 9999 w]
set_option maxRecDepth 100000 in
theorem order_some (L : Nat) (w : World) : Calls Try.prog 40 #[.func (.func L) #[] #[]] w fun r w' => r = .returned (av w.heap.size) ∧ w' = w.alloc (.cells #[.func (.func L) #[] #[]] 27) := by
  have hE := eq_fn L #[]
  go_enter Try.func40, Try.ntmps40
  go_wp2
  go_ret
  exact ⟨rfl, rfl⟩
set_option maxRecDepth 100000 in
theorem order_nil (w : World) : Calls Try.prog 40 #[.nilFunc] w fun r w' => r = .returned (av w.heap.size) ∧ w' = w.alloc (.cells #[lvN] 27) := by
  have hE := eq_nil
  have hst : ∀ a m w, (store a (.func (.func 61) #[] #[]) m).run Try.prog w = stored Try.prog w a (.func (.func 61) #[] #[]) m := fun a m w => run_store Try.prog w a _ m rfl
  go_enter Try.func40, Try.ntmps40
  go_wp2
  go_ret
  exact ⟨rfl, rfl⟩
theorem new_some (L : Nat) (f : Nat → Rk) (w : World) : Calls Try.prog 12 #[.func (.func L) #[] #[]] w fun r w' => r = .returned (.pointer (some ⟨w.heap.size + 1, 0, none⟩)) ∧ Pl w' (w.heap.size + 1) w.heap.size (.func (.func L) #[] #[]) (.slice none 0 0) 0 f 0 ∧ Below w.heap.size w w' := by
  have HL : Hid _ := laid_pl w (.func (.func L) #[] #[]) f
  have HB : Hid (Below w.heap.size w ((w.alloc (.cells #[.func (.func L) #[] #[]] 27)).alloc (.cells #[av w.heap.size, .slice none 0 0, .int .i64 0] 75))) := ((Below.refl _ w).alloc (Nat.le_refl _) _).alloc (by simp) _
  have kO := order_some L w
  go_enter Try.func12, Try.ntmps12
  go_wp2_with fail
  refine kO.mono ?_
  rintro r w2 ⟨rfl, rfl⟩
  go_wp2
  go_ret
  exact ⟨rfl, HL.out, HB.out⟩
theorem new_nil (f : Nat → Rk) (w : World) : Calls Try.prog 12 #[.nilFunc] w fun r w' => r = .returned (.pointer (some ⟨w.heap.size + 1, 0, none⟩)) ∧ Pl w' (w.heap.size + 1) w.heap.size lvN (.slice none 0 0) 0 f 0 ∧ Below w.heap.size w w' := by
  have HL : Hid _ := laid_pl w lvN f
  have HB : Hid (Below w.heap.size w ((w.alloc (.cells #[lvN] 27)).alloc (.cells #[av w.heap.size, .slice none 0 0, .int .i64 0] 75))) := ((Below.refl _ w).alloc (Nat.le_refl _) _).alloc (by simp) _
  have kO := order_nil w
  go_enter Try.func12, Try.ntmps12
  go_wp2_with fail
  refine kO.mono ?_
  rintro r w2 ⟨rfl, rfl⟩
  go_wp2
  go_ret
  exact ⟨rfl, HL.out, HB.out⟩

theorem len_any (b bx n m : Nat) (lv v : Value) (f : Nat → Rk) (w : World) (h : Pl w b bx lv v n f m) : Calls Try.prog 18 #[.pointer (some ⟨b, 0, none⟩)] w fun r w' => r = .returned (.int .i64 (n : Int)) ∧ w' = w := by
  have hl := h.hp.ls
  obtain ⟨a, cc, rfl⟩ : ∃ a cc, v = .slice a n cc := by
    rcases h.hp.row.2 with ⟨e, e2⟩ | ⟨G, C, _, e, _⟩
    · exact ⟨none, 0, by rw [e, e2]⟩
    · exact ⟨_, _, e⟩
  clear h
  go_enter Try.func18, Try.ntmps18
  go_wp2
  go_ret
  exact ⟨rfl, rfl⟩
theorem len_nil (w : World) : Calls Try.prog 18 #[.pointer none] w fun r w' => r = .returned (.int .i64 0) ∧ w' = w := by
  go_enter Try.func18, Try.ntmps18
  go_wp2
  go_ret
  exact ⟨rfl, rfl⟩
end Go.Proofs.Ytcgpjmpppajfdaa
