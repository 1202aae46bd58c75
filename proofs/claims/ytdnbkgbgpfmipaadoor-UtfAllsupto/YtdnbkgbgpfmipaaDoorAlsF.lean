/- UtfAlls: what the law's walk wants. -/
import Derived.Test.YtdnbkgbgpfmipaaDoorAlsE
namespace Go.Proofs.YtdnbkgbgpfmipaaDoor
open Go.RowKit Go.Lib

theorem gone_any (Bs : Nat) (s : ByteArray) (hs : s.size ≤ 1048576) (stop : Int) (w : World) (hBs : w.cell? ⟨Bs, 0, none⟩ = some (.string s)) (hT : Lib.Utf8Tabs 0 1 w) :
    Calls Tryd.prog 15 #[.func (.func 30) #[] #[.pointer (some ⟨Bs, 0, none⟩)], .int .i64 stop] w fun e w' => ∃ v1 v2, e = .returned (.tuple #[v1, v2]) ∧
      w'.ownsRow w.heap.size 3 1 v1 (gn stop (al s)).length (pcells (gn stop (al s))) ∧ w'.ownsRow w.heap.size 21 1 v2 (gn stop (al s)).length (qcells (gn stop (al s))) ∧ Below w.heap.size w w' :=
  callsIn_wide.1 (gone_in 3 (Nat.le_refl _) Bs s hs stop w hBs hT)
theorem all_any (s : ByteArray) (w : World) :
    Calls Tryd.prog 16 #[.string s] w fun e w' => e = .returned (.func (.func 30) #[] #[.pointer (some ⟨w.heap.size, 0, none⟩)]) ∧ w' = w.alloc (.cells #[.string s] 9) :=
  callsIn_wide.1 (all_in 3 s w)

/-- A row that is not empty. -/
theorem row_at {w : World} {B e n : Nat} {v : Value} {xs : List Value} (h : w.ownsRow B e 1 v n xs) (hp : 0 < n) :
    ∃ g c, v = .slice (some ⟨g, 0, none⟩) n c ∧ (∀ j u, xs[j]? = some u → w.cell? ⟨g, j, none⟩ = some u) ∧ g < w.heap.size ∧ n ≤ c := by
  have hl := h.lt
  have hc := fun g => h.cells (g := g)
  rcases h.2 with ⟨_, h0⟩ | ⟨g, c, cur, rfl, _, _, hnc, _⟩
  · omega
  · refine ⟨g, c, rfl, fun j u hj => ?_, (hl g rfl).2, hnc⟩
    have := hc g rfl j u hj
    rw [Go.WideShapes.add_plain, Nat.zero_add] at this
    exact this
theorem row_none {w : World} {B e : Nat} {v : Value} {xs : List Value} (h : w.ownsRow B e 1 v 0 xs) : v = .slice none 0 0 ∨ ∃ g c, v = .slice (some ⟨g, 0, none⟩) 0 c := by
  rcases h.2 with ⟨h0, _⟩ | ⟨g, c, cur, rfl, _⟩
  · exact .inl h0
  · exact .inr ⟨g, c, rfl⟩
theorem gn_len (stop : Int) (A : List (Int × Int)) : ((gn stop A).length : Int) = if 0 < stop ∧ stop < A.length then stop else A.length := by
  unfold gn
  by_cases h : 0 < stop ∧ stop ≤ A.length
  · rw [if_pos h, List.length_take]
    split
    · omega
    · omega
  · rw [if_neg h, if_neg (by omega)]
theorem gn_at (stop : Int) (A : List (Int × Int)) (j : Nat) (h : j < (gn stop A).length) : (gn stop A)[j]? = A[j]? := by
  unfold gn at h ⊢
  split
  · rename_i hx
    rw [if_pos hx, List.length_take] at h
    rw [List.getElem?_take_of_lt (by omega)]
  · rfl
theorem gn_le (stop : Int) (A : List (Int × Int)) : (gn stop A).length ≤ A.length := by
  unfold gn
  split
  · rw [List.length_take]; omega
  · exact Nat.le_refl _
theorem gn_pos (stop : Int) (A : List (Int × Int)) (h : 0 < A.length) : 0 < (gn stop A).length := by
  unfold gn
  split
  · rw [List.length_take]; omega
  · exact h
theorem al_const : al ⟨#[97, 195, 169]⟩ = [(0, 97), (1, 233)] := by decide +kernel

/-- What a slice of stops that came in yields. -/
def StopsIn (w : World) (a : Option Addr) (ns : List Int) : Prop := (a = none ∧ ns = []) ∨ ∃ x, a = some x ∧ ∀ j u, (ns.map (Value.int .i64))[j]? = some u → w.cell? (x.add j) = some u

/-- The stops between two stops below nought. -/
theorem app_stops (w : World) (ns : List Int) (a : Option Addr) (c : Nat) (hn : ns.length ≤ 1048576) (h : StopsIn w a ns) :
    ∃ v1 w1 v2 w2, (Builtin.append_ #[35, 35] 35 #[.slice (some ⟨w.heap.size, 0, none⟩) 1 1, .slice a ns.length c]).run Tryd.prog (w.alloc (.cells #[.int .i64 (-1)] 3)) = .ok v1 w1 ∧
      (Builtin.append_ #[35, 35] 35 #[v1, .slice (some ⟨w1.heap.size, 0, none⟩) 1 1]).run Tryd.prog (w1.alloc (.cells #[.int .i64 (-1)] 3)) = .ok v2 w2 ∧
      w2.ownsRow w.heap.size 3 1 v2 ([-1] ++ ns ++ [-1]).length (([-1] ++ ns ++ [-1]).map (Value.int .i64)) ∧ Below w.heap.size w w2 := by
  obtain ⟨i0, hi, hz0, hz1, hz2⟩ := info_parts inf3
  have o0 : (w.alloc (.cells #[.int .i64 (-1)] 3)).ownsRow w.heap.size 3 1 (.slice (some ⟨w.heap.size, 0, none⟩) 1 1) 1 [.int .i64 (-1)] :=
    ⟨by simp, .inr ⟨w.heap.size, 1, _, rfl, Nat.le_refl _, heap_alloc_new w _, Nat.le_refl _, by unfold maxLen; omega, by simp, rfl⟩⟩
  have first : ∃ v1 w1, (Builtin.append_ #[35, 35] 35 #[.slice (some ⟨w.heap.size, 0, none⟩) 1 1, .slice a ns.length c]).run Tryd.prog (w.alloc (.cells #[.int .i64 (-1)] 3)) = .ok v1 w1 ∧ w1.ownsRow w.heap.size 3 1 v1 ([-1] ++ ns).length (([-1] ++ ns).map (Value.int .i64)) ∧ Below w.heap.size w w1 := by
    rcases h with ⟨rfl, rfl⟩ | ⟨x, rfl, hc⟩
    · refine ⟨.slice (some ⟨w.heap.size, 0, none⟩) 1 1, w.alloc (.cells #[.int .i64 (-1)] 3), ?_, o0, (Below.refl _ _).alloc (Nat.le_refl _) _⟩
      exact run_append_room_src (P := Tryd.prog) (w.alloc (.cells #[.int .i64 (-1)] 3)) 35 35 35 3 i0 Tryd.underlying35 hi w.heap.size 0 1 1 (.slice none 0 c) 0 [] (hz1 ▸ Src.ofNil _ Tryd.underlying35 c) (by omega) (fun j hj => by cases hj) (fun j hj => by cases hj)
    · obtain ⟨v', w', r, o', g, _⟩ := run_append_own (P := Tryd.prog) (w.alloc (.cells #[.int .i64 (-1)] 3)) w.heap.size 35 35 3 i0 (.int .i64 0) 1 8 Tryd.underlying35 hi hz0 hz1 hz2 rfl (by decide) _ 1 [.int .i64 (-1)] o0 x ns.length c (ns.map (Value.int .i64)) (by simp)
        (fun j u hj => by
          have q := hc j u hj
          rw [((Below.refl w.heap.size w).alloc (Nat.le_refl _) _).cell (World.block_lt_of_cell? w _ q)]
          exact q) (fun u hu => by obtain ⟨z, _, rfl⟩ := List.mem_map.1 hu; rfl) (by unfold maxLen; omega) (by omega) (by simp)
      refine ⟨v', w', r, ?_, ?_⟩
      · have e1 : ([-1] ++ ns).length = 1 + ns.length := by rw [List.length_append]; rfl
        rw [e1]; exact o'
      · exact ((Below.refl w.heap.size w).alloc (Nat.le_refl _) _).grown g (by simp) (fun k hk => by simp [Value.ownBlock] at hk; omega)
  obtain ⟨v1, w1, r1, o1, b1⟩ := first
  have o1' : w1.ownsRow w.heap.size 3 1 v1 (([-1] ++ ns).map (Value.int .i64)).length (([-1] ++ ns).map (Value.int .i64)) := by rw [List.length_map]; exact o1
  obtain ⟨v2, w2, r2, o2, b2, _⟩ := app_one 35 3 _ 8 Tryd.underlying35 inf3 rfl (by omega) w1 w.heap.size v1 (([-1] ++ ns).map (Value.int .i64)) (.int .i64 (-1)) rfl b1.size (by simp; omega) o1'
  refine ⟨v1, w1, v2, w2, r1, r2, ?_, b1.trans b2⟩
  have e2 : (([-1] ++ ns ++ [-1]).map (Value.int .i64)) = ([-1] ++ ns).map (Value.int .i64) ++ [.int .i64 (-1)] := by simp
  rw [e2]
  have e3 : ([-1] ++ ns ++ [-1]).length = (([-1] ++ ns).map (Value.int .i64) ++ [Value.int .i64 (-1)]).length := by simp
  rw [e3]
  exact o2
end Go.Proofs.YtdnbkgbgpfmipaaDoor
