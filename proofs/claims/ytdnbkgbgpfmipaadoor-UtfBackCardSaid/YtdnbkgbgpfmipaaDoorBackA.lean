/- UtfBack, its first half: the list, and what is put behind it. -/
import Derived.Test.YtdnbkgbgpfmipaaDoorRight
import Derived.Deep.AppendSrc
namespace Go.Proofs.YtdnbkgbgpfmipaaDoor
open Go.RowKit Go.Lib

/-- A row that was just built, owned. -/
theorem owns_built (w : World) (B : Nat) (xs : List Int) (hB : B ≤ w.heap.size) (hm : xs.length ≤ maxLen) :
    (w.alloc (.cells (rcells xs).toArray 21)).ownsRow B 21 1 (.slice (some ⟨w.heap.size, 0, none⟩) xs.length xs.length) xs.length (rcells xs) :=
  ⟨by simp [rcells], .inr ⟨w.heap.size, xs.length, _, rfl, hB, heap_alloc_new w _, Nat.le_refl _, hm, by simp [rcells], by rw [Nat.mul_one]; exact List.take_of_length_le (by simp [rcells])⟩⟩

/-- What a slice of runes that came in yields. -/
def NumsIn (w : World) (a : Option Addr) (ns : List Int) : Prop := (a = none ∧ ns = []) ∨ ∃ x, a = some x ∧ ∀ j u, (rcells ns)[j]? = some u → w.cell? (x.add j) = some u

/-- A list that came in put behind a new one. -/
theorem append_in (w : World) (pre ns : List Int) (a : Option Addr) (c : Nat) (hn : (pre.length + ns.length) * 4 ≤ 140737488355328) (h : NumsIn w a ns) :
    ∃ v' w', (Builtin.append_ #[25, 25] 25 #[.slice (some ⟨w.heap.size, 0, none⟩) pre.length pre.length, .slice a ns.length c]).run Tryd.prog (w.alloc (.cells (rcells pre).toArray 21)) = .ok v' w' ∧
      w'.ownsRow w.heap.size 21 1 v' (pre ++ ns).length (rcells (pre ++ ns)) ∧ Below w.heap.size w w' := by
  obtain ⟨i0, hi, hz0, hz1, hz2⟩ := info_parts info21
  have o0 := owns_built w w.heap.size pre (Nat.le_refl _) (by unfold maxLen; omega)
  rcases h with ⟨rfl, rfl⟩ | ⟨x, rfl, hc⟩
  · refine ⟨.slice (some ⟨w.heap.size, 0, none⟩) pre.length pre.length, w.alloc (.cells (rcells pre).toArray 21), ?_, by rw [List.append_nil]; exact o0, (Below.refl _ _).alloc (Nat.le_refl _) _⟩
    have hr := run_append_room_src (P := Tryd.prog) (w.alloc (.cells (rcells pre).toArray 21)) 25 25 25 21 i0 Tryd.underlying25 hi w.heap.size 0 pre.length pre.length (.slice none 0 c) 0 [] (hz1 ▸ Src.ofNil _ Tryd.underlying25 c) (by omega) (fun j hj => by cases hj) (fun j hj => by cases hj)
    exact hr
  · obtain ⟨v', w', r, o', g, _⟩ := run_append_own (P := Tryd.prog) (w.alloc (.cells (rcells pre).toArray 21)) w.heap.size 25 25 21 i0 (.int .i32 0) 1 4 Tryd.underlying25 hi hz0 hz1 hz2 rfl (by decide) _ pre.length (rcells pre) o0 x ns.length c (rcells ns) (by simp [rcells])
      (fun j u hj => by
        have q := hc j u hj
        rw [((Below.refl w.heap.size w).alloc (Nat.le_refl _) _).cell (World.block_lt_of_cell? w _ q)]
        exact q) (rcells_one ns) (by unfold maxLen; omega) hn (by simp)
    refine ⟨v', w', r, ?_, ?_⟩
    · rw [List.length_append]
      have : rcells (pre ++ ns) = rcells pre ++ rcells ns := by simp [rcells]
      rw [this]; exact o'
    · exact ((Below.refl w.heap.size w).alloc (Nat.le_refl _) _).grown g (by simp) (fun k hk => by simp [Value.ownBlock] at hk; omega)

/-- An owned row that is not empty has an address. -/
theorem owned_at {w : World} {B : Nat} {v : Value} {xs : List Int} (o : w.ownsRow B 21 1 v xs.length (rcells xs)) (hp : 0 < xs.length) :
    ∃ g c, v = .slice (some ⟨g, 0, none⟩) xs.length c ∧ RunesAt w g 0 xs ∧ B ≤ g ∧ g < w.heap.size := by
  have hl := o.lt
  have hc := fun g => o.cells (g := g)
  rcases o.2 with ⟨_, h⟩ | ⟨g, c, cur, rfl, _⟩
  · omega
  · refine ⟨g, c, rfl, fun j hj => ?_, (hl g rfl).1, (hl g rfl).2⟩
    have := hc g rfl j (.int .i32 (xs.getD j 0)) (by simp [rcells, List.getD, hj])
    rw [Go.WideShapes.add_plain] at this
    exact this

set_option maxHeartbeats 400000 in
theorem runes_ok' (s : ByteArray) (w : World) (hs : s.size ≤ maxLen) (hl : (rns s s.size 0).length ≤ 70368744177664) (hT : Lib.Utf8Tabs 0 1 w) (hv : vld s s.size 0 = true) :
    Calls Tryd.prog 11 #[.string s] w fun e w' => ∃ g cap, e = .returned (.tuple #[.slice (some ⟨g, 0, none⟩) (rns s s.size 0).length cap, .int .i64 0]) ∧
      w'.ownsRow w.heap.size 21 1 (.slice (some ⟨g, 0, none⟩) (rns s s.size 0).length cap) (rns s s.size 0).length (rcells (rns s s.size 0)) ∧ Below w.heap.size w w' := by
  have k1 := valid_any s w hs hT
  rw [hv] at k1
  have hrun := fun w1 : World => run_runes_of_string (P := Tryd.prog) w1 9 25 21 s Tryd.underlying9 Tryd.underlying25 Tryd.underlying21 (by rw [runesFrom_eq]; simp [rcells]; omega)
  have he : Conv.runesFrom s s.size 0 #[] = (rcells (rns s s.size 0)).toArray := by rw [runesFrom_eq]; simp
  have hsz : (Conv.runesFrom s s.size 0 #[]).size = (rns s s.size 0).length := by rw [he]; simp [rcells]
  rw [he] at hrun hsz
  rw [hsz] at hrun
  clear he hsz hT hv
  generalize rns s s.size 0 = xs at *
  have HL : Hid (xs.length ≤ 70368744177664) := hl
  clear hl hs
  go_enter Tryd.func11, Tryd.ntmps11
  go_wp2_with (go_at_call 9; go_fit k1; rintro e w1 ⟨rfl, hb⟩)
  go_ret2
  exact ⟨w1.heap.size, _, rfl, owns_new w1 w.heap.size _ xs (grownCap_ge w1 xs.length 0 21) (grownCap_le_maxLen w1 xs.length 0 21 (by have := HL.out; unfold maxLen; omega)) hb.size, (hb.alloc hb.size _).drew⟩
end Go.Proofs.YtdnbkgbgpfmipaaDoor
