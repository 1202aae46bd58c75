/- The walks of utf.Runes and of the law's own same. -/
import Derived.Test.YtdnbkgbgpfmipabDoorRn
import Derived.Deep.QuietTactic
import Derived.BigQuiet
import Derived.Laws.IdiomStrings
import Derived.WalkSmall
import Derived.WideShapes
namespace Go.Proofs.YtdnbkgbgpfmipabDoor
open Go.RowKit Go.Lib

theorem runesFrom_eq (s : ByteArray) : ∀ (f i : Nat) (acc : Array Value), Conv.runesFrom s f i acc = acc ++ (rcells (rns s f i)).toArray
  | 0, _, acc => by simp [Conv.runesFrom, rns, rcells]
  | f + 1, i, acc => by
    unfold Conv.runesFrom
    by_cases h : i < s.size
    · rw [if_pos h]
      show Conv.runesFrom s f (i + (Utf8.decode s i).2) (acc.push (.int .i32 (Int.ofNat (Utf8.decode s i).1))) = _
      rw [runesFrom_eq s f]
      simp only [rns, if_pos h, rcells, List.map_cons]
      simp
    · rw [if_neg h, rns_end s (f + 1) i h]
      simp [rcells]
theorem rns_len (s : ByteArray) : ∀ (f i : Nat), (rns s f i).length ≤ f
  | 0, _ => Nat.le_refl _
  | f + 1, i => by
    unfold rns
    split
    · have := rns_len s f (i + (Utf8.decode s i).2); simp; omega
    · simp

theorem owns_new (w1 : World) (B cap : Nat) (xs : List Int) (h : xs.length ≤ cap) (hm : cap ≤ maxLen) (hB : B ≤ w1.heap.size) :
    ((w1.alloc (Obj.cells ((rcells xs).toArray ++ Array.replicate (cap - xs.length) (Value.int .i32 0)) 21)).drew).ownsRow B 21 1 (.slice (some ⟨w1.heap.size, 0, none⟩) xs.length cap) xs.length (rcells xs) := by
  refine ⟨by simp [rcells], .inr ⟨w1.heap.size, cap, _, rfl, hB, heap_alloc_new w1 _, h, hm, ?_, ?_⟩⟩
  · simp [rcells]; omega
  · rw [Nat.mul_one]
    simp [rcells]

set_option maxHeartbeats 400000 in
theorem runes_ok (s : ByteArray) (w : World) (hs : s.size ≤ 70368744177664) (hT : Lib.Utf8Tabs 1 2 w) (hv : vld s s.size 0 = true) :
    Calls Tryd.prog 15 #[.string s] w fun e w' => ∃ g cap, e = .returned (.tuple #[.slice (some ⟨g, 0, none⟩) (rns s s.size 0).length cap, .int .i64 0]) ∧
      w'.ownsRow w.heap.size 21 1 (.slice (some ⟨g, 0, none⟩) (rns s s.size 0).length cap) (rns s s.size 0).length (rcells (rns s s.size 0)) ∧ Below w.heap.size w w' := by
  have k1 := valid_any s w (by unfold maxLen; omega) hT
  rw [hv] at k1
  have hlen := rns_len s s.size 0
  have hrun := fun w1 : World => run_runes_of_string (P := Tryd.prog) w1 9 22 21 s Tryd.underlying9 Tryd.underlying22 Tryd.underlying21 (by rw [runesFrom_eq]; simp [rcells]; omega)
  have he : Conv.runesFrom s s.size 0 #[] = (rcells (rns s s.size 0)).toArray := by rw [runesFrom_eq]; simp
  have hsz : (Conv.runesFrom s s.size 0 #[]).size = (rns s s.size 0).length := by rw [he]; simp [rcells]
  rw [he] at hrun hsz
  rw [hsz] at hrun
  clear he hsz hT hv
  generalize rns s s.size 0 = xs at *
  have HL : Hid (xs.length ≤ 70368744177664) := by show _ ≤ _; omega
  clear hlen hs
  go_enter Tryd.func15, Tryd.ntmps15
  go_wp2_with (go_at_call 29; go_fit k1; rintro e w1 ⟨rfl, hb⟩)
  go_ret2
  exact ⟨w1.heap.size, _, rfl, owns_new w1 w.heap.size _ xs (grownCap_ge w1 xs.length 0 21) (grownCap_le_maxLen w1 xs.length 0 21 (by have := HL.out; unfold maxLen; omega)) hb.size, (hb.alloc hb.size _).drew⟩

set_option maxHeartbeats 1000000 in
theorem same_eq (g1 o1 g2 o2 n c1 c2 : Nat) (X : Nat → Int) (w : World) (hn : n ≤ maxLen)
    (h1 : ∀ j, j < n → w.cell? ⟨g1, o1 + j, none⟩ = some (.int .i32 (X j))) (h2 : ∀ j, j < n → w.cell? ⟨g2, o2 + j, none⟩ = some (.int .i32 (X j))) :
    Calls Tryd.prog 17 #[.slice (some ⟨g1, o1, none⟩) n c1, .slice (some ⟨g2, o2, none⟩) n c2] w fun e w' => e = .returned (.bool true) ∧ Below w.heap.size w w' := by
  unfold maxLen at hn
  have H1 : Hid (∀ j, j < n → w.cell? ⟨g1, o1 + j, none⟩ = some (.int .i32 (X j))) := h1
  have H2 : Hid (∀ j, j < n → w.cell? ⟨g2, o2 + j, none⟩ = some (.int .i32 (X j))) := h2
  clear h1 h2
  go_enter Tryd.func17, Tryd.ntmps17
  go_wp2
  go_loopw [13] (fun t w' => ∃ j : Nat, t = .int .i64 j ∧ j ≤ n ∧ Below w.heap.size w w') (fun t _ => n - (RowKit.intOf t).toNat)
  case atStart => exact ⟨0, rfl, by omega, Below.refl _ _⟩
  case round =>
    obtain ⟨j, rfl, hj, hbw⟩ := hrel
    by_cases hlt : j < n
    · have q1 := H1.out j hlt
      have q2 := H2.out j hlt
      have e1 : wr.cell? ⟨g1, o1 + j, none⟩ = some (.int .i32 (X j)) := by rw [hbw.cell (lt_of_cell q1)]; exact q1
      have e2 : wr.cell? ⟨g2, o2 + j, none⟩ = some (.int .i32 (X j)) := by rw [hbw.cell (lt_of_cell q2)]; exact q2
      clear q1 q2
      have hji : (j : Int) < n := by omega
      go_wp2
      go_quiet (fail)
      go_wp2
      exact ⟨⟨j + 1, by go_num, by omega, below_drewN hbw nq⟩, by simp [RowKit.intOf]; omega⟩
    · go_wp2
      go_ret
      exact ⟨rfl, hbw⟩
set_option maxHeartbeats 1000000 in
theorem same_none (a1 a2 : Option Addr) (c1 c2 : Nat) (w : World) :
    Calls Tryd.prog 17 #[.slice a1 0 c1, .slice a2 0 c2] w fun e w' => e = .returned (.bool true) ∧ Below w.heap.size w w' := by
  go_enter Tryd.func17, Tryd.ntmps17
  go_wp2
  go_loopw [13] (fun t w' => t = .int .i64 0 ∧ Below w.heap.size w w') (fun _ _ => 0)
  case atStart => exact ⟨rfl, Below.refl _ _⟩
  case round =>
    obtain ⟨rfl, hbw⟩ := hrel
    go_wp2
    go_ret
    exact ⟨rfl, hbw⟩

/-- Two slices that own the same cells are the same runes. -/
theorem same_owned (B1 B2 : Nat) (v1 v2 : Value) (xs : List Int) (w : World) (h1 : w.ownsRow B1 21 1 v1 xs.length (rcells xs)) (h2 : w.ownsRow B2 21 1 v2 xs.length (rcells xs)) (hn : xs.length ≤ maxLen) :
    Calls Tryd.prog 17 #[v1, v2] w fun e w' => e = .returned (.bool true) ∧ Below w.heap.size w w' := by
  rcases Nat.eq_zero_or_pos xs.length with h0 | hp
  · have e1 : ∃ a c, v1 = .slice a 0 c := by
      rcases h1.2 with ⟨rfl, _⟩ | ⟨g, cap, cur, rfl, _⟩
      · exact ⟨_, _, rfl⟩
      · exact ⟨_, _, by rw [h0]⟩
    have e2 : ∃ a c, v2 = .slice a 0 c := by
      rcases h2.2 with ⟨rfl, _⟩ | ⟨g, cap, cur, rfl, _⟩
      · exact ⟨_, _, rfl⟩
      · exact ⟨_, _, by rw [h0]⟩
    obtain ⟨a1, c1, rfl⟩ := e1
    obtain ⟨a2, c2, rfl⟩ := e2
    exact same_none a1 a2 c1 c2 w
  · have k1 := fun g => h1.cells (g := g)
    have k2 := fun g => h2.cells (g := g)
    rcases h1.2 with ⟨_, h⟩ | ⟨g1, cap1, cur1, rfl, _⟩
    · omega
    rcases h2.2 with ⟨_, h⟩ | ⟨g2, cap2, cur2, rfl, _⟩
    · omega
    have hx : ∀ j, j < xs.length → (rcells xs)[j]? = some (.int .i32 (xs.getD j 0)) := by
      intro j hj
      simp [rcells, List.getD, hj]
    refine same_eq g1 0 g2 0 xs.length cap1 cap2 (fun j => xs.getD j 0) w hn (fun j hj => ?_) (fun j hj => ?_)
    · have := k1 g1 rfl j _ (hx j hj)
      rw [Go.WideShapes.add_plain] at this
      exact this
    · have := k2 g2 rfl j _ (hx j hj)
      rw [Go.WideShapes.add_plain] at this
      exact this
end Go.Proofs.YtdnbkgbgpfmipabDoor
