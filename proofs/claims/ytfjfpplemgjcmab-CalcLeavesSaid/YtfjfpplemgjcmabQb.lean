/- A list of floats copied. -/
import Derived.Test.YtfjfpplemgjcmabTd
import Derived.Lib.SliceRun
namespace Go.Proofs.Ytfjfpplemgjcmab
open Go.RowKit

theorem copy_all (w : World) (g o c : Nat) (xs : List Nat) (hg : g < w.heap.size) (hat : FAt w g o xs) (hn : xs.length * 8 ≤ 140737488355328) :
    ∃ v' w', (Builtin.append_ #[35, 35] 35 #[.slice (some ⟨w.heap.size, 0, none⟩) 0 0, .slice (some ⟨g, o, none⟩) xs.length c]).run Try.prog (w.alloc (.cells #[] 23)) = .ok v' w' ∧ Fr w' w.heap.size v' xs ∧ Below w.heap.size w w' := by
  obtain ⟨i0, hi, hz0, hz1, hz2⟩ := info_parts info23
  have o0 : (w.alloc (.cells #[] 23)).ownsRow w.heap.size 23 1 (.slice (some ⟨w.heap.size, 0, none⟩) 0 0) 0 [] := World.ownsRow_made w #[] 0 (Nat.le_refl _) (Nat.zero_le _) rfl
  have hb : Below w.heap.size w (w.alloc (.cells #[] 23)) := (Below.refl _ w).alloc (Nat.le_refl _) _
  obtain ⟨v', w', r, o', gr, _⟩ := run_append_own (P := Try.prog) (w.alloc (.cells #[] 23)) w.heap.size 35 35 23 i0 (.float .f64 0) 1 8 Try.underlying35 hi hz0 hz1 hz2 rfl (by decide) _ 0 [] o0 ⟨g, o, none⟩ xs.length c (fc xs) (by simp [fc])
    (fun j u hj => by
      rw [Go.WideShapes.add_plain]
      have hj2 : j < xs.length := by
        have := (List.getElem?_eq_some_iff.1 hj).1
        rw [fc_len] at this
        exact this
      rw [hb.cell (p := ⟨g, o + j, none⟩) hg, hat j hj2]
      simp [fc, hj2] at hj
      rw [← hj]
      simp [List.getD, hj2]) (by intro u hu; simp [fc] at hu; obtain ⟨x, _, rfl⟩ := hu; rfl) (by unfold maxLen; omega) (by omega) (by simp)
  refine ⟨v', w', r, ?_, hb.grown gr (by simp) (fun k hk => by simp [Value.ownBlock] at hk; omega)⟩
  unfold Fr
  simpa using o'

set_option maxHeartbeats 1000000 in
set_option maxRecDepth 100000 in
theorem clone_any (g o c : Nat) (xs : List Nat) (w : World) (hg : g < w.heap.size) (hat : FAt w g o xs) (hn : xs.length * 8 ≤ 140737488355328) :
    Calls Try.prog 65 #[.slice (some ⟨g, o, none⟩) xs.length c] w fun r w' => ∃ v, r = .returned v ∧ Fr w' w.heap.size v xs ∧ Below w.heap.size w w' := by
  obtain ⟨v', w1, r1, o1, b1⟩ := copy_all w g o c xs hg hat hn
  have O1 : Hid (Fr w1 w.heap.size v' xs) := o1
  have q35 : ∀ (w : World) (a : Option Addr) (n c n' c' : Nat), (binOp .eql 35 (.slice a n c) (.slice none n' c')).run Try.prog w = .ok (.bool a.isNone) w := fun w a n c n' c' => Lib.run_eql_slice_nil w _ _ a n c n' c' Try.underlying35
  clear hat o1
  go_enter Try.func65, Try.ntmps65
  go_wp2_with (at_builtin; refine wpList_append_run rfl _ _ 35 35 rfl _ _ rfl rfl r1 ?_)
  go_wp2
  go_ret
  exact ⟨_, rfl, O1.out, b1⟩

/-- The row behind a value of one's own that isn't empty. -/
theorem Fr.rf {w : World} {S : Nat} {v : Value} {ys : List Nat} (h : Fr w S v ys) (h0 : ys ≠ []) : ∃ g c, v = .slice (some ⟨g, 0, none⟩) ys.length c ∧ Rf w S g c ys.length (fun j => ys.getD j 0) := by
  have e : seg (fun j => ys.getD j 0) 0 ys.length = ys := by
    refine List.ext_getElem (seg_length _ _ _) fun j h1 h2 => ?_
    rw [seg_length] at h1
    have := seg_getD (fun j => ys.getD j 0) j ys.length 0 h1
    rw [Nat.zero_add] at this
    simp only [List.getD_eq_getElem?_getD, List.getElem?_eq_getElem h1, Option.getD_some] at this
    rw [← this]
    rw [List.getElem?_eq_getElem (by rw [seg_length]; exact h1)]
    rfl
  rcases h.2 with ⟨_, hl⟩ | ⟨g, c, cur, hv, hr⟩
  · exact absurd (List.eq_nil_of_length_eq_zero hl) h0
  · refine ⟨g, c, hv, ?_⟩
    unfold Rf
    rw [e, ← hv]
    exact h
end Go.Proofs.Ytfjfpplemgjcmab
