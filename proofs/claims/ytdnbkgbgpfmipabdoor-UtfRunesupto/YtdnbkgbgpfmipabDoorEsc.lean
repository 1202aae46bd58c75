/- The walks of readRune and readEscape. -/
import Derived.Test.YtdnbkgbgpfmipabDoorOwn
namespace Go.Proofs.YtdnbkgbgpfmipabDoor
open Go.RowKit Go.Lib

theorem validRune_eq (x : Int) : Lib.validRune x = isRune x := by
  unfold Lib.validRune isRune
  rw [Bool.eq_iff_iff]
  simp
  omega
theorem runeCells_eq (n : Int) (h : isRune n = true) : Lib.runeCells n = bc (formL n) := by
  have hq := (isRune_iff n).1 h
  unfold Lib.runeCells bc formL
  rw [if_pos h]
  by_cases h1 : n < 128
  · rw [if_pos h1, encodeRuneZ_one hq.1 (by omega)]
  · rw [if_neg h1]
    by_cases h2 : n < 2048
    · rw [if_pos h2, encodeRuneZ_two (by omega) (by omega)]
    · rw [if_neg h2]
      by_cases h3 : n < 65536
      · rw [if_pos h3, encodeRuneZ_three (by omega)]
      · rw [if_neg h3, encodeRuneZ_four (by omega) (by omega)]
theorem formL_len (n : Int) : (formL n).length ≤ 4 := by
  unfold formL
  repeat' split
  all_goals simp

set_option maxHeartbeats 1000000 in
set_option maxRecDepth 100000 in
theorem readRune_none (v : Value) (e : ByteArray) (k : Nat) (w : World) (hk : k ≤ 8) (hp : 1 ≤ e.size) (h : runeS e k = none) :
    Calls Tryd.prog 59 #[v, .string e, .int .i64 k] w fun r w' => r = .returned (.tuple #[v, .int .i64 0]) ∧ Below w.heap.size w w' := by
  have kn := number_any (e.extract 1 e.size) k 16 w (Or.inr rfl) hk
  have hpi : (1 : Int) ≤ e.size := by omega
  unfold runeS at h
  cases hn : num (e.extract 1 e.size) k 16 with
  | none =>
    rw [hn] at kn
    clear h hn
    go_enter Tryd.func59, Tryd.ntmps59
    go_wp2_with (go_at_call 72; go_fit kn; rintro x w1 ⟨rfl, hb1⟩)
    go_ret2
    exact ⟨rfl, hb1⟩
  | some n =>
    rw [hn] at kn h
    have hbd := num_bd _ k 16 (Or.inr rfl) hk n hn
    have kn' : Calls Tryd.prog 72 #[.string (e.extract 1 e.size), .int .i64 k, .int .u32 16] w fun r w' => r = .returned (.tuple #[.int .u32 n, .bool true]) ∧ Below w.heap.size w w' := kn
    have hnr : isRune n = false := by
      cases hc : isRune n with
      | false => rfl
      | true => simp [hc] at h
    have kv := fun w1 => Tryd.utf8_ValidRune n w1
    simp only [validRune_eq, hnr] at kv
    clear h hn kn hnr
    by_cases hm : 1114111 < n
    · go_enter Tryd.func59, Tryd.ntmps59
      go_wp2_with (go_at_call 72; go_fit kn'; rintro x w1 ⟨rfl, hb1⟩)
      go_ret2
      exact ⟨rfl, hb1⟩
    · go_enter Tryd.func59, Tryd.ntmps59
      go_wp2_with (first | (go_at_call 72; go_fit kn'; rintro x w1 ⟨rfl, hb1⟩) | (go_at_call 39; go_fit (kv _); rintro x w2 ⟨rfl, rfl⟩))
      go_ret2
      exact ⟨rfl, hb1⟩

set_option maxHeartbeats 1000000 in
set_option maxRecDepth 100000 in
theorem readRune_some (S : Nat) (v : Value) (l xs : List Int) (c : Nat) (e : ByteArray) (k : Nat) (w : World) (hk : k ≤ 8) (hp : 1 ≤ e.size)
    (hS : S ≤ w.heap.size) (hn : l.length + 4 ≤ 140737488355328) (o : w.ownsRow S 5 1 v l.length (bc l)) (h : runeS e k = some (xs, c)) :
    Calls Tryd.prog 59 #[v, .string e, .int .i64 k] w fun r w' => ∃ v', r = .returned (.tuple #[v', .int .i64 c]) ∧ w'.ownsRow S 5 1 v' (l ++ xs).length (bc (l ++ xs)) ∧ Below S w w' := by
  have kn := number_any (e.extract 1 e.size) k 16 w (Or.inr rfl) hk
  have hpi : (1 : Int) ≤ e.size := by omega
  unfold runeS at h
  cases hn2 : num (e.extract 1 e.size) k 16 with
  | none => rw [hn2] at h; cases h
  | some n =>
    rw [hn2] at kn h
    have hr : isRune n = true := by
      cases hc : isRune n with
      | true => rfl
      | false => simp [hc] at h
    simp only [hr, if_true, Option.some.injEq, Prod.mk.injEq] at h
    obtain ⟨rfl, rfl⟩ := h
    have hq := (isRune_iff n).1 hr
    obtain ⟨q0, q1, _⟩ := hq
    have kn' : Calls Tryd.prog 72 #[.string (e.extract 1 e.size), .int .i64 k, .int .u32 16] w fun r w' => r = .returned (.tuple #[.int .u32 n, .bool true]) ∧ Below w.heap.size w w' := kn
    have kv := fun w1 => Tryd.utf8_ValidRune n w1
    simp only [validRune_eq, hr] at kv
    have ka := fun (w1 : World) (hb1 : Below w.heap.size w w1) => Tryd.utf8_AppendRune_plain S v l.length (bc l) n (by omega) (by omega) w1 (owns_below o hb1) hn (Nat.le_trans hS hb1.size)
    simp only [runeCells_eq n hr, ← bc_app, bc_len, ← List.length_append] at ka
    have HOL : Hid (∀ j, v.ownBlock = some j → S ≤ j) := fun j hj => (o.lt j hj).1
    clear hn2 kn o hr
    go_enter Tryd.func59, Tryd.ntmps59
    go_wp2_with fail
    go_fit kn'
    rintro x w1 ⟨rfl, hb1⟩
    have ka1 := ka w1 hb1
    clear ka
    go_wp2_with fail
    go_fit (kv _)
    rintro x w2 ⟨rfl, rfl⟩
    go_wp2_with fail
    go_fit ka1
    rintro x w3 ⟨v', rfl, o1, ob, g⟩
    have hb3 : Below S w w3 := (hb1.mono hS).trans (((Below.refl S w2).alloc (Nat.le_trans hS hb1.size) ob).grown g (by have := hb1.size; simp; omega) HOL.out)
    clear g
    go_wp2
    go_ret2
    exact ⟨v', by go_num, o1, hb3⟩
end Go.Proofs.YtdnbkgbgpfmipabDoor
