/- The walk of writeJson. -/
import Derived.Test.YtdnbkgbgpfmipabDoorWr
namespace Go.Proofs.YtdnbkgbgpfmipabDoor
open Go.RowKit Go.Lib

abbrev meansJ : ByteArray := ⟨#[8, 9, 10, 12, 13]⟩
abbrev lettersJ : ByteArray := ⟨#[98, 116, 110, 102, 114]⟩
def idxJ (r : Int) : Int := if r = 8 then 0 else if r = 9 then 1 else if r = 10 then 2 else if r = 12 then 3 else if r = 13 then 4 else -1
theorem idxJ_no (r : Int) (h : ¬ (8 ≤ r ∧ r ≤ 13 ∧ r ≠ 11)) : idxJ r = -1 := by
  unfold idxJ
  rw [if_neg (by omega), if_neg (by omega), if_neg (by omega), if_neg (by omega), if_neg (by omega)]
theorem idxJ_fin : ∀ x : Fin 128, Lib.indexByte meansJ.data.toList (UInt8.ofNat x.val) = idxJ (x.val : Int) := by decide +kernel
theorem meansJ_ascii : ∀ i, i < meansJ.size → bt meansJ i < 128 := by
  intro i hi
  have : ∀ x : Fin 5, bt meansJ x.val < 128 := by decide +kernel
  exact this ⟨i, hi⟩
theorem lettersJ_at (r : Int) (h : 8 ≤ r ∧ r ≤ 13 ∧ r ≠ 11) : 0 ≤ idxJ r ∧ idxJ r < 5 ∧ ∀ hh : (idxJ r).toNat < 5, ((lettersJ[(idxJ r).toNat]'hh).toNat : Int) = l7 r := by
  obtain rfl | rfl | rfl | rfl | rfl : r = 8 ∨ r = 9 ∨ r = 10 ∨ r = 12 ∨ r = 13 := by omega
  all_goals exact ⟨by decide, by decide, fun _ => rfl⟩

theorem idxJ_any (r : Int) (w : World) (hr : isRune r = true) :
    Calls Tryd.prog 50 #[.string meansJ, .int .i32 r] w fun e w' => e = .returned (.int .i64 (idxJ r)) ∧ Below w.heap.size w w' := by
  have hq := (isRune_iff r).1 hr
  by_cases h1 : r < 128
  · have k := index_ascii meansJ r w hq.1 h1
    have e := idxJ_fin ⟨r.toNat, by omega⟩
    simp only [Int.toNat_of_nonneg hq.1] at e
    rw [show r.toNat.toUInt8 = UInt8.ofNat r.toNat from rfl, e] at k
    exact k.mono fun x w' ⟨h, hw⟩ => ⟨h, by rw [hw]; exact Below.refl _ _⟩
  · rw [idxJ_no r (by omega)]
    by_cases h2 : r = 65533
    · subst h2
      exact index_bad meansJ w (by decide) meansJ_ascii
    · exact index_high meansJ r w (by decide) (by decide) meansJ_ascii (by omega) h2 hr

set_option maxHeartbeats 4000000 in
set_option maxRecDepth 100000 in
theorem writeJ_any (S : Nat) (v : Value) (l : List Int) (r : Int) (w : World) (hr : isRune r = true) (hS : S ≤ w.heap.size) (hn : l.length + 6 ≤ 140737488355328) (o : w.ownsRow S 5 1 v l.length (bc l)) :
    Calls Tryd.prog 28 #[v, .int .i32 r] w fun x w' => ∃ v', x = .returned v' ∧ w'.ownsRow S 5 1 v' (l ++ runeW byteJ r).length (bc (l ++ runeW byteJ r)) ∧ BI S w w' := by
  have hq := (isRune_iff r).1 hr
  obtain ⟨q0, q1, _⟩ := hq
  by_cases h34 : r = 34 ∨ r = 92
  · have hW : runeW byteJ r = [92, r] := by unfold runeW byteJ; rw [if_pos (by omega), if_pos h34]
    rw [hW]
    obtain ⟨v', w', r1, o1, b1⟩ := append_builtI w S v l [92, r] hS (by simp; omega) o
    have HO : Hid (w'.ownsRow S 5 1 v' (l ++ [92, r]).length (bc (l ++ [92, r]))) := o1
    have r1' : (Builtin.append_ #[29, 29] 29 #[v, .slice (some ⟨w.heap.size, 0, none⟩) 2 2]).run Tryd.prog (w.alloc (.cells #[.int .u8 92, .int .u8 r] 5)) = .ok v' w' := r1
    clear o o1 r1 hW hr
    rcases h34 with rfl | rfl
    all_goals
      go_enter Tryd.func28, Tryd.ntmps28
      go_wp2_with (at_builtin; refine wpList_append_run rfl (.tmp 12) (.tmp 15) 29 29 rfl _ _ rfl rfl r1' ?_)
      go_ret
      exact ⟨v', rfl, HO.out, b1⟩
  have t34 : (r == 34) = false := by rw [beq_eq_false_iff_ne]; omega
  have t92 : (r == 92) = false := by rw [beq_eq_false_iff_ne]; omega
  have ki := idxJ_any r w hr
  by_cases h7 : 8 ≤ r ∧ r ≤ 13 ∧ r ≠ 11
  · have hW : runeW byteJ r = [92, l7 r] := by unfold runeW byteJ; rw [if_pos (by omega), if_neg h34, if_pos h7]
    rw [hW]
    obtain ⟨s3, s4, hla0⟩ := lettersJ_at r h7
    have hla := hla0 (by omega)
    clear hla0
    have HA : Hid (∀ w1, Below w.heap.size w w1 → ∃ v' w', (Builtin.append_ #[29, 29] 29 #[v, .slice (some ⟨w1.heap.size, 0, none⟩) 2 2]).run Tryd.prog (w1.alloc (.cells #[.int .u8 92, .int .u8 (l7 r)] 5)) = .ok v' w' ∧ w'.ownsRow S 5 1 v' (l ++ [92, l7 r]).length (bc (l ++ [92, l7 r])) ∧ BI S w1 w') :=
      fun w1 hb1 => append_builtI w1 S v l [92, l7 r] (Nat.le_trans hS hb1.size) (by simp; omega) (owns_below o hb1)
    clear o hW hr h34 h7
    go_enter Tryd.func28, Tryd.ntmps28
    go_wp2_with fail
    go_fit ki
    rintro x w1 ⟨rfl, hb1⟩
    obtain ⟨v', w', r1, o1, b1⟩ := HA.out w1 hb1
    have HO : Hid (w'.ownsRow S 5 1 v' (l ++ [92, l7 r]).length (bc (l ++ [92, l7 r]))) := o1
    clear o1
    go_wp2_with (at_builtin; refine wpList_append_run rfl (.tmp 21) (.tmp 24) 29 29 rfl _ _ rfl rfl r1 ?_)
    go_ret
    exact ⟨v', rfl, HO.out, (bi_of hS hb1).trans b1⟩
  rw [idxJ_no r h7] at ki
  by_cases h32 : r < 32
  · have hW : runeW byteJ r = [92, 117, 48, 48] ++ [hx (r / 16), hx (r % 16)] := by unfold runeW byteJ; rw [if_pos (by omega), if_neg h34, if_neg h7, if_pos h32]; rfl
    rw [hW, ← List.append_assoc]
    have HA : Hid (∀ w1, Below w.heap.size w w1 → ∃ v' w', (Builtin.append_ #[29, 9] 29 #[v, .string ⟨#[92, 117, 48, 48]⟩]).run Tryd.prog w1 = .ok v' w' ∧ w'.ownsRow S 5 1 v' (l ++ [92, 117, 48, 48]).length (bc (l ++ [92, 117, 48, 48])) ∧ BI S w1 w') :=
      fun w1 hb1 => append_strI w1 S v l [92, 117, 48, 48] (by decide) (Nat.le_trans hS hb1.size) (by simp; omega) (owns_below o hb1)
    have HX : Hid (∀ v2 w2, S ≤ w2.heap.size → w2.ownsRow S 5 1 v2 (l ++ [92, 117, 48, 48]).length (bc (l ++ [92, 117, 48, 48])) → Calls Tryd.prog 51 #[v2, .int .u8 r] w2 fun x w' => ∃ v', x = .returned v' ∧ w'.ownsRow S 5 1 v' ((l ++ [92, 117, 48, 48]) ++ [hx (r / 16), hx (r % 16)]).length (bc ((l ++ [92, 117, 48, 48]) ++ [hx (r / 16), hx (r % 16)])) ∧ BI S w2 w') :=
      fun v2 w2 hs2 o2 => appendHex_any S v2 (l ++ [92, 117, 48, 48]) r w2 q0 (by omega) hs2 (by simp; omega) o2
    have hrb : r ≤ 255 := by omega
    clear o hW hr h34 h7
    go_enter Tryd.func28, Tryd.ntmps28
    go_wp2_with fail
    go_fit ki
    rintro x w1 ⟨rfl, hb1⟩
    obtain ⟨v', w', r1, o1, b1⟩ := HA.out w1 hb1
    have kx := HX.out v' w' (Nat.le_trans (Nat.le_trans hS hb1.size) b1.1.size) o1
    clear o1
    go_wp2_with (first | (at_builtin; refine wpList_append_run rfl (.tmp 28) (.const (.string ⟨#[92, 117, 48, 48]⟩)) 29 9 rfl _ _ rfl rfl r1 ?_) | (go_at_call 51; go_fit kx; rintro x w3 ⟨v3, rfl, o3, b3⟩))
    go_ret
    exact ⟨v3, rfl, o3, ((bi_of hS hb1).trans b1).trans b3⟩
  · have hW : runeW byteJ r = formL r := by
      unfold runeW byteJ
      split
      · rename_i h128
        rw [form1 r ⟨q0, h128⟩]
      · rfl
    rw [hW]
    have ka := fun (w1 : World) (hb1 : Below w.heap.size w w1) => Tryd.utf8_AppendRune_plain S v l.length (bc l) r (by omega) (by omega) w1 (owns_below o hb1) (by omega) (Nat.le_trans hS hb1.size)
    simp only [runeCells_eq r hr, ← bc_app, bc_len, ← List.length_append] at ka
    have HOL : Hid (∀ j, v.ownBlock = some j → S ≤ j) := fun j hj => (o.lt j hj).1
    have HOW : Hid (∀ w1, Below w.heap.size w w1 → ∀ ob, (w1.alloc ob).ownsRow S 5 1 v l.length (bc l)) := fun w1 hb1 ob => (owns_below o hb1).alloc ob
    have t32 : ¬ r < 32 := by omega
    clear o hW hr h34 h7 h32
    go_enter Tryd.func28, Tryd.ntmps28
    go_wp2_with fail
    go_fit ki
    rintro x w1 ⟨rfl, hb1⟩
    have ka1 := ka w1 hb1
    clear ka
    go_wp2_with fail
    go_fit ka1
    rintro x w3 ⟨v', rfl, o1, ob, g⟩
    have hb3 : BI S w w3 := (bi_of hS hb1).trans ⟨((Below.refl S w1).alloc (Nat.le_trans hS hb1.size) ob).grown g (by have := hb1.size; simp; omega) HOL.out, fun k s p hp => its_grown (HOW.out w1 hb1 ob) g k s p (its_alloc w1 ob k s p hp)⟩
    clear g
    go_wp2
    go_ret
    exact ⟨v', rfl, o1, hb3⟩
end Go.Proofs.YtdnbkgbgpfmipabDoor
