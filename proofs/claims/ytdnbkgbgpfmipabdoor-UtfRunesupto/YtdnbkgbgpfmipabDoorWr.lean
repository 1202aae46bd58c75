/- The walks of writeQuoted and writeJson. -/
import Derived.Test.YtdnbkgbgpfmipabDoorWq
import Derived.Test.YtdnbkgbgpfmipabDoorUnq
namespace Go.Proofs.YtdnbkgbgpfmipabDoor
open Go.RowKit Go.Lib

abbrev meansQ : ByteArray := ⟨#[7, 8, 9, 10, 11, 12, 13]⟩
abbrev lettersQ : ByteArray := ⟨#[97, 98, 116, 110, 118, 102, 114]⟩
def idxQ (r : Int) : Int := if 7 ≤ r ∧ r ≤ 13 then r - 7 else -1
theorem idxQ_fin : ∀ x : Fin 128, Lib.indexByte meansQ.data.toList (UInt8.ofNat x.val) = idxQ (x.val : Int) := by decide +kernel
theorem meansQ_ascii : ∀ i, i < meansQ.size → bt meansQ i < 128 := by
  intro i hi
  have : ∀ x : Fin 7, bt meansQ x.val < 128 := by decide +kernel
  exact this ⟨i, hi⟩
theorem lettersQ_fin : ∀ x : Fin 7, ((lettersQ[x.val]'x.isLt).toNat : Int) = l7 ((x.val : Int) + 7) := by decide +kernel
theorem lettersQ_at (d : Int) (h0 : 0 ≤ d) (h : d.toNat < 7) : ((lettersQ[d.toNat]'h).toNat : Int) = l7 (d + 7) := by
  have := lettersQ_fin ⟨d.toNat, h⟩
  simp only [Int.toNat_of_nonneg h0] at this
  exact this

theorem idxQ_any (r : Int) (w : World) (hr : isRune r = true) :
    Calls Tryd.prog 50 #[.string meansQ, .int .i32 r] w fun e w' => e = .returned (.int .i64 (idxQ r)) ∧ Below w.heap.size w w' := by
  have hq := (isRune_iff r).1 hr
  by_cases h1 : r < 128
  · have k := index_ascii meansQ r w hq.1 h1
    have e := idxQ_fin ⟨r.toNat, by omega⟩
    simp only [Int.toNat_of_nonneg hq.1] at e
    rw [show r.toNat.toUInt8 = UInt8.ofNat r.toNat from rfl, e] at k
    exact k.mono fun x w' ⟨h, hw⟩ => ⟨h, by rw [hw]; exact Below.refl _ _⟩
  · rw [show idxQ r = -1 by unfold idxQ; rw [if_neg (by omega)]]
    by_cases h2 : r = 65533
    · subst h2
      exact index_bad meansQ w (by decide) meansQ_ascii
    · exact index_high meansQ r w (by decide) (by decide) meansQ_ascii (by omega) h2 hr

set_option maxHeartbeats 4000000 in
set_option maxRecDepth 100000 in
theorem writeQ_any (S : Nat) (v : Value) (l : List Int) (r : Int) (w : World) (hr : isRune r = true) (hS : S ≤ w.heap.size) (hn : l.length + 6 ≤ 140737488355328) (o : w.ownsRow S 5 1 v l.length (bc l)) :
    Calls Tryd.prog 46 #[v, .int .i32 r] w fun x w' => ∃ v', x = .returned v' ∧ w'.ownsRow S 5 1 v' (l ++ runeW byteQ r).length (bc (l ++ runeW byteQ r)) ∧ BI S w w' := by
  have hq := (isRune_iff r).1 hr
  obtain ⟨q0, q1, _⟩ := hq
  by_cases h34 : r = 34 ∨ r = 92
  · have hW : runeW byteQ r = [92, r] := by unfold runeW byteQ; rw [if_pos (by omega), if_pos h34]
    rw [hW]
    obtain ⟨v', w', r1, o1, b1⟩ := append_builtI w S v l [92, r] hS (by simp; omega) o
    have HO : Hid (w'.ownsRow S 5 1 v' (l ++ [92, r]).length (bc (l ++ [92, r]))) := o1
    have r1' : (Builtin.append_ #[29, 29] 29 #[v, .slice (some ⟨w.heap.size, 0, none⟩) 2 2]).run Tryd.prog (w.alloc (.cells #[.int .u8 92, .int .u8 r] 5)) = .ok v' w' := r1
    clear o o1 r1 hW hr
    rcases h34 with rfl | rfl
    all_goals
      go_enter Tryd.func46, Tryd.ntmps46
      go_wp2_with (at_builtin; refine wpList_append_run rfl (.tmp 12) (.tmp 15) 29 29 rfl _ _ rfl rfl r1' ?_)
      go_ret
      exact ⟨v', rfl, HO.out, b1⟩
  have t34 : (r == 34) = false := by rw [beq_eq_false_iff_ne]; omega
  have t92 : (r == 92) = false := by rw [beq_eq_false_iff_ne]; omega
  have ki := idxQ_any r w hr
  by_cases h7 : 7 ≤ r ∧ r ≤ 13
  · have hW : runeW byteQ r = [92, l7 r] := by unfold runeW byteQ; rw [if_pos (by omega), if_neg h34, if_pos h7]
    rw [hW]
    rw [show idxQ r = r - 7 by unfold idxQ; rw [if_pos h7]] at ki
    have hla := lettersQ_at (r - 7) (by omega) (by omega)
    rw [show r - 7 + 7 = r by omega] at hla
    have HA : Hid (∀ w1, Below w.heap.size w w1 → ∃ v' w', (Builtin.append_ #[29, 29] 29 #[v, .slice (some ⟨w1.heap.size, 0, none⟩) 2 2]).run Tryd.prog (w1.alloc (.cells #[.int .u8 92, .int .u8 (l7 r)] 5)) = .ok v' w' ∧ w'.ownsRow S 5 1 v' (l ++ [92, l7 r]).length (bc (l ++ [92, l7 r])) ∧ BI S w1 w') :=
      fun w1 hb1 => append_builtI w1 S v l [92, l7 r] (Nat.le_trans hS hb1.size) (by simp; omega) (owns_below o hb1)
    obtain ⟨s1, s2⟩ := h7
    have s3 : 0 ≤ r - 7 := by omega
    have s4 : r - 7 < 7 := by omega
    clear o hW hr h34
    go_enter Tryd.func46, Tryd.ntmps46
    go_wp2_with fail
    go_fit ki
    rintro x w1 ⟨rfl, hb1⟩
    obtain ⟨v', w', r1, o1, b1⟩ := HA.out w1 hb1
    have HO : Hid (w'.ownsRow S 5 1 v' (l ++ [92, l7 r]).length (bc (l ++ [92, l7 r]))) := o1
    clear o1
    go_wp2_with (at_builtin; refine wpList_append_run rfl (.tmp 21) (.tmp 24) 29 29 rfl _ _ rfl rfl r1 ?_)
    go_ret
    exact ⟨v', rfl, HO.out, (bi_of hS hb1).trans b1⟩
  rw [show idxQ r = -1 by unfold idxQ; rw [if_neg h7]] at ki
  by_cases h32 : r < 32 ∨ r = 127
  · have hW : runeW byteQ r = [92, 120] ++ [hx (r / 16), hx (r % 16)] := by unfold runeW byteQ; rw [if_pos (by omega), if_neg h34, if_neg h7, if_pos h32]; rfl
    rw [hW, ← List.append_assoc]
    have HA : Hid (∀ w1, Below w.heap.size w w1 → ∃ v' w', (Builtin.append_ #[29, 9] 29 #[v, .string ⟨#[92, 120]⟩]).run Tryd.prog w1 = .ok v' w' ∧ w'.ownsRow S 5 1 v' (l ++ [92, 120]).length (bc (l ++ [92, 120])) ∧ BI S w1 w') :=
      fun w1 hb1 => append_strI w1 S v l [92, 120] (by decide) (Nat.le_trans hS hb1.size) (by simp; omega) (owns_below o hb1)
    have HX : Hid (∀ v2 w2, S ≤ w2.heap.size → w2.ownsRow S 5 1 v2 (l ++ [92, 120]).length (bc (l ++ [92, 120])) → Calls Tryd.prog 51 #[v2, .int .u8 r] w2 fun x w' => ∃ v', x = .returned v' ∧ w'.ownsRow S 5 1 v' ((l ++ [92, 120]) ++ [hx (r / 16), hx (r % 16)]).length (bc ((l ++ [92, 120]) ++ [hx (r / 16), hx (r % 16)])) ∧ BI S w2 w') :=
      fun v2 w2 hs2 o2 => appendHex_any S v2 (l ++ [92, 120]) r w2 q0 (by omega) hs2 (by simp; omega) o2
    have hrb : r ≤ 255 := by omega
    clear o hW hr h34 h7
    rcases h32 with h32 | h32
    · go_enter Tryd.func46, Tryd.ntmps46
      go_wp2_with fail
      go_fit ki
      rintro x w1 ⟨rfl, hb1⟩
      obtain ⟨v', w', r1, o1, b1⟩ := HA.out w1 hb1
      have kx := HX.out v' w' (Nat.le_trans (Nat.le_trans hS hb1.size) b1.1.size) o1
      clear o1
      go_wp2_with (first | (at_builtin; refine wpList_append_run rfl (.tmp 32) (.const (.string ⟨#[92, 120]⟩)) 29 9 rfl _ _ rfl rfl r1 ?_) | (go_at_call 51; go_fit kx; rintro x w3 ⟨v3, rfl, o3, b3⟩))
      go_ret
      exact ⟨v3, rfl, o3, ((bi_of hS hb1).trans b1).trans b3⟩
    · have t32 : ¬ r < 32 := by omega
      have t127 : (r == 127) = true := by rw [beq_iff_eq]; exact h32
      clear h32
      go_enter Tryd.func46, Tryd.ntmps46
      go_wp2_with fail
      go_fit ki
      rintro x w1 ⟨rfl, hb1⟩
      obtain ⟨v', w', r1, o1, b1⟩ := HA.out w1 hb1
      have kx := HX.out v' w' (Nat.le_trans (Nat.le_trans hS hb1.size) b1.1.size) o1
      clear o1
      go_wp2_with (first | (at_builtin; refine wpList_append_run rfl (.tmp 32) (.const (.string ⟨#[92, 120]⟩)) 29 9 rfl _ _ rfl rfl r1 ?_) | (go_at_call 51; go_fit kx; rintro x w3 ⟨v3, rfl, o3, b3⟩))
      go_ret
      exact ⟨v3, rfl, o3, ((bi_of hS hb1).trans b1).trans b3⟩
  · have hW : runeW byteQ r = formL r := by
      unfold runeW byteQ
      split
      · rename_i h128
        rw [form1 r ⟨q0, h128⟩]
      · rfl
    rw [hW]
    have ka := fun (w1 : World) (hb1 : Below w.heap.size w w1) => Tryd.utf8_AppendRune_plain S v l.length (bc l) r (by omega) (by omega) w1 (owns_below o hb1) (by omega) (Nat.le_trans hS hb1.size)
    simp only [runeCells_eq r hr, ← bc_app, bc_len, ← List.length_append] at ka
    have HOL : Hid (∀ j, v.ownBlock = some j → S ≤ j) := fun j hj => (o.lt j hj).1
    have HOW : Hid (∀ w1, Below w.heap.size w w1 → ∀ ob, (w1.alloc ob).ownsRow S 5 1 v l.length (bc l)) := fun w1 hb1 ob => (owns_below o hb1).alloc ob
    have t32 : ¬ r < 32 := by omega
    have t127 : (r == 127) = false := by rw [beq_eq_false_iff_ne]; omega
    clear o hW hr h34 h7 h32
    go_enter Tryd.func46, Tryd.ntmps46
    go_wp2_with fail
    go_fit ki
    rintro x w1 ⟨rfl, hb1⟩
    have ka1 := ka w1 hb1
    clear ka
    go_wp2_with fail
    go_fit ka1
    rintro x w3 ⟨v', rfl, o1, ob, g⟩
    have hb3 : BI S w w3 := (bi_of hS hb1).trans ⟨((Below.refl S w1).alloc (Nat.le_trans hS hb1.size) ob).grown g (by have := hb1.size; simp; omega) HOL.out, fun k s p hp => its_grown (HOW.out w1 hb1 ob) g k s p (its_alloc w1 ob k s p hp)⟩
    clear g
    go_wp2
    go_ret
    exact ⟨v', rfl, o1, hb3⟩
end Go.Proofs.YtdnbkgbgpfmipabDoor
